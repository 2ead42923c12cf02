import PyProof.Rows.All
import Wide.All
import OpenK.AllK
import Wide.FinOn
import HandS.ForMost
import HandS.Exc
import HandS.TryOnly
import HandS.ExcOwn
import HandS.WordsExc
import HandS.IsInst
import HandS.Conv
import HandS.Sort
import HandS.SortInts
import HandS.Zip
import HandS.Zip0
import HandS.Wide
import HandS.Deep
import HandS.Flow
import HandS.Style
import HandS.TupAny
import KE.GoesEnum
import KE.KEqSeq
import KE.KEqDeep
import PyProof.TupleOfSeq
import HandS.Lambda
import HandS.Nested
import HandS.EndTab
import KE.KDictDisplayH
import KE.KDictCopyH
import KE.KIndexOf
import HandS.Dict
import HandS.DictTup
import HandS.TupLen
import HandS.Defaults
import HandS.SortRule
import KE.GoesZip
import HandS.ExcIs
import HandS.RaiseMore
import HandS.FStr
import HandS.Property
import KE.KExcSuper
import HandS.ExcInit
import HandS.ExcField
import HandS.TupMul
import PyProof.FString2
import PySem.Challenge.RW_restlesshelf_k05_programs_refused
set_option Elab.async false
set_option linter.all false
set_option maxRecDepth 100000
set_option maxHeartbeats 2000000
/-! Two rules more: a walk over enumerate of a tuple, sorted of a tuple of ints. -/
namespace RH
open PySem PySem.Spec PyProof.Rows L2
theorem made_enumB {v : Value} {o : Obj} {H : Heap → Prop} (B : Begins v o H) :
    Meets (Builtin.«enumerate.__new__» ⟨[.type "enumerate", v], []⟩) (fun _ R s => H s.heap ∧
      R (.ok (.ret (.ref (s.heap.push o).objs.size))) { s with heap := (s.heap.push o).push { cls := .type "enumerate", data := .fields #[.none, .bool false, .ref s.heap.objs.size, rawInt 0, .none, .none] } }) :=
  .of_wp fun prog w A R s h => by
    obtain ⟨hp, g, d, tz, oz⟩ := s; obtain ⟨h1, h⟩ := h
    have hsub := sub_enumerate
    have q1 : ∀ {A' : Around} {E : Value → Shared → Prop} {Q : Value → Shared → Prop}, Q (.ref hp.objs.size) ⟨hp.push o, g, d, tz, oz⟩ → wpAny (model prog w) A' (pyIter v) Q E ⟨hp, g, d, tz, oz⟩ :=
      fun q => B.iter prog w _ _ ⟨hp, g, d, tz, oz⟩ _ h1 q
    wp_walk using q1
    refine wpAny_stack_any fun st => wpAny_pure ?_
    split
    · rename_i c _ _ _ _ _
      cases (c == Value.type "enumerate")
      · wp_walk using q1
        exact ⟨_, rfl, h⟩
      · wp_walk using q1
        exact ⟨_, rfl, h⟩
    · wp_walk using q1
      exact ⟨_, rfl, h⟩
section
variable {prog : Program} {w : World} {A : Around} {E : Value → Shared → Prop} {s : Shared}
theorem enum_one {v : Value} {o : Obj} {H : Heap → Prop} {Q : Value → Shared → Prop} (B : Begins v o H) (h1 : H s.heap)
    (h : ∀ h', IsEnum h' (s.heap.objs.size + 1) s.heap.objs.size 0 .none → h'.get? s.heap.objs.size = some o → h'.objs.size = s.heap.objs.size + 2 →
      (∀ b o, s.heap.get? b = some o → h'.get? b = some o) → Q (.ref (s.heap.objs.size + 1)) { s with heap := h' }) :
    wpAny (model prog w) A (call (.type "enumerate") [v]) Q E s := by
  refine callType_new F.called_enumerate (by decide) (F.typeCall_enumerate_1 _) (F.newCall_enumerate_1 _) (fun obj => F.args_object_init_2 obj _) F.entry_enumerate_new
    (made_enumB B) ⟨h1, ?_⟩
  have hZ : (s.heap.push o).objs.size = s.heap.objs.size + 1 := Heap.size_push ..
  show _ ∧ _
  rw [hZ]
  have he : IsEnum ((s.heap.push o).push { cls := .type "enumerate", data := .fields #[.none, .bool false, .ref s.heap.objs.size, rawInt 0, .none, .none] }) (s.heap.objs.size + 1) s.heap.objs.size 0 .none := by
    have := Heap.get?_push_size (s.heap.push o) (o := { cls := .type "enumerate", data := .fields #[.none, .bool false, .ref s.heap.objs.size, rawInt 0, .none, .none] }) rfl
    rw [hZ] at this; exact this
  refine ⟨⟨_, he, rfl⟩, h _ he (Heap.get?_push_of_some _ (Heap.get?_push_size _ B.free)) (by rw [Heap.size_push, hZ]) fun b o x => Heap.get?_push_of_some _ (Heap.get?_push_of_some _ x)⟩
end
/-- the tuple at a, each item with vz number in a new pair -/
def IteT (K : PySem.W.Frag) (a : Addr) : It :=
  ⟨fun i H => ∃ (xs : List V) (x : V), SqT K H a xs ∧ xs[i]? = some x, fun i H v H' => ∃ T x, v = .ref T ∧ H T = none ∧ H' = upd H T (.tup [.int (i : Nat), x]) ∧ ∀ xs, SqT K H a xs → xs[i]? = some x, fun i H => ∃ xs : List V, SqT K H a xs ∧ xs.length ≤ i⟩
theorem ne_enum {h : Heap} {e it a : Addr} {i : Int} {old : Value} {vz : Array Value} (he : IsEnum h e it i old) (p : IsTup h a vz) : e ≠ a := fun z => by
  obtain ⟨o, hO, hC, _⟩ := p
  rw [← z, he] at hO
  cases hO
  exact absurd (Value.type.inj hC) (by decide)
theorem turn_enumT {P : Program} {w : World} {K : PySem.W.Frag} {elts : List Expr} {kk : Nat} {tpos : Pos} (a e it : Addr) :
    Turn P w K (.Tuple elts kk tpos) (IteT K a) [e, it] e (fun i h => (∃ old, IsEnum h e it ((i : Nat) : Int) old) ∧ h.IsTupleIter it a i ∧ e ≠ it ∧ a ≠ it) where
  mem := by simp
  obj := fun i h st b hb => by
    obtain ⟨⟨old, he⟩, ⟨o, hO, hC, hD⟩, _⟩ := st
    have e' : b = e ∨ b = it := by simpa using hb
    rcases e' with z | z
    · rw [z]; exact ⟨_, he, fun v q => nomatch q⟩
    · rw [z]; exact ⟨o, hO, fun v q => by rw [hD] at q; cases q⟩
  keep := fun i h h' st k => let ⟨⟨old, he⟩, hi, nEI⟩ := st; ⟨⟨old, k e (by simp) _ he⟩, hi.at fun o q => k it (by simp) o q, nEI⟩
  item := by
    intro X hP hw hK hC i pins s σ H E I hf st hg
    subst hP hw hK
    obtain ⟨⟨old, he⟩, hIt, nEI, nAI⟩ := st
    obtain ⟨xs, x, hSq, hx⟩ := hg
    obtain ⟨vz, rz, p, hZ⟩ := I.tuple hSq
    obtain ⟨u, hu, ru⟩ := rz.get hx
    have ltE : e < s.heap.objs.size := Heap.lt_size he
    have ltI : it < s.heap.objs.size := by obtain ⟨_, q, _⟩ := hIt; exact Heap.lt_size q
    have hlt : i < vz.toArray.size := by
      have := (List.getElem?_eq_some_iff.mp hu).1
      simpa using this
    refine wpAny_pyNext_enum_itemD (Draws.tuple (show X.A.in1.handled = none from I.ok.hd hC) it a nAI vz.toArray) he ⟨hIt, p⟩ hlt nEI (by
      intro hm
      have e' : e = it ∨ e = a := by simpa using hm
      rcases e' with z | z
      · exact nEI z
      · exact ne_enum he p z) fun x' h' tz hP' hO hit' hT hSz kp => ?_
    have ex : x' = u := by
      have h2 : vz.toArray[i]? = some u := by simpa using hu
      rw [h2] at hP'
      exact (Option.some.inj hP').symm
    subst ex
    refine ⟨_, rfl, wpAny_letOwnedTupleGo_enum (s := { s with heap := h', toks := tz + 1 }) hO fun h'' he' sbu => ?_⟩
    have hT2 : h''.get? s.heap.objs.size = some { cls := .type "tuple", data := .seq #[.int i tz, x'] } := (sbu.2 _ (Nat.ne_of_gt ltE)).trans hT
    have new : ObjOk X.prog X.w (upd H s.heap.objs.size (.tup [.int (i : Nat), x])) h'' s.heap.objs.size (.tup [.int (i : Nat), x]) :=
      ⟨by show 2 ≤ sizeLine; decide, [.int i tz, x'], .cons ⟨_, rfl⟩ (.cons ru .nil), ⟨_, hT2, rfl, _, rfl⟩⟩
    have I1 : Inv X pins σ (upd H s.heap.objs.size (.tup [.int (i : Nat), x])) { s with heap := h'', toks := tz + 1 } :=
      I.turnedNew (ch := [e, it]) (fun b ob hb q => (sbu.2 b (fun z => hb (by simp [z]))).trans (kp b ob (fun z => hb (by simp [z])) (fun z => hb (by simp [z])) q)) hf (Nat.le_refl _) new
    refine ⟨.ref s.heap.objs.size, _, I1, rfl, ⟨_, x, rfl, I.hok.fresh (Nat.le_refl _), rfl, fun ys hy => by rw [I.tuple_inj hy hSq]; exact hx⟩, ⟨⟨x', ?_⟩, hit'.1.at fun o q => (sbu.2 it (Ne.symm nEI)).trans q, nEI, nAI⟩, fun b hb => ?_⟩
    · have e1 : ((i + 1 : Nat) : Int) = (i : Int) + 1 := by omega
      rw [e1]; exact he'
    · have hb' : b < s.heap.objs.size := by
        have e' : b = e ∨ b = it := by simpa using hb
        rcases e' with z | z
        · rw [z]; exact ltE
        · rw [z]; exact ltI
      rw [upd_ne (Nat.ne_of_lt hb')]
      exact (hf b hb).1
  done := by
    intro X hP hw hK hC i pins s σ H E I hf st hg
    subst hP hw hK
    obtain ⟨⟨old, he⟩, hIt, nEI, nAI⟩ := st
    obtain ⟨xs, hSq, hx⟩ := hg
    obtain ⟨vz, rz, p, hZ⟩ := I.tuple hSq
    obtain ⟨f0, f1, f2, f3, f4, f5⟩ := hf it (by simp)
    have hl := rz.length
    have hT : s.TypeIs (.ref e) "enumerate" := ⟨_, he, rfl⟩
    unfold pyNext
    refine wpAny_bind (wpAny_attempt (wpAny_callSpecial?_slot (name := Str.ofString "__next__") hT F.slot_enumerate_next
      (wpAny_call_entry F.slot_enumerate_next hT F.entry_enumerate_next ?_ (F.args_enumerate_next_1 _))))
    show wpAny _ _ (field (.ref e) 2 >>= _) _ _ _
    refine wpAny_bind (wpAny_field he rfl (x := .ref it) rfl ?_)
    refine wpAny_bind (wpAny_nextOf_tuple_end (show X.A.in1.handled = none from I.ok.hd hC) hIt p (by simp; omega) fun h' x he' hx' => ?_)
    obtain ⟨o, hO, hc'⟩ := hx'
    refine wpAny_bind (wpAny_isInstance (T := "StopIteration") (b := true) ⟨o, hO, hc'⟩ isSubtype_stop ?_)
    exact wpAny_pure ⟨rfl, I.turned (t' := s.toks) (fun b o hb q => he' b o hb q) f0 f1 f3 f4 f5⟩
  self := fun A i s Q E st h => let ⟨⟨_, he⟩, _⟩ := st; wpAny_pyIter_enum he h
def iEnumT (K : PySem.W.Frag) (ta : TA) : TI := fun σ H R => ta σ H fun vs H1 => ∃ a xs, vs = [.ref a] ∧ SqT K H1 a xs ∧ R (IteT K a) H1
theorem pi_enumT {X : Cx} {e : Expr} {ta : TA} {p pos tpos : Pos} {elts : List Expr} {kk : Nat} (hg : Gl X "enumerate") (hm : X.mg "enumerate" = none) (ha : PA X [e] ta) (hs : starEach [e] X.env = [(false, eval e X.env)] := by rfl) :
    PI X (.Tuple elts kk tpos) (.Call (.Name "enumerate" p) [e] [] pos) (iEnumT X.K ta) := by
  refine ⟨fun pins s σ H R I h => ?_⟩
  refine Call_ (ld_blt I hg hm boot_enumerate (PyProof.Rows.callWith_type1 (thn (ha.run pos pins s σ H _ I h) fun us s1 ⟨vs, H1, I1, r1, q1⟩ => ?_) hs rfl))
  obtain ⟨a, xs, ex, hSq, q⟩ := q1
  subst ex
  cases r1 with
  | cons r rr =>
    cases rr
    cases r
    obtain ⟨vz, rz, p', hZ⟩ := I1.tuple hSq
    have hal : a < s1.heap.objs.size := by obtain ⟨_, q', _⟩ := id p'; exact Heap.lt_size q'
    refine enum_one (begins_tuple a vz.toArray) p' fun h' he hIt hSz kp => wpAny_pyIter_enum he ?_
    have I2 : Inv X pins σ H1 { s1 with heap := h' } := I1.kept (t' := s1.toks) kp
    refine ⟨s1.heap.objs.size + 1, [s1.heap.objs.size + 1, s1.heap.objs.size], _, _, H1, rfl, I2, turn_enumT a (s1.heap.objs.size + 1) s1.heap.objs.size, ⟨⟨.none, he⟩, ⟨_, hIt, rfl, rfl⟩, Nat.succ_ne_self _, Nat.ne_of_lt hal⟩, fun b hb => ?_, q⟩
    have e' : b = s1.heap.objs.size + 1 ∨ b = s1.heap.objs.size := by simpa using hb
    have hle : s1.heap.objs.size ≤ b := by
      rcases e' with z | z
      · rw [z]; exact Nat.le_add_right _ _
      · rw [z]; exact Nat.le_refl _
    exact I1.fpOk hle (I1.hok.fresh hle)
/-! ### sorted(a tuple of ints) -/
def rSortedTup (K : PySem.W.Frag) : List V → Hp → VK → Prop := fun vs H Q => ∃ (a : Addr) (ns : List Int), vs = [V.ref a] ∧ SqT K H a (ns.map V.int) ∧ ns.length < 64 ∧
  ∀ (ns' : List Int) (p : Addr), ns'.Perm ns → ns'.Pairwise (· ≤ ·) → H p = none → Q (.ref p) (upd H p (.lst (ns'.map V.int)))
section
variable {prog : Program} {w : World} {A : Around} {E : Value → Shared → Prop} {s : Shared}
theorem collect_tup {l : Addr} {vs : List Value} {Q : List Value → Shared → Prop} (hl : IsTup s.heap l vs.toArray)
    (h : Q vs { s with heap := (s.heap.push (seqObj "list" #[] 0)).update s.heap.objs.size (Obj.mapSeq (· ++ vs.toArray)) }) (hSz : vs.length ≤ sizeLine := by size_fits) :
    wpAny (model prog w) A (collect (.ref l)) Q E s := by
  obtain ⟨o, hO, hC, n, hD⟩ := id hl
  unfold collect
  refine wpAny_bind (wpAny_runValue (codeAny_builtin F.entry_proto_collect ?_))
  rw [Around.under_plainId F.plain_proto_collect _]
  show wpAny _ A.in1 (newList [] >>= fun l' => again (.builtin "list.__iadd__" ⟨[l', .ref l], []⟩)) _ _ s
  refine wpAny_bind (wpAny_newList (wpAny_pure ⟨plainId_quiet F.plain_list_iadd _, codeAny_builtin F.entry_list_iadd ?_⟩))
  rw [Around.under_plainId F.plain_list_iadd _]
  show wpAny _ _ (Builtin.List.listExtendWith (.ref s.heap.objs.size) (.ref l) (.ref s.heap.objs.size)) _ _ { s with heap := s.heap.push (seqObj "list" #[] 0) }
  unfold Builtin.List.listExtendWith
  have ho' : (s.heap.push (seqObj "list" #[] 0)).get? l = some o := Heap.get?_push_of_some _ hO
  refine wpAny_bind (wpAny_typeOf (T := "tuple") ⟨o, ho', hC⟩ ?_)
  have hT0 : (Value.type "tuple" == Value.type "tuple") = true := by rfl
  rw [if_pos (by rw [hT0]; simp)]
  refine wpAny_bind (listItems_at ho' hD ?_)
  refine wpAny_bind (listItems_at (xs := #[]) (n := 0) (Heap.get?_push_size _ rfl) rfl ?_)
  rw [if_neg (by simp)]
  refine wpAny_bind (listUpdate_at (xs := #[]) (n := 0) (Heap.get?_push_size _ rfl) rfl ?_ (Nat.zero_le _) (by show (#[] ++ vs.toArray).size ≤ sizeLine + 1; simp only [Array.size_append, List.size_toArray, List.length_nil]; omega))
  refine wpAny_pure ?_
  show wpAny (model prog w) A (do
      let o ← load s.heap.objs.size
      match o.data with
      | .seq xs _ => pure xs.toList
      | _ => unsupported "internal:collect") Q E { s with heap := (s.heap.push (seqObj "list" #[] 0)).update s.heap.objs.size (Obj.mapSeq (· ++ vs.toArray)) }
  refine wpAny_bind (wpAny_load (get?_update_seq (Heap.get?_push_size _ rfl) _) ?_)
  show wpAny _ _ (pure ((#[] : Array Value) ++ vs.toArray).toList) Q E _
  rw [show ((#[] : Array Value) ++ vs.toArray).toList = vs by simp]
  exact wpAny_pure h
theorem sorted_intsT {l : Addr} {vs : List Value} {ns : List Int} {Q : Value → Shared → Prop} (hl : IsTup s.heap l vs.toArray) (hI : IntsAre vs ns) (h64 : vs.length < 64)
    (h : ∀ (out : Array Value) (ns' : List Int), IntsAre out.toList ns' → ns'.Perm ns → ns'.Pairwise (· ≤ ·) → Q (.ref (s.heap.objs.size + 1)) { s with heap := sortedAll s.heap vs out }) :
    wpAny (model prog w) A (call (.builtin "sorted") [.ref l]) Q E s := by
  refine Calls.call_function_entry kind_sorted plain_sorted entry_sorted (args_sorted1 _) ?_
  unfold Builtin.«sorted»
  refine wpAny_bind (m := checkCount "sorted" 1 1 _) (wpAny_pure ?_)
  have hsz0 : vs.length ≤ sizeLine := by
    rw [sizeLine_eq]
    omega
  refine wpAny_bind (collect_tup (hSz := hsz0) hl ?_)
  refine wpAny_bind (wpAny_newList ?_)
  have hSz : ((s.heap.push (seqObj "list" #[] 0)).update s.heap.objs.size (Obj.mapSeq (· ++ vs.toArray))).objs.size = s.heap.objs.size + 1 := by
    rw [Heap.size_update, size_push']
  have hOL : (((s.heap.push (seqObj "list" #[] 0)).update s.heap.objs.size (Obj.mapSeq (· ++ vs.toArray))).push (seqObj "list" vs.toArray 0)).get? (s.heap.objs.size + 1) = some (seqObj "list" vs.toArray 0) := by
    rw [← hSz]; exact Heap.get?_push_size _ rfl
  show wpAny _ _ _ _ _ { s with heap := ((s.heap.push (seqObj "list" #[] 0)).update s.heap.objs.size (Obj.mapSeq (· ++ vs.toArray))).push (seqObj "list" vs.toArray 0) }
  rw [hSz]
  refine wpAny_bind (wpAny_holding (wpAny_call_entry slot_list_sort ⟨_, hOL, rfl⟩ entry_list_sort (list_sort_tree hOL hI h64 fun out ns' a1 a2 a3 => ⟨_, rfl, ?_⟩) (args_list_sort _)))
  exact wpAny_pure ⟨_, rfl, h out ns' a1 a2 a3⟩
end
theorem cr_sortedTup {X : Cx} : CallR X (.builtin "sorted") (rSortedTup X.K) := by
  intro pins s σ H vs us Q I r h
  obtain ⟨a, ns, rfl, hs, h64, q⟩ := h
  obtain ⟨vz, rz, hl, _⟩ := I.tuple hs
  rw [Vals.ref1 r]
  have hi := rz.ints
  refine sorted_intsT hl hi (by rw [hi.length]; exact h64) fun out ns' h1 h2 h3 => ?_
  obtain ⟨ep, he'⟩ := PyProof.Rows.sortedAll_at s.heap vz out
  have hLn : (ns'.map V.int).length ≤ sizeLine := by rw [List.length_map, h2.length_eq]; exact small64 h64
  exact ⟨.ref _, upd H (s.heap.objs.size + 1) (.lst (ns'.map V.int)), I.laid (t' := s.toks) (fun _ _ => PyProof.Rows.sortedAll_old) (Nat.le_succ _) ⟨hLn, out.toList, ep, vals_of_ints h1, he'⟩, rfl, q ns' _ h2 h3 (I.hok.fresh (Nat.le_succ _))⟩
end RH
set_option Elab.async false
set_option linter.all false
set_option maxRecDepth 100000
set_option maxHeartbeats 2000000
/-! Lambdas with parameters and captured names, as values: made, handed to a def of the text, called there. -/
namespace RH
open PySem PySem.Spec PyProof.Rows L2
open LamX (Tabs TabS TabB ExtN CodeO codeO_ne inv_table among_app)
open NdefX (NF CellsAt NScope startF ncx inv_startN codeO_at slotAt Caps cells_of upd_none)
/-- a lambda's words, what it captured, its code object -/
structure LF where
  qual : Str
  params : Arguments
  body : Expr
  scope : Scope
  cl : List (Str × Addr)
  c : Addr
abbrev LF.fd (F : LF) (pm ctv : Value) : FuncData := PySem.W.kla_fn "<lambda>" F.qual F.params F.body F.scope F.cl pm (.ref F.c) ctv
abbrev LF.nf (F : LF) : NF := ⟨"<lambda>", F.qual, F.params, [], F.scope, F.cl, F.c⟩
/-- the object at f is this lambda -/
def FnL (f : Addr) (F : LF) : HO := .ext fun h => ∃ (od : Option Addr) (sl : Array (Option Value)) (pm ctv : Value), h.get? f = some (⟨.type "function", od, .func (F.fd pm ctv), sl⟩ : Obj)
theorem fnL_ne {f : Addr} {F : LF} (ps : Array Value) : FnL f F ≠ .tbl ps := fun z => by
  unfold FnL at z
  cases z
theorem fnL_at {P : Program} {w : World} {H : Hp} {h : Heap} {f : Addr} {F : LF} (hok : HOk P w H h) (e : H f = some (FnL f F)) : ∃ (od : Option Addr) (sl : Array (Option Value)) (pm ctv : Value), h.get? f = some (⟨.type "function", od, .func (F.fd pm ctv), sl⟩ : Obj) := (hok f _ e).1
section
variable {X : Cx} {pins : List (Addr × Obj)} {σ : L2.St} {H : Hp} {s : Shared}
theorem inv_lam {F : LF} {h' : Heap} {t' : Nat} {pm ctv : Value} (I : Inv X pins σ H { s with heap := h', toks := t' }) :
    Inv X pins σ (upd H h'.objs.size (FnL h'.objs.size F)) { s with heap := h'.push { cls := .type "function", data := .func (F.fd pm ctv) }, toks := t' } := by
  refine I.laid (t' := t') (a := h'.objs.size) (fun b u e => Heap.get?_push_of_some _ e) (Nat.le_refl _) ?_
  have e : (h'.push ({ cls := .type "function", data := .func (F.fd pm ctv) } : Obj)).get? h'.objs.size = some ({ cls := .type "function", data := .func (F.fd pm ctv) } : Obj) := Heap.get?_push_size _ rfl
  exact ⟨⟨_, _, pm, ctv, e⟩, ⟨_, e⟩, fun h1 h2 ⟨od, sl, p, t, z⟩ st => ⟨od, sl, p, t, st _ z⟩⟩
/-- the lambda is made -/
theorem lam_made {T : List (Addr × Str)} {c P : Addr} {params : Arguments} {body : Expr} {scope : Scope} {pos : Pos} {E : Value → Shared → Prop} {Q : Value → Shared → Prop} (I : Inv X pins σ H s) (TB : TabB X.base X.mg c P) (hcode : X.env.code = .ref c)
    (hm : (P, X.env.qual ++ "<lambda>") ∈ T) (hu : ∀ p ∈ T, p.1 = P → p.2 = X.env.qual ++ "<lambda>") (hT : Tabs T H) (hdef : defaultsOf params X.env = ([], [])) (hfree : ∀ y ∈ scope.names, y.2 = .free → ∃ c, X.env.cells.lookup y.1 = some c)
    (h : ∀ (f c' : Addr) (H1 : Hp) (s' : Shared), Inv X pins σ H1 s' → ExtN H H1 → (∀ b, H1 b = none → H b = none) → Tabs T H1 → H f = none →
      H1 f = some (FnL f ⟨X.env.qual ++ "<lambda>", params, body, scope, cloFrom X.env.cells scope.names [], c'⟩) → H1 c' = some (CodeO c' (X.env.qual ++ "<lambda>")) → Q (.ref f) s') :
    wpAny (model X.prog X.w) X.A (eval (.Lambda params body scope pos) X.env) Q E s := by
  obtain ⟨ps, hP, ht, ha⟩ := hT _ hm
  refine PySem.W.kla_eval hdef ?_
  have bP : s.heap.BuiltinsAt X.mg P := TB.bm.keeps I.bk
  have hP' : s.heap.get? P = some { cls := .none, data := .fields ps } := I.hok P _ hP
  cases hc : codeAmong pos ps.toList with
  | none =>
    refine PySem.W.kla_makeFunction (mg := X.mg) (c := c) (P := P) (ps := ps) (closure_ok hfree) I.ok.glob (I.mod.glob.keeps I.bk) hcode (TB.code.keeps I.bk) hP' ht hc TB.gP bP fun c' ctv h' tk hx hge hlt hrec htb => ?_
    obtain ⟨c2, oc, vs, t, e2, hoc, hd, hv⟩ := hrec
    cases e2
    have nC : H c' = none := I.hok.fresh hge
    have I1 := inv_table (t' := tk) (more := #[rawInt pos.line, rawInt pos.col, .ref c']) (h' := h') I hP (fun b o hb e => hx b o hb e) htb hge ⟨oc, vs, t, hoc, hd, hv⟩
    generalize hG : upd (upd H P (.tbl (ps ++ #[rawInt pos.line, rawInt pos.col, .ref c']))) c' (CodeO c' (X.env.qual ++ "<lambda>")) = G at I1
    have hE : ExtN H G := fun b o e n => by
      rw [← hG, upd_ne (ne_of_none e nC), upd_ne (fun z => n ps (Option.some.inj (e.symm.trans (by rw [z]; exact hP))))]
      exact e
    have gP : G P = some (.tbl (ps ++ #[rawInt pos.line, rawInt pos.col, .ref c'])) := by rw [← hG, upd_ne (ne_of_none hP nC), upd_same]
    have gC : G c' = some (CodeO c' (X.env.qual ++ "<lambda>")) := by rw [← hG, upd_same]
    have gO : ∀ b ps', b ≠ P → H b = some (.tbl ps') → G b = some (.tbl ps') := fun b ps' nb e => by
      rw [← hG, upd_ne (ne_of_none e nC), upd_ne nb]
      exact e
    have gN : ∀ b, G b = none → H b = none := fun b e => by
      rw [← hG] at e
      exact upd_none (upd_none e)
    have eL : (ps ++ #[rawInt pos.line, rawInt pos.col, .ref c']).toList = ps.toList ++ [rawInt pos.line, rawInt pos.col, .ref c'] := by simp
    have T1 : Tabs T G := fun p hp => by
      by_cases hb : p.1 = P
      · rw [hu p hp hb, hb]
        refine ⟨_, gP, by rw [eL]; exact PySem.TriplesOk_snoc _ _ _ _ ht, fun p' cv hcv => ?_⟩
        rw [eL] at hcv
        rcases among_app _ ht hcv with z | z
        · obtain ⟨c0, e1, e2⟩ := ha p' cv z
          exact ⟨c0, e1, hE _ _ e2 codeO_ne⟩
        · exact ⟨c', z, gC⟩
      · obtain ⟨ps', a1, a2, a3⟩ := hT p hp
        refine ⟨ps', gO _ _ hb a1, a2, fun p' cv hcv => ?_⟩
        obtain ⟨c0, e1, e2⟩ := a3 p' cv hcv
        exact ⟨c0, e1, hE _ _ e2 codeO_ne⟩
    have nF : G h'.objs.size = none := I1.hok.fresh (Nat.le_refl _)
    have I2 := inv_lam (F := ⟨X.env.qual ++ "<lambda>", params, body, scope, cloFrom X.env.cells scope.names [], c'⟩) (pm := (X.mg "__name__").getD .none) (ctv := ctv) I1
    refine h h'.objs.size c' _ _ I2 (fun b o e n => ?_) (fun b e => gN b (upd_none e)) (T1.ext fun b o e => ?_) (gN _ nF) upd_same ?_
    · have e1 := hE b o e n
      exact (upd_ne (ne_of_none e1 nF)).trans e1
    · exact (upd_ne (ne_of_none e nF)).trans e
    · exact (upd_ne (ne_of_none gC nF)).trans gC
  | some cv =>
    obtain ⟨c', e, hco⟩ := ha pos cv hc
    subst e
    refine PySem.W.kla_makeFunctionHit (mg := X.mg) (c := c) (P := P) (ps := ps) (closure_ok hfree) I.ok.glob (I.mod.glob.keeps I.bk) hcode (TB.code.keeps I.bk) hP' ht hc bP fun ctv h' tk hx hsz => ?_
    have I1 : Inv X pins σ H { s with heap := h', toks := tk } := I.kept hx
    have nF : H h'.objs.size = none := I1.hok.fresh (Nat.le_refl _)
    have I2 := inv_lam (F := ⟨X.env.qual ++ "<lambda>", params, body, scope, cloFrom X.env.cells scope.names [], c'⟩) (pm := (X.mg "__name__").getD .none) (ctv := ctv) I1
    refine h h'.objs.size c' _ _ I2 (fun b o e n => ?_) (fun b e => upd_none e) (hT.ext fun b o e => ?_) nF upd_same ?_
    · exact (upd_ne (ne_of_none e nF)).trans e
    · exact (upd_ne (ne_of_none e nF)).trans e
    · exact (upd_ne (ne_of_none hco nF)).trans hco
end
/-- lambda a, b: .. as a value -/
def tLamE (T : List (Addr × Str)) (mk : Addr → LF) : TE := fun _ H Q => Tabs T H ∧ ∀ (f c' : Addr) (H1 : Hp), ExtN H H1 → (∀ b, H1 b = none → H b = none) → Tabs T H1 → H f = none → H1 f = some (FnL f (mk c')) → H1 c' = some (CodeO c' (mk c').qual) → Q (.ref f) H1
theorem pe_lam {X : Cx} {T : List (Addr × Str)} {c P : Addr} {params : Arguments} {body : Expr} {scope : Scope} {pos : Pos} (TB : TabB X.base X.mg c P) (hcode : X.env.code = .ref c)
    (hm : (P, X.env.qual ++ "<lambda>") ∈ T) (hu : ∀ p ∈ T, p.1 = P → p.2 = X.env.qual ++ "<lambda>") (hdef : defaultsOf params X.env = ([], []))
    (hfree : ∀ y ∈ scope.names, y.2 = .free → X.env.scope.names.lookup y.1 = some .cell ∨ X.env.scope.names.lookup y.1 = some .free) :
    PE X (.Lambda params body scope pos) (tLamE T fun c' => ⟨X.env.qual ++ "<lambda>", params, body, scope, cloFrom X.env.cells scope.names [], c'⟩) := by
  refine ⟨fun pins s σ H Q I h => ?_⟩
  obtain ⟨hT, q⟩ := h
  refine lam_made I TB hcode hm hu hT hdef (fun y hy e => (hfree y hy e).elim (fun z => I.ok.has _ (.inl z)) fun z => I.ok.has _ (.inr z)) fun f c' H1 s' I' e n T' hf h1 h2 => ?_
  exact ⟨.ref f, H1, I', rfl, q f c' H1 e n T' hf h1 h2⟩
/-! ### what a lambda promises -/
structure LOk (P : Program) (w : World) (K : PySem.W.Frag) (mg : Str → Option Value) (base : Heap) (CX : CXT) (k : Nat) (f : Addr) (F : LF) (ps fr : List Str) (sp : List (Option V) → Sp) : Prop where
  len : ∀ ws vs H Q E, sp ws vs H Q E → vs.length = ps.length
  run : ∀ (A : Around) (outer : List Env) (s : Shared) (H : Hp) (us : List Value) (vs : List V) (ws : List (Option V)) (Q : VK) (E : XK), Room k A → Env0 P w K mg base A outer s H → H f = some (FnL f F) → H F.c = some (CodeO F.c F.qual) →
    CellsAt F.cl fr ws s.heap H → Vals vs us → sp ws vs H Q E → codeAny (model P w) A (.call (.ref f) ⟨us, []⟩) (CR CX outer P w H s Q E) s
section
variable {CX : CXT} {P : Program} {w : World} {K : PySem.W.Frag} {mg : Str → Option Value} {base : Heap} {N ps fr : List Str} {F : LF} {f : Addr} {k j : Nat} {sp : List (Option V) → Sp}
/-- a lambda by its body -/
theorem lok_of (S : NScope N ps fr F.scope) (hb : ∀ (pm ctv : Value) (us : List Value), us.length = ps.length → bindArgs (F.fd pm ctv) ⟨us, []⟩ = pure (ps.zip us)) (len : ∀ ws vs H Q E, sp ws vs H Q E → vs.length = ps.length)
    (hbody : ∀ (A : Around) (outer : List Env) (s : Shared) (H : Hp) (vs : List V) (ws : List (Option V)) (Q : VK) (E : XK), Room k (A.deeper (NdefX.envF F.nf f s.heap.objs.size)) → ws.length = fr.length → sp ws vs H Q E →
      ∃ t, PE (ncx CX P w K mg base N F.nf f A outer s H E) F.body t ∧ t (startF N vs ws) H Q) :
    LOk P w K mg base CX (k + 1) f F ps fr sp := by
  refine ⟨len, fun A outer s H us vs ws Q E hr e0 hf hc C r hsp => ?_⟩
  have hl := len _ _ _ _ _ hsp
  have lim : s.heap.NoLimit := e0.mod.nolimit.keeps fun b o e => (e0.bs b o e).1
  obtain ⟨od, sl, pm, ctv, ho⟩ := fnL_at e0.hok hf
  refine PySem.W.kla_callFunE hr.depth ho rfl S.co S.gen rfl (codeO_at e0.hok hc) ?_
  rw [hb pm ctv us (by rw [← r.length]; exact hl)]
  refine wpAny_pure (wpAny_newFunctionEnv S.nocell (fun ⟨n, _⟩ hy => S.par n (List.of_mem_zip hy).1) (fun h₁ hns hsb => ⟨lim.fresh _ hsb, ?_⟩) S.kind)
  show codeAny _ _ (.expr F.body (NdefX.envF F.nf f s.heap.objs.size)) _ _
  have kp : ∀ b o, s.heap.get? b = some o → h₁.get? b = some o := fun b o e => hsb.extBut b o (Nat.ne_of_lt (Heap.lt_size e)) (Heap.get?_push_of_some _ e)
  obtain ⟨t, ht, hq⟩ := hbody A outer s H vs ws Q E (hr.deeper _) C.len hsp
  have I : Inv (ncx CX P w K mg base N F.nf f A outer s H E) [] (startF N vs ws) H { s with heap := h₁, toks := s.toks + (ps.zip us).length } := inv_startN (F := F.nf) S hr.hd e0 hl r C hns kp
  refine PySem.W.kla_codeExpr (wpAny_mono (ht.run [] _ (startF N vs ws) H Q I hq) (fun v s' hs => ?_) fun e s' hs => hs)
  obtain ⟨v', H', J, rv, q⟩ := hs
  exact ⟨v', H', J.os, J.bare, J.base, J.hok, rv, q⟩
end
/-! ### a def that is handed things that can be called -/
end RH
set_option Elab.async false
set_option linter.all false
set_option maxRecDepth 100000
set_option maxHeartbeats 2000000
/-! Dicts with tuples for keys: one pair written out, their values; where an int stands in a tuple. -/
set_option Elab.async false
set_option linter.all false
set_option maxRecDepth 100000
set_option maxHeartbeats 2000000
/-! Tuples told by their very object, and dicts whose keys are such tuples of ints. -/
namespace RH
open PySem PySem.Spec PyProof.Rows L2
def keyOf (s : List Int) : List L2.Key := s.map Sum.inl
theorem keyOf_kV (s : List Int) : (keyOf s).map kV = s.map V.int := by
  unfold keyOf
  rw [List.map_map]
  rfl
theorem mapInt_inj : ∀ {s t : List Int}, s.map V.int = t.map V.int → s = t
  | [], [], _ => rfl
  | [], _ :: _, e => by simp at e
  | _ :: _, [], e => by simp at e
  | a :: s, b :: t, e => by
    rw [List.map_cons, List.map_cons] at e
    injection e with e1 e2
    rw [V.int.inj e1, mapInt_inj e2]
theorem keyOf_inj {s t : List Int} (h : keyOf s = keyOf t) : s = t := by
  have e : (keyOf s).map kV = (keyOf t).map kV := by rw [h]
  rw [keyOf_kV, keyOf_kV] at e
  exact mapInt_inj e
/-- b is a tuple of these ints -/
def KX (H : Hp) (b : Addr) (s : List Int) : Prop := Rd H b (.tup (s.map V.int))
/-- the same, and its very object is known, one without a dict -/
def FT (H : Hp) (b : Addr) (s : List Int) : Prop := ∃ ob, H b = some (.frz ob (.tup (s.map V.int))) ∧ ob.dict = none
theorem FT.kx {H : Hp} {b : Addr} {s : List Int} (h : FT H b s) : KX H b s := let ⟨ob, h, _⟩ := h; .inr ⟨ob, h⟩
inductive XS : List (List Int × V) → List Addr → List (List L2.Key × Addr × Value) → Prop
  | nil : XS [] [] []
  | cons {q : List Int × V} {b : Addr} {u : Value} {as : List (List Int × V)} {bs : List Addr} {xs : List (List L2.Key × Addr × Value)} : RelV q.2 u → XS as bs xs → XS (q :: as) (b :: bs) ((keyOf q.1, b, u) :: xs)
inductive KB (H : Hp) : List (List Int × V) → List Addr → Prop
  | nil : KB H [] []
  | cons {q : List Int × V} {b : Addr} {as : List (List Int × V)} {bs : List Addr} : KX H b q.1 → KB H as bs → KB H (q :: as) (b :: bs)
theorem KB.snoc {H : Hp} {q : List Int × V} {b : Addr} (h : KX H b q.1) : ∀ {as : List (List Int × V)} {bs : List Addr}, KB H as bs → KB H (as ++ [q]) (bs ++ [b])
  | _, _, .nil => .cons h .nil
  | _, _, .cons g t => .cons g (t.snoc h)
theorem KB.imp {H H' : Hp} (f : ∀ b s, KX H b s → KX H' b s) : ∀ {as : List (List Int × V)} {bs : List Addr}, KB H as bs → KB H' as bs
  | _, _, .nil => .nil
  | _, _, .cons g t => .cons (f _ _ g) (t.imp f)
theorem XS.len : ∀ {as : List (List Int × V)} {bs : List Addr} {xs : List (List L2.Key × Addr × Value)}, XS as bs xs → xs.length = as.length
  | _, _, _, .nil => rfl
  | _, _, _, .cons _ t => congrArg (· + 1) t.len
theorem XS.snoc {q : List Int × V} {b : Addr} {u : Value} (h : RelV q.2 u) : ∀ {as : List (List Int × V)} {bs : List Addr} {xs : List (List L2.Key × Addr × Value)}, XS as bs xs → XS (as ++ [q]) (bs ++ [b]) (xs ++ [(keyOf q.1, b, u)])
  | _, _, _, .nil => .cons h .nil
  | _, _, _, .cons g t => .cons g (t.snoc h)
theorem atKey_neg {x : List L2.Key × Addr × Value} {xs : List (List L2.Key × Addr × Value)} {k : List L2.Key} (e : ¬ x.1 = k) : atKey (x :: xs) k = atKey xs k := by simp [atKey, List.find?_cons, e]
theorem XS.no {s : List Int} : ∀ {as : List (List Int × V)} {bs : List Addr} {xs : List (List L2.Key × Addr × Value)}, XS as bs xs → s ∉ as.map Prod.fst → atKey xs (keyOf s) = none
  | _, _, _, .nil, _ => rfl
  | _, _, _, .cons g t, h => (atKey_neg fun e => h (by rw [← keyOf_inj e]; exact List.mem_cons_self ..)).trans (t.no fun z => h (List.mem_cons_of_mem _ z))
/-- the dict at d: as with its values, bs its keys' tuples -/
abbrev DE (P : Program) (w : World) (as : List (List Int × V)) (bs : List Addr) (d : Addr) : HO := .ext fun h => (d == sysModules) = false ∧ as.length ≤ sizeLine ∧ ∃ xs : List (List L2.Key × Addr × Value), XS as bs xs ∧
  ∃ o es ep, h.get? d = some o ∧ o.ExactDict ∧ o.data = .dict es ep ∧ es.toList = xs.map (entryOfKey (tupleKind (mixKind P w))) ∧ (xs.map (·.1)).Nodup
theorem DE.ok {P : Program} {w : World} {H : Hp} {h : Heap} {as : List (List Int × V)} {bs : List Addr} {d : Addr} {xs : List (List L2.Key × Addr × Value)} (hd : (d == sysModules) = false) (hl : as.length ≤ sizeLine) (hx : XS as bs xs) (dd : h.DictOfH (tupleKind (mixKind P w)) d xs) : ObjOk P w H h d (DE P w as bs d) := by
  obtain ⟨o, es, ep, h1, h2, h3, h4, _, h5⟩ := dd
  refine ⟨⟨hd, hl, xs, hx, o, es, ep, h1, h2, h3, h4, h5⟩, ⟨o, h1⟩, fun h1 h2 ⟨a1, a2, xs, a3, o, es, ep, b1, b2⟩ k => ⟨a1, a2, xs, a3, o, es, ep, k _ b1, b2⟩⟩
/-! ### the rules -/
section
variable {X : Cx} {o i k v value : Expr} {pos pos' tpos : Pos} {td ty tk tv : TE}
/-- tuple(xs) of a list, told by its very object -/
def kTupF (K : PySem.W.Frag) (x : V) (H : Hp) (Q : VK) : Prop := ∃ p xs, x = .ref p ∧ SqL K H p xs ∧ ∀ q ob, H q = none → ob.dict = none → Q (.ref q) (upd H q (.frz ob (.tup xs)))
theorem pe_tupleF {a : Expr} {ta : TE} {p : Pos} (hg : Gl X "tuple") (hm : X.mg "tuple" = none) (ha : PE X a ta) (na : starEach [a] X.env = (false, eval a X.env) :: starEach [] X.env := by rfl) : PE X (.Call (.Name "tuple" p) [a] [] pos) (tThen ta (kTupF X.K)) := by
  refine ⟨fun pins s σ H Q I h => ?_⟩
  refine Call_ (ld_blt I hg hm boot_tuple (PyProof.Rows.callWith_type1 (one_arg ha I h (fun v s2 x H2 I2 r q => ?_) na) na))
  obtain ⟨p, xs, rfl, hs, q⟩ := q
  obtain rfl : v = .ref p := r
  obtain ⟨its, rv, pl, hz⟩ := I2.list hs
  refine call_tuple_list pl.isList (fun h' hk => ?_) (by rw [List.size_toArray, ← rv.length]; exact hz)
  have I3 : Inv X pins σ H2 { s2 with heap := h' } := I2.kept (t' := s2.toks) hk
  have e : (h'.push { cls := .type "tuple", data := .seq its.toArray }).get? h'.objs.size = some { cls := .type "tuple", data := .seq its.toArray } := Heap.get?_push_size _ rfl
  have I4 : Inv X pins σ (upd H2 h'.objs.size (.frz { cls := .type "tuple", data := .seq its.toArray } (.tup xs))) { s2 with heap := h'.push { cls := .type "tuple", data := .seq its.toArray } } :=
    I3.laid (t' := s2.toks) (fun b o e => Heap.get?_push_of_some _ e) (Nat.le_refl _) ⟨e, hz, its, rv, IsTup.new _ _⟩
  exact ⟨.ref h'.objs.size, _, I4, rfl, q _ _ (I3.hok.fresh (Nat.le_refl _)) rfl⟩
end
end RH
set_option Elab.async false
set_option linter.all false
set_option maxRecDepth 100000
set_option maxHeartbeats 2000000
/-! Sorted lists of tuples of ints, of any length; more rules for dicts whose keys are such tuples. -/
namespace RH
open PySem PySem.Spec PyProof.Rows L2
open SrtO (Swo Srtd Stb SortableO Cmp lt2)
open TS (TupInts intsOf code Bd lex_ints firsts_of)
/-- below 10, by the digits -/
def ltL (s t : List Int) : Bool := decide (code 10 s < code 10 t)
theorem swo_by {α : Type} (f : α → Int) : Swo fun x y : α => decide (f x < f y) := by
  refine ⟨fun x y h => ?_, fun x y z h1 h2 => ?_⟩
  · simp only [decide_eq_true_eq] at h
    simp only [decide_eq_false_iff_not]
    omega
  · simp only [decide_eq_false_iff_not] at *
    omega
theorem ltL_swo : Swo ltL := swo_by (code 10)
/-- each of xs is a tuple of the ints -/
inductive EX (H : Hp) : List V → List (List Int) → Prop
  | nil : EX H [] []
  | cons {b : Addr} {s : List Int} {xs : List V} {ls : List (List Int)} : KX H b s → EX H xs ls → EX H (.ref b :: xs) (s :: ls)
theorem EX.len {H : Hp} : ∀ {xs : List V} {ls : List (List Int)}, EX H xs ls → xs.length = ls.length
  | _, _, .nil => rfl
  | _, _, .cons _ t => congrArg (· + 1) t.len
theorem EX.imp {H H' : Hp} (f : ∀ b s, KX H b s → KX H' b s) : ∀ {xs : List V} {ls : List (List Int)}, EX H xs ls → EX H' xs ls
  | _, _, .nil => .nil
  | _, _, .cons g t => .cons (f _ _ g) (t.imp f)
theorem EX.snoc {H : Hp} {b : Addr} {s : List Int} (h : KX H b s) : ∀ {xs : List V} {ls : List (List Int)}, EX H xs ls → EX H (xs ++ [.ref b]) (ls ++ [s])
  | _, _, .nil => .cons h .nil
  | _, _, .cons g t => .cons g (t.snoc h)
theorem EX.at {H : Hp} : ∀ {xs : List V} {ls : List (List Int)} {i : Nat} {s : List Int}, EX H xs ls → ls[i]? = some s → ∃ b, xs[i]? = some (V.ref b) ∧ KX H b s
  | _, _, _, _, .nil, e => by simp at e
  | _, _, 0, _, .cons h _, e => by
    cases Option.some.inj e
    exact ⟨_, rfl, h⟩
  | _, _, i + 1, _, .cons _ t, e => t.at (i := i) e
theorem EX.of {P : Program} {w : World} {H : Hp} {h : Heap} : ∀ {out : List Value}, (∀ v ∈ out, ∃ b, v = Value.ref b ∧ KX H b (intsOf h v)) → Vals (out.map backV) out ∧ EX H (out.map backV) (out.map (intsOf h))
  | [], _ => ⟨.nil, .nil⟩
  | v :: out, hv => by
    obtain ⟨r, e⟩ := EX.of (P := P) (w := w) (H := H) (h := h) (out := out) fun u hu => hv u (List.mem_cons_of_mem _ hu)
    obtain ⟨b, rfl, k⟩ := hv v (List.mem_cons_self ..)
    exact ⟨.cons rfl r, .cons k e⟩
/-- what sorted makes of tuples of the ints ls -/
def SoT (H : Hp) (ls : List (List Int)) (ys : List V) (ls' : List (List Int)) : Prop := Srtd ltL ls' ∧ Stb ltL ls' ls ∧ EX H ys ls' ∧ ls'.length = ls.length
theorem SoT.one {H H' : Hp} {ls a b : List (List Int)} {ys zs : List V} (h1 : SoT H ls ys a) (h2 : SoT H' ls zs b) : a = b :=
  SrtO.stb_uniq ltL_swo h1.1 h2.1 ⟨h1.2.1.perm.trans h2.2.1.perm.symm, fun x => (h1.2.1.cls x).trans (h2.2.1.cls x).symm⟩
end RH
set_option Elab.async false
set_option linter.all false
set_option maxRecDepth 100000
set_option maxHeartbeats 2000000
namespace RH
open PySem PySem.Spec PyProof.Rows L2
open SrtO (Swo Srtd Stb SortableO Cmp lt2)
open TS (TupInts intsOf code Bd lex_ints firsts_of)
theorem KB.ex {H : Hp} : ∀ {as : List (List Int × V)} {bs : List Addr}, KB H as bs → EX H (bs.map V.ref) (as.map Prod.fst)
  | _, _, .nil => .nil
  | _, _, .cons g t => .cons g t.ex
/-! ### get, in, a new one, [..] = -/
end RH
set_option Elab.async false
set_option linter.all false
set_option maxRecDepth 100000
set_option maxHeartbeats 2000000
/-! Lambdas that a def hands back: the cells that they caught are tracked from then on. -/
namespace RH
open PySem PySem.Spec PyProof.Rows L2
open LamX (Tabs TabS TabB ExtN CodeO codeO_ne)
open NdefX (NF CellsAt NScope startF ncx codeO_at slotAt Caps cells_of)
/-- the cell at c holds v -/
def CellO (c : Addr) (v : V) : HO := .ext fun h => ∃ u, L2.RelV v u ∧ h.IsCell c (some u)
theorem cellO_ne {c : Addr} {v : V} : (∀ y, CellO c v ≠ .own y) ∧ (∀ xs, CellO c v ≠ .tup xs) ∧ (∀ o u, CellO c v ≠ .frz o u) ∧ (∀ ps, CellO c v ≠ .tbl ps) := by
  unfold CellO
  exact ⟨fun _ z => (nomatch z), fun _ z => (nomatch z), fun _ _ z => (nomatch z), fun _ z => (nomatch z)⟩
theorem cellO_ok {P : Program} {w : World} {H : Hp} {h : Heap} {c : Addr} {v : V} (q : ∃ u, L2.RelV v u ∧ h.IsCell c (some u)) : ObjOk P w H h c (CellO c v) :=
  ⟨q, let ⟨_, _, o, e, _⟩ := q; ⟨o, e⟩, fun _ _ ⟨u, r, o, e, d⟩ st => ⟨u, r, o, st o e, d⟩⟩
abbrev CL := List (Addr × V)
/-- without the cells, with them -/
def era (l : CL) (H : Hp) : Hp := fun b => match l.lookup b with
  | some _ => none
  | none => H b
def lay (l : CL) (H : Hp) : Hp := fun b => match l.lookup b with
  | some v => some (CellO b v)
  | none => H b
theorem era_in {l : CL} {H : Hp} {b : Addr} {v : V} (e : l.lookup b = some v) : era l H b = none := by
  unfold era
  rw [e]
theorem era_no {l : CL} {H : Hp} {b : Addr} (e : l.lookup b = none) : era l H b = H b := by
  unfold era
  rw [e]
theorem lay_in {l : CL} {H : Hp} {b : Addr} {v : V} (e : l.lookup b = some v) : lay l H b = some (CellO b v) := by
  unfold lay
  rw [e]
theorem lay_no {l : CL} {H : Hp} {b : Addr} (e : l.lookup b = none) : lay l H b = H b := by
  unfold lay
  rw [e]
/-- the cells stand -/
def Stand (l : CL) (H : Hp) : Prop := ∀ b v, l.lookup b = some v → H b = some (CellO b v)
theorem Stand.ext {l : CL} {H H' : Hp} (s : Stand l H) (e : ExtN H H') : Stand l H' := fun b v q => e b _ (s b v q) cellO_ne.2.2.2
theorem Stand.same {l : CL} {H H' : Hp} (s : Stand l H) (e : Same H H') : Stand l H' := fun b v q => e b _ (s b v q)
theorem Stand.lay (l : CL) (H : Hp) : Stand l (lay l H) := fun _ _ q => lay_in q
theorem Stand.cases {l : CL} {H : Hp} (s : Stand l H) {b : Addr} {o : HO} (e : H b = some o) : (∃ v, l.lookup b = some v ∧ o = CellO b v) ∨ (l.lookup b = none ∧ era l H b = some o) := by
  cases q : l.lookup b with
  | some v => exact .inl ⟨v, rfl, Option.some.inj (e.symm.trans (s b v q))⟩
  | none => exact .inr ⟨rfl, (era_no q).trans e⟩
theorem Stand.tup {l : CL} {H : Hp} (s : Stand l H) {b : Addr} {xs : List V} (e : H b = some (.tup xs)) : era l H b = some (.tup xs) := by
  rcases s.cases e with ⟨v, _, z⟩ | ⟨_, z⟩
  · exact absurd z.symm (cellO_ne.2.1 xs)
  · exact z
theorem Stand.frz {l : CL} {H : Hp} (s : Stand l H) {b : Addr} {o : Obj} {u : HO} (e : H b = some (.frz o u)) : era l H b = some (.frz o u) := by
  rcases s.cases e with ⟨v, _, z⟩ | ⟨_, z⟩
  · exact absurd z.symm (cellO_ne.2.2.1 o u)
  · exact z
theorem Stand.rd {l : CL} {H : Hp} (s : Stand l H) {b : Addr} {xs : List V} (e : Rd H b (.tup xs)) : Rd (era l H) b (.tup xs) := by
  rcases e with e | ⟨o, e⟩
  · exact .inl (s.tup e)
  · exact .inr ⟨o, s.frz e⟩
/-- the heap with the cells goes on as the one without them does -/
theorem Stand.on {l : CL} {H H2 : Hp} (s : Stand l H) (e : Same (era l H) H2) : Same H (RH.lay l H2) := fun b o q => by
  rcases s.cases q with ⟨v, z, rfl⟩ | ⟨z, y⟩
  · exact lay_in z
  · exact (lay_no z).trans (e b o y)
theorem Stand.hok {P : Program} {w : World} {l : CL} {H : Hp} {h : Heap} (s : Stand l H) (k : HOk P w H h) : HOk P w (era l H) h := fun a o e => by
  cases q : l.lookup a with
  | some v =>
    rw [era_in q] at e
    cases e
  | none =>
    rw [era_no q] at e
    refine (k a o e).stay (fun _ _ _ z => z) (fun b z => ?_) fun b xs z => s.tup z
    rcases s.cases z with ⟨v, _, y⟩ | ⟨_, y⟩
    · exact absurd y.symm (cellO_ne.1 a)
    · exact y
/-- what a lambda caught, and where -/
structure Cap (F : LF) (fr : List Str) (ws : List V) (l : CL) : Prop where
  len : ws.length = fr.length
  all : ∀ y c, F.cl.lookup y = some c → ∃ v, l.lookup c = some v
  inj : ∀ x y c, F.cl.lookup x = some c → F.cl.lookup y = some c → x = y
  has : ∀ (i : Nat) (y : Str), fr[i]? = some y → ∃ c, F.cl.lookup y = some c ∧ ∀ v, ws[i]? = some v → l.lookup c = some v
/-- the lambda at f stands, with its code and its cells -/
structure LiveK (f : Addr) (F : LF) (l : CL) (H : Hp) : Prop where
  fn : H f = some (FnL f F)
  code : H F.c = some (CodeO F.c F.qual)
  st : Stand l H
theorem LiveK.same {f : Addr} {F : LF} {l : CL} {H H' : Hp} (k : LiveK f F l H) (e : Same H H') : LiveK f F l H' := ⟨e _ _ k.fn, e _ _ k.code, k.st.same e⟩
theorem LiveK.ext {f : Addr} {F : LF} {l : CL} {H H' : Hp} (k : LiveK f F l H) (e : ExtN H H') : LiveK f F l H' := ⟨e _ _ k.fn (fun ps => fnL_ne ps), e _ _ k.code (fun ps => codeO_ne ps), k.st.ext e⟩
section
variable {CX : CXT} {P : Program} {w : World} {K : PySem.W.Frag} {mg : Str → Option Value} {base : Heap} {ps fr : List Str} {k : Nat} {f : Addr} {F : LF} {ws : List V} {l : CL} {outer : List Env} {s : Shared} {H : Hp}
theorem LiveK.nofn {h : Heap} (L : LiveK f F l H) (hok : HOk P w H h) : l.lookup f = none ∧ l.lookup F.c = none := by
  constructor
  · cases q : l.lookup f with
    | none => rfl
    | some v =>
      exfalso
      obtain ⟨od, sl, pm, ctv, ho⟩ := fnL_at hok L.fn
      obtain ⟨⟨u, _, o, e, d⟩, _⟩ := hok f _ (L.st f v q)
      rw [ho] at e
      cases e
      cases d
  · cases q : l.lookup F.c with
    | none => rfl
    | some v =>
      exfalso
      obtain ⟨c, oc, vs, t, e0, h1, h2, _⟩ := codeO_at hok L.code
      cases e0
      obtain ⟨⟨u, _, o, e, d⟩, _⟩ := hok F.c _ (L.st F.c v q)
      rw [h1] at e
      cases e
      rw [h2] at d
      cases d
end
/-! ### a body that ends with a return, its names kept -/
structure PSR (X : Cx) (st : List Stmt) (tr : (V → L2.St → Hp → Prop) → L2.St → Hp → Prop) : Prop where
  run : ∀ (pins : List (Addr × Obj)) (s : Shared) (σ : L2.St) (H : Hp) (R : V → L2.St → Hp → Prop), Inv X pins σ H s → tr R σ H → wpAny (model X.prog X.w) X.A (execs st X.env) (fun fl s' => ∃ u v σ' H', fl = .ret u ∧ Inv X pins σ' H' s' ∧ L2.RelV v u ∧ R v σ' H') X.xe s
theorem psr_ret {X : Cx} {e : Expr} {te : TE} {pos : Pos} (he : PE X e te) : PSR X [.Return (some e) pos] (fun R σ H => te σ H fun v H1 => R v σ H1) := by
  refine ⟨fun pins s σ H R I h => ?_⟩
  refine wpAny_execs_cons (wpAny_Return_some (thn (he.run pins s σ H (fun v H1 => R v σ H1) I h) fun v s1 ⟨x, H1, I1, r1, q1⟩ => ?_))
  exact ⟨v, x, σ, H1, rfl, I1, r1, q1⟩
theorem psr_cons {X : Cx} {st : Stmt} {rest : List Stmt} {t : TS} {tr : (V → L2.St → Hp → Prop) → L2.St → Hp → Prop} (h1 : PS X st t) (h2 : PSR X rest tr) : PSR X (st :: rest) (fun R σ H => t { nx := fun σ' H' => tr R σ' H', rt := fun _ _ => False, bk := fun _ _ => False, ct := fun _ _ => False } σ H) := by
  refine ⟨fun pins s σ H R I h => ?_⟩
  refine wpAny_execs_cons (thn (h1.run pins s σ H _ I h) fun f s1 q => ?_)
  cases f with
  | next =>
    obtain ⟨σ', H', I', q⟩ := q
    exact h2.run pins s1 σ' H' R I' q
  | ret v =>
    obtain ⟨_, _, _, _, _, z⟩ := q
    exact z.elim
  | brk =>
    obtain ⟨_, _, _, z⟩ := q
    exact z.elim
  | cont =>
    obtain ⟨_, _, _, z⟩ := q
    exact z.elim
section
variable {P : Program} {w : World} {K : PySem.W.Frag} {mg : Str → Option Value} {base : Heap}
/-- a def whose end is told with its names and its frame -/
theorem fnR_of {k : Nat} {f : Addr} {name qual : Str} {params : Arguments} {body : List Stmt} {scope : Scope} {dV kV doc pm cdv ct oc : Value} {an od : Option Addr}
    {osl : Array (Option Value)} {N ps : List Str} {sp : Sp} (lk : K.lookup f = some ⟨oc, od, .func (PySem.W.fnOf name qual params body scope dV kV doc pm an cdv ct), osl⟩) (hcd : PySem.W.codeIn K cdv qual = true) (S : FnScope N ps scope)
    (len : ∀ vs H Q E, sp vs H Q E → vs.length = ps.length)
    (hbody : ∀ (A : Around) (outer : List Env) (s : Shared) (H : Hp) (vs : List V) (Q : VK) (E : XK), Room k (A.deeper (envOfC qual scope s.heap.objs.size f cdv)) → sp vs H Q E →
      ∃ (R : V → L2.St → Hp → Prop) (tr : (V → L2.St → Hp → Prop) → L2.St → Hp → Prop), PSR (cxOf CX0 P w K mg base N qual scope f cdv A outer s H E) body tr ∧ tr R (start N vs) H ∧
        ∀ (s' : Shared) (σ' : L2.St) (H' : Hp) (v : V) (u : Value), Inv (cxOf CX0 P w K mg base N qual scope f cdv A outer s H E) [] σ' H' s' → L2.RelV v u → R v σ' H' → CE outer P w H s Q u s') :
    FnOk P w K mg base CX0 (k + 1) f (PySem.W.fnOf name qual params body scope dV kV doc pm an cdv ct) ps sp := by
  refine ⟨len, fun A outer s H args us vs Q E hr e0 hb r hsp => ?_⟩
  have hl := len _ _ _ _ hsp
  have KX : K.In s.heap := e0.mod.kin.keeps fun b o e => (e0.bs b o e).1
  have lim : s.heap.NoLimit := e0.mod.nolimit.keeps fun b o e => (e0.bs b o e).1
  have hkind : ∀ y ∈ ps.zip us, scope.names.lookup y.1 = some .local ∨ (scope.names.lookup y.1 = some .cell ∧ ((cellsFrom (s.heap.objs.size + 1) scope.names []).lookup y.1).isSome = true) := fun ⟨n, v⟩ hy => by
    rcases S.par n (List.of_mem_zip hy).1 with q | q
    · exact .inl q
    · exact .inr ⟨q, PySem.W.cellsFrom_some _ _ _ (.inl q)⟩
  refine codeAny_call_function hr.depth (KX _ _ lk) rfl S.co S.gen rfl (PySem.W.codeRec_of KX hcd) (hb _ _ _ _ ?_)
  refine wpAny_newFunctionEnv_cells S.kind hkind fun env he s1 x => ?_
  subst he
  refine ⟨lim.keeps x.toInCall.keep, codeAny_func ?_⟩
  obtain ⟨R, tr, ht, hq, fin⟩ := hbody A outer s H vs Q E (hr.deeper _) hsp
  have I : Inv (cxOf CX0 P w K mg base N qual scope f cdv A outer s H E) [] (start N vs) H s1 := inv_start S hr.hd e0 hl r x
  refine wpAny_mono (ht.run [] s1 (start N vs) H R I hq) (fun fl s' hs => ?_) fun e s' hs => hs
  obtain ⟨u, v, σ', H', rfl, J, rv, q⟩ := hs
  exact fin s' σ' H' v u J rv q
/-- the end of a def that hands back lambdas: its cells are laid -/
theorem ce_lay {X : Cx} {pins : List (Addr × Obj)} {σ : L2.St} {H' : Hp} {s' : Shared} {v : V} {u : Value} {Q : VK} {l : CL} (hf : ∀ x, X.fn x = true) (J : Inv X pins σ H' s') (hx : X.ex = []) (hfs : X.fs = frs X.outer)
    (hl : ∀ b y, l.lookup b = some y → ∃ (x : Str) (i : Nat), X.env.cells.lookup x = some b ∧ X.N[i]? = some x ∧ σ[i]? = some (some y) ∧ X.env.scope.names.lookup x = some .cell)
    (rv : L2.RelV v u) (q : Q v (lay l H')) : CE X.outer X.prog X.w X.H_0 X.s_0 Q u s' := by
  have cell : ∀ b y, l.lookup b = some y → (∃ u, L2.RelV y u ∧ s'.heap.IsCell b (some u)) ∧ X.s_0.heap.objs.size ≤ b ∧ H' b = none := fun b y e => by
    obtain ⟨x, i, h1, h2, h3, h4⟩ := hl b y e
    refine ⟨?_, J.ok.cab x b (hf x) h1, J.freeC x b h1⟩
    obtain ⟨m, _, hm⟩ := J.loc
    obtain ⟨u, r, lk⟩ := hm i x y h2 h3 (.inr (.inl h4))
    rcases lk with ⟨z, _⟩ | ⟨_, a', ha', hc⟩
    · have z' : X.env.scope.names.lookup x = some .local := z
      rw [h4] at z'
      cases z'
    · rw [h1] at ha'
      cases ha'
      exact ⟨u, r, hc⟩
  have low : ∀ b o, X.s_0.heap.get? b = some o → l.lookup b = none := fun b o e => by
    cases q : l.lookup b with
    | none => rfl
    | some y => exact absurd (Nat.lt_of_lt_of_le (Heap.lt_size e) (cell b y q).2.1) (Nat.lt_irrefl _)
  have up : ∀ b o, H' b = some o → lay l H' b = some o := fun b o e => by
    cases q : l.lookup b with
    | none => exact (lay_no q).trans e
    | some y =>
      rw [(cell b y q).2.2] at e
      cases e
  have U := J.base
  rw [hx, hfs] at U
  refine ⟨v, lay l H', J.os, J.bare, ⟨U.keep, U.slot, fun b o e n x => (lay_no (low b o e)).trans (U.free b o e n x), U.there, fun b xs e => up _ _ (U.tups b xs e), fun b o w e => up _ _ (U.frzs b o w e), fun b ps e => ?_⟩, fun a o e => ?_, rv, q⟩
  · obtain ⟨more, z⟩ := U.tbls b ps e
    exact ⟨more, up _ _ z⟩
  · cases q : l.lookup a with
    | some y =>
      rw [lay_in q] at e
      cases e
      exact cellO_ok (cell a y q).1
    | none =>
      rw [lay_no q] at e
      exact (J.hok a o e).stay (fun _ _ _ z => z) (fun b z => up _ _ z) fun b xs z => up _ _ z
end
end RH
set_option Elab.async false
set_option linter.all false
set_option maxRecDepth 100000
set_option maxHeartbeats 2000000
/-! A walk over zip of a tuple and a list. -/
set_option Elab.async false
set_option linter.all false
set_option maxRecDepth 100000
set_option maxHeartbeats 2000000
/-! Defs and methods that may raise, lambdas handed back that are called without arguments and may raise, what an except suite asks of its error. -/
namespace RH
open PySem PySem.Spec PyProof.Rows L2
open LamX (Tabs TabS TabB ExtN CodeO codeO_ne)
open NdefX (NF CellsAt NScope startF ncx codeO_at slotAt Caps cells_of)
section
variable {P : Program} {w : World} {K : PySem.W.Frag} {mg : Str → Option Value} {base : Heap}
/-- a method that errors may leave -/
structure MetX (P : Program) (w : World) (K : PySem.W.Frag) (mg : Str → Option Value) (base : Heap) (k : Nat) (C : Addr) (m : Str) (sp : Sp) : Prop where
  ex : ∃ (f : Addr) (fd : FuncData) (ps : List Str), FnOk P w K mg base (L2.CX P w) k f fd ps sp ∧ Meth K C m f ∧ Binds K fd ps []
end
section
variable {X : Cx} {C : Addr} {m : Str} {sp : Sp} {E : XK} {k j : Nat} {pos apos : Pos} {e o : Expr} {es : List Expr} {ta : TE} {t : TA}
theorem pmX {pl : Sem Bool} (M : MetX X.prog X.w X.K X.mg X.base k C m sp) (c : Cls X.K C) (hx : Passes (L2.CX X.prog X.w) X E) (hr : Room j X.A) (he : PE X o ta) (ha : PA X (e :: es) t) (hk : k ≤ j := by decide)
    (hst : starEach (e :: es) X.env = (false, eval e X.env) :: starEach es X.env := by rfl) (hpl : (backTo pos (starEach es X.env)).any (·.1) = false := by rfl)
    (ht : eval (.Call (.Attribute o m apos) (e :: es) [] pos) X.env = (do
      let ov ← eval o X.env
      standAt apos.atName
      let (f, first) ← holding [ov] (getMethod ov m pl)
      callWith pos f first (backTo pos (starEach (e :: es) X.env)) (backToKw pos (keywordEach [] X.env))) := by rfl) :
    PE X (.Call (.Attribute o m apos) (e :: es) [] pos) (tMeth C m sp [] E ta t) := by
  obtain ⟨f, fd, ps, F, hm, b⟩ := M.ex
  exact pe_meth he c hm F (hr.mono hk) b .nil hx ha hst hpl ht
end
/-! ### a lambda that was handed back, called without arguments -/
section
variable {X : Cx} {f : Addr} {F : LF} {fr : List Str} {ws : List V} {l : CL} {k : Nat} {sp : List (Option V) → Sp}
def Gone (l : CL) (H : Hp) : Prop := ∀ b y, l.lookup b = some y → H b = none
theorem kept_run (Fn : LOk X.prog X.w X.K X.mg X.base (L2.CX X.prog X.w) k f F [] fr sp) (C : Cap F fr ws l) (hr : Room k X.A) {pins : List (Addr × Obj)} {σ : L2.St} {H' : Hp} {s' : Shared} {Q : VK} {E : XK} (I : Inv X pins σ H' s') (L : LiveK f F l H') (hx : PassesAt (L2.CX X.prog X.w) X σ E)
    (q : sp (ws.map some) [] (era l H') (fun v H2 => Gone l H2 → Q v (lay l H2)) (fun cls d H2 => Gone l H2 → E cls d (lay l H2))) : wpAny (model X.prog X.w) X.A (call (.ref f) []) (EP X pins σ Q) X.xe s' := by
  obtain ⟨nf, nc⟩ := L.nofn I.hok
  have E0 := I.env0
  have cell : ∀ c v, l.lookup c = some v → ∃ u, L2.RelV v u ∧ s'.heap.IsCell c (some u) := fun c v e => (I.hok c _ (L.st c v e)).1
  have nfr : ∀ c v, l.lookup c = some v → c ∉ frs X.stack := fun c v e z => by
    have := E0.frf c z
    rw [L.st c v e] at this
    cases this
  have Ee : Env0 X.prog X.w X.K X.mg X.base X.A X.stack s' (era l H') := by
    refine ⟨E0.frames, E0.mod, fun b o e => ⟨(E0.bs b o e).1, ?_⟩, E0.bsz, E0.funs, fun b hb => ?_, L.st.hok E0.hok, E0.bare⟩
    · cases q : l.lookup b with
      | some v => exact era_in q
      | none => exact (era_no q).trans (E0.bs b o e).2
    · cases q : l.lookup b with
      | some v => exact era_in q
      | none => exact (era_no q).trans (E0.frf b hb)
  have Ce : CellsAt F.cl fr (ws.map some) s'.heap (era l H') := by
    refine ⟨by rw [List.length_map]; exact C.len, fun y c e => ?_, C.inj, fun i y e => ?_⟩
    · obtain ⟨v, hv⟩ := C.all y c e
      obtain ⟨u, _, z⟩ := cell c v hv
      exact ⟨era_in hv, _, z⟩
    · obtain ⟨c, hc, hv⟩ := C.has i y e
      refine ⟨c, hc, fun v ev => ?_⟩
      rw [List.getElem?_map] at ev
      cases ew : ws[i]? with
      | none =>
        rw [ew] at ev
        cases ev
      | some v' =>
        rw [ew] at ev
        have : v' = v := Option.some.inj (Option.some.inj ev)
        subst this
        exact cell c _ (hv _ ew)
  have fwd : ∀ b, H' b = none → l.lookup b = none := fun b e => by
    cases q : l.lookup b with
    | none => rfl
    | some v =>
      rw [L.st b v q] at e
      cases e
  refine wpAny_call (codeAny_mono (Fn.run X.A X.stack s' (era l H') [] [] (ws.map some) _ _ hr Ee ((era_no nf).trans L.fn) ((era_no nc).trans L.code) Ce .nil q) fun r s'' hq => ?_)
  cases r with
  | error e =>
    obtain ⟨a, B, H2, cls, d, rfl, fl, hok, un, na, os, ag, hE⟩ := hq
    have gone : Gone l H2 := fun c v e => by
      obtain ⟨u, _, o, z, _⟩ := cell c v e
      exact un.free c o z (era_in e)
    have inB : ∀ c v, l.lookup c = some v → ∃ u, L2.RelV v u ∧ B.IsCell c (some u) := fun c v e => by
      obtain ⟨u, ru, o, z, d⟩ := cell c v e
      exact ⟨u, ru, o, un.keep c o z (era_in e) (nfr c v e), d⟩
    have nal : l.lookup a = none := by
      cases q : l.lookup a with
      | none => rfl
      | some v =>
        obtain ⟨u, _, o, z, _⟩ := inB a v q
        have := fl.2.1
        rw [z] at this
        cases this
    refine hx pins H' s' (.ref a) s'' I ⟨a, B, lay l H2, cls, d, rfl, fl, fun b o e => ?_, ?_, (lay_no nal).trans na, os, ag, hE gone⟩
    · cases q : l.lookup b with
      | some v =>
        rw [lay_in q] at e
        cases e
        exact cellO_ok (inB b v q)
      | none =>
        rw [lay_no q] at e
        refine (hok b o e).stay (fun _ _ _ z => z) (fun b z => ?_) fun b xs z => ?_
        · cases q2 : l.lookup b with
          | none => exact (lay_no q2).trans z
          | some v =>
            rw [gone b v q2] at z
            cases z
        · cases q2 : l.lookup b with
          | none => exact (lay_no q2).trans z
          | some v =>
            rw [gone b v q2] at z
            cases z
    · refine ⟨fun b o e n => un.keep b o e ((era_no (fwd b n)).trans n), un.slot, fun b o e n => (lay_no (fwd b n)).trans (un.free b o e ((era_no (fwd b n)).trans n)), un.there, fun b xs e => ?_, fun b o u e => ?_, fun b ps e => ?_⟩
      · rcases L.st.cases e with ⟨v, _, z⟩ | ⟨n, z⟩
        · exact absurd z.symm (cellO_ne.2.1 xs)
        · exact (lay_no n).trans (un.tups b xs z)
      · rcases L.st.cases e with ⟨v, _, z⟩ | ⟨n, z⟩
        · exact absurd z.symm (cellO_ne.2.2.1 o u)
        · exact (lay_no n).trans (un.frzs b o u z)
      · rcases L.st.cases e with ⟨v, _, z⟩ | ⟨n, z⟩
        · exact absurd z.symm (cellO_ne.2.2.2 ps)
        · obtain ⟨more, y⟩ := un.tbls b ps z
          exact ⟨more, (lay_no n).trans y⟩
  | ok fl =>
    cases fl with
    | ret u =>
      obtain ⟨v, H2, os, bare, un, hok, rv, hQ⟩ := hq
      have gone : Gone l H2 := fun c v e => by
        obtain ⟨u, _, o, z, _⟩ := cell c v e
        exact un.free c o z (era_in e) (by simp)
      refine I.after ⟨v, lay l H2, os, bare, ?_, ?_, rv, hQ gone⟩
      · refine ⟨fun b o e n => un.keep b o e ((era_no (fwd b n)).trans n), fun b o e n => un.slot b o e ((era_no (fwd b n)).trans n), fun b o e n x => (lay_no (fwd b n)).trans (un.free b o e ((era_no (fwd b n)).trans n) x), un.there, fun b xs e => ?_, fun b o u e => ?_, fun b ps e => ?_⟩
        · rcases L.st.cases e with ⟨v, _, z⟩ | ⟨n, z⟩
          · exact absurd z.symm (cellO_ne.2.1 xs)
          · exact (lay_no n).trans (un.tups b xs z)
        · rcases L.st.cases e with ⟨v, _, z⟩ | ⟨n, z⟩
          · exact absurd z.symm (cellO_ne.2.2.1 o u)
          · exact (lay_no n).trans (un.frzs b o u z)
        · rcases L.st.cases e with ⟨v, _, z⟩ | ⟨n, z⟩
          · exact absurd z.symm (cellO_ne.2.2.2 ps)
          · obtain ⟨more, y⟩ := un.tbls b ps z
            exact ⟨more, (lay_no n).trans y⟩
      · intro a o e
        cases q : l.lookup a with
        | some v =>
          rw [lay_in q] at e
          cases e
          obtain ⟨u, ru, ob, z, d⟩ := cell a v q
          exact cellO_ok ⟨u, ru, ob, un.keep a ob z (era_in q) (nfr a v q) (by simp), d⟩
        | none =>
          rw [lay_no q] at e
          refine (hok a o e).stay (fun _ _ _ z => z) (fun b z => ?_) fun b xs z => ?_
          · cases q2 : l.lookup b with
            | none => exact (lay_no q2).trans z
            | some v =>
              rw [gone b v q2] at z
              cases z
          · cases q2 : l.lookup b with
            | none => exact (lay_no q2).trans z
            | some v =>
              rw [gone b v q2] at z
              cases z
    | next => exact False.elim hq
    | brk => exact False.elim hq
    | cont => exact False.elim hq
end
/-- what is known of a lambda without parameters that may be called -/
structure Ready (P : Program) (w : World) (K : PySem.W.Frag) (mg : Str → Option Value) (base : Heap) (k : Nat) (f : Addr) (H : Hp) (ok : (Hp → VK → XK → Prop)) : Prop where
  ex : ∃ (F : LF) (fr : List Str) (ws : List V) (l : CL) (sp : List (Option V) → Sp), LOk P w K mg base (L2.CX P w) k f F [] fr sp ∧ Cap F fr ws l ∧ LiveK f F l H ∧
    ∀ Q E, ok H Q E → sp (ws.map some) [] (era l H) (fun v H2 => Gone l H2 → Q v (lay l H2)) (fun cls d H2 => Gone l H2 → E cls d (lay l H2))
/-- f(), f a name that holds such a lambda -/
def tCall0K (P : Program) (w : World) (K : PySem.W.Frag) (mg : Str → Option Value) (base : Heap) (k i : Nat) (E : L2.St → XK) : TE := fun σ H Q => ∃ (f : Addr) (ok : Hp → VK → XK → Prop), σ[i]? = some (some (.ref f)) ∧ Ready P w K mg base k f H ok ∧ ok H Q (E σ)
theorem pe_call0K {X : Cx} {i j k : Nat} {x : Str} {E : L2.St → XK} {p pos : Pos} (hr : Room j X.A) (hk : k ≤ j) (hx : ∀ σ, PassesAt (L2.CX X.prog X.w) X σ (E σ)) (hN : X.N[i]? = some x) (hv : Vis X.env.scope x)
    (hd : (x == ("__debug__" : Str)) = false := by decide) (hcd : (x == ("__classdict__" : Str)) = false := by decide) : PE X (.Call (.Name x p) [] [] pos) (tCall0K X.prog X.w X.K X.mg X.base k i E) := by
  refine ⟨fun pins s σ H Q I h => ?_⟩
  obtain ⟨f, ok, hs, ⟨F, fr, ws, l, sp, Fn, C, L, hok⟩, q⟩ := h
  refine wpAny_Call_Name_kw (thn ((pe_var (pos := p) hN hv hd hcd).run pins s σ H (fun v H1 => v = .ref f ∧ H1 = H) I ⟨.ref f, hs, rfl, rfl⟩) fun u s1 ⟨v, H1, I1, r1, q1⟩ => ?_)
  obtain ⟨ev, eH⟩ := q1
  subst ev
  rw [eH] at I1
  obtain rfl : u = Value.ref f := r1
  obtain ⟨od, sl, pm, ctv, ho⟩ := fnL_at I1.hok L.fn
  refine PySem.W.callWith_F0 (first := []) ⟨_, od, _, sl, ho⟩ ?_
  exact kept_run Fn C (hr.mono hk) I1 L (hx σ) (hok _ _ q)
/-! ### what an except suite asks of its error -/
/-! ### list.count of flat things -/
def rCntF (K : PySem.W.Frag) : V → List V → Hp → VK → Prop := fun x xs H Q => ∃ (a : Addr) (ys : List V) (y : V), x = V.ref a ∧ xs = [y] ∧ SqL K H a ys ∧ flatV y = true ∧ ys.all flatV = true ∧ Q (.int ((ys.countP fun z => eqV z y : Nat) : Int)) H
theorem mt_countF {X : Cx} : MtR X "list.count" (rCntF X.K) := by
  intro pins s σ H x xs v us Q I rx rxs h
  obtain ⟨a, ys, y, rfl, rfl, hs, fy, fys, q⟩ := h
  cases rx
  cases rxs with
  | cons ry rt =>
    rename_i uy ut
    cases rt
    obtain ⟨its, rv, ⟨⟨cls, dd, data, sl⟩, n, ho, hc, hdn, hd⟩, hlen⟩ := I.list hs
    simp only at hc hd
    subst hc hd
    refine call_meets PySem.F.slot_list_count ⟨_, ho, rfl⟩ PySem.F.entry_list_count (PySem.F.args_list_count_2 _ _)
      (SeqAt.list_countAt a its.toArray n dd sl uy (eqU y)) ⟨ho, fun u' hu' => mem_eqAt ry fy rv fys u' (by simpa using hu'), ?_⟩
    have cnt : ∀ {zs : List V} {us : List Value}, Vals zs us → zs.all flatV = true → us.countP (eqU y) = zs.countP fun z => eqV z y := by
      intro zs us r
      induction r with
      | nil => exact fun _ => rfl
      | cons r _ ih =>
        intro f
        rw [List.all_cons, Bool.and_eq_true] at f
        rw [List.countP_cons, List.countP_cons, ih f.2, eqU_of r f.1]
    refine ⟨.int ((ys.countP fun z => eqV z y : Nat) : Int), H, I.tok _, ⟨s.toks, ?_⟩, q⟩
    show Value.int ((its.toArray.toList.countP (eqU y) : Nat) : Int) s.toks = _
    have e := cnt rv fys
    rw [show its.toArray.toList = its from by simp, e]
/-- what leaves a def that may raise -/
theorem passE {P : Program} {w : World} {K : PySem.W.Frag} {mg : Str → Option Value} {base : Heap} {N : List Str} {qual : Str} {scope : Scope} {f : Addr} {cd : Value} {A : Around} {outer : List Env} {s : Shared} {H : Hp} {E : XK} :
    Passes (L2.CX P w) (cxOf (L2.CX P w) P w K mg base N qual scope f cd A outer s H E) E := passes_call (W := fun cls d _ H => E cls d H) (takes_of rfl rfl rfl rfl) (fun _ _ _ _ h => h)
theorem takesE {P : Program} {w : World} {K : PySem.W.Frag} {mg : Str → Option Value} {base : Heap} {N : List Str} {qual : Str} {scope : Scope} {f : Addr} {cd : Value} {A : Around} {outer : List Env} {s : Shared} {H : Hp} {E : XK} :
    Takes (cxOf (L2.CX P w) P w K mg base N qual scope f cd A outer s H E) (fun cls d _ H => E cls d H) := takes_of rfl rfl rfl rfl
end RH
set_option Elab.async false
set_option linter.all false
set_option maxRecDepth 100000
set_option maxHeartbeats 4000000
/-! own errors whose __init__ asks super().__init__ first -/
namespace L2
open PySem PySem.Calls PySem.Spec PyProof.Rows PySem.W
open NdefX (NScope NF CellsAt startF ncx envF inv_startN)
section
variable {X : Cx} {pins : List (Addr × Obj)} {σ : St} {H : Hp} {s : Shared} {a C u : Addr} {E : Value → Shared → Prop} {A : Around}
/-- the bound ValueError.__init__ is called: nothing of it is told -/
theorem call_mw {us : List Value} {Q : Value → Shared → Prop} (T : OexC X.K C) (I : Inv X pins σ H s) (hu : s.heap.get? u = some (kxs_mw "ValueError.__init__" a)) (e : H a = some (exo a C none)) (hl : us.length ≤ sizeLine) (h : ∀ s', Inv X pins σ H s' → Q .none s') :
    wpAny (model X.prog X.w) A (call (.ref u) us) Q E s := by
  obtain ⟨nm, q, N, bs, bm, sn, sub, ab, col, dd, k0, k1, k2, k3, k5, hC, hbm⟩ := T.cls
  obtain ⟨t1, ho⟩ := exo_at I.hok e
  obtain ⟨hp, g, d, t, os⟩ := s
  refine wpAny_call (codeAny_of_tree ?_)
  show wpAny _ A.in1 (callAny (.ref u) ⟨us, []⟩) _ _ _
  simp only [callAny]
  refine wpAny_bind (wpAny_load hu ?_)
  simp only [kxs_mw, show (Value.type "method-wrapper" == Value.type "method" || Value.type "method-wrapper" == Value.type "builtin_function_or_method" || Value.type "method-wrapper" == Value.type "method-wrapper") = true by decide, if_true]
  refine KFB.if_so (by decide) ?_
  refine wpAny_bind (check_bound_init PySem.F.excBase_ValueError.toExcCallFacts (I.kIn _ _ hC) ho rfl ?_)
  refine wpAny_bind (wpAny_pure (wpAny_pure ?_))
  refine ⟨plainId_quiet PySem.F.excBase_ValueError.init.plain _, codeAny_builtin PySem.F.excBase_ValueError.initEntry ?_⟩
  refine exc_init_tree (cls := .ref C) (t0 := t1) (dv := none) (c2 := .none) (c3 := .none) (b4 := .bool false) ho hl fun h' k hx _ => ?_
  have J := I.write (t' := t) (x := a) (e := a) (o := exo a C none) (by rw [e]; exact True.intro) (.inl rfl) k ⟨_, hx⟩ (exo_ok hx)
  have eu : upd H a (exo a C none) = H := by
    funext b
    by_cases hb : b = a
    · rw [hb, upd_same, e]
    · rw [upd_ne hb]
  rw [eu] at J
  exact h _ J
end
theorem mw_args {M : Model} {i : String} {a u : Addr} {s : Shared} {A : Around} {E : Value → Shared → Prop} {pos : Pos} {env : Env} {e : Expr} {es : List Expr} {Q : Value → Shared → Prop}
    (h : wpAny M A (spliced (backTo pos (starEach (e :: es) env))) (fun vs s₁ => KxsAt i u a s₁.heap ∧ wpAny M A (call (.ref u) vs) Q E s₁) E s)
    (he : starEach (e :: es) env = (false, eval e env) :: starEach es env) (hp : (backTo pos (starEach es env)).any (·.1) = false) : wpAny M A (callWith pos (.ref u) [] (backTo pos (starEach (e :: es) env)) []) Q E s := by
  rw [he] at h ⊢
  exact kxs_callWith (i := i) (x := a) (by show (false || (backTo pos (starEach es env)).any (·.1)) = false; rw [hp]; rfl) (evalArgs_plain h)
/-- the class C with an own __init__ that asks super().__init__ first -/
structure SupC (P : Program) (K : Frag) (mg : Str → Option Value) (C : Addr) (qual : Str) (st : Stmt) (f : Addr) (fd : FuncData) (cc cda : Addr) : Prop where
  t : OexC K C
  ex : ∃ (oc : Value) (od : Option Addr) (kV doc pm : Value) (an : Option Addr) (ct : Value) (osl : Array (Option Value)), fd = fnX "__init__" qual (defArgs st) (defBody st) (defScope st) [("__class__", cc)] .none kV doc pm an (.ref cda) ct ∧ K.lookup f = some ⟨oc, od, .func fd, osl⟩
  code : codeIn K (.ref cda) qual = true
  rec_ : ∃ (ccl : Value) (cdd : Option Addr) (vs : Array Value) (ccs : Array (Option Value)) (file : Str) (tf : Tok), K.lookup cda = some ⟨ccl, cdd, .fields vs, ccs⟩ ∧ vs[2]? = some (.str file tf) ∧ ((P.main.file : Str) == file) = true
  cell : ∃ (cl : Value) (cld : Option Addr) (csl : Array (Option Value)), K.lookup cc = some ⟨cl, cld, .cell (some (.ref C)), csl⟩
  mro : mroIn K C (.ref C) = some true
  any : nsIn K cStatics "thirdparty.any" = some none
  sup : ks_superIn K C C "__init__" = some (some (.builtin "ValueError.__init__"))
  ve : subIn K (.ref C) (.type "ValueError") = some true
  gs : mg "super" = none
  top : (P.main.scope.names.lookup ("super" : Str)).isSome = false
def supF (qual : Str) (st : Stmt) (cc cda : Addr) : NF := ⟨"__init__", qual, defArgs st, defBody st, defScope st, [("__class__", cc)], cda⟩
section
variable {P : Program} {w : World} {K : Frag} {mg : Str → Option Value} {base : Heap}
theorem fn_super {pl : Env → Sem Bool} {CX : CXT} {N ps : List Str} {k : Nat} {sp : Sp} {C f cc cda : Addr} {fd : FuncData} {qual self : Str} {st : Stmt} {rest : List Stmt} {e : Expr} {es : List Expr} {p0 p1 p2 p3 p4 : Pos} {ar : Arg} (M : SupC P K mg C qual st f fd cc cda) (S : NScope N ps ["__class__"] (defScope st))
    (hps : ps[0]? = some self) (har : ((defArgs st).posonlyargs ++ (defArgs st).args).head? = some ar) (hse : ar.arg = self) (hks : (defScope st).names.lookup ("super" : Str) = some .globalImplicit)
    (hb0 : defBody st = .Expr (.Call (.Attribute (.Call (.Name "super" p0) [] [] p1) "__init__" p2) (e :: es) [] p3) p4 :: rest) (len : ∀ vs H Q E, sp vs H Q E → vs.length = ps.length)
    (hbody : ∀ (A : Around) (outer : List Env) (s : Shared) (H : Hp) (vs : List V) (Q : VK) (E : XK), Room k (A.deeper (envF (supF qual st cc cda) f s.heap.objs.size)) → sp vs H Q E →
      ∃ (a : Addr) (ta : TA) (t : TS), vs[0]? = some (.ref a) ∧ H a = some (exo a C none) ∧ PA (ncx CX P w K mg base N (supF qual st cc cda) f A outer s H E) (e :: es) ta ∧ PSs (ncx CX P w K mg base N (supF qual st cc cda) f A outer s H E) rest t ∧
        ta (startF N vs [some (.ref C)]) H (fun us H1 => us.length ≤ 1000 ∧ H1 a = some (exo a C none) ∧ t { nx := fun _ H' => Q .non H', rt := Q } (startF N vs [some (.ref C)]) H1))
    (he : ∀ env, starEach (e :: es) env = (false, eval e env) :: starEach es env := by intro _; rfl) (hpl : ∀ env, (backTo p3 (starEach es env)).any (·.1) = false := by intro _; rfl)
    (hev : ∀ env : Env, eval (.Call (.Attribute (.Call (.Name "super" p0) [] [] p1) "__init__" p2) (e :: es) [] p3) env = (do
      let ov ← attributeBase (.Call (.Name "super" p0) [] [] p1) "__init__" env (eval (.Call (.Name "super" p0) [] [] p1) env)
      standAt p2.atName
      let (f, first) ← holding [ov] (getMethod ov "__init__" (pl env))
      callWith p3 f first (backTo p3 (starEach (e :: es) env)) []) := by intro _; rfl)
    (hsw : ∀ env, swapsWith (.Call (.Attribute (.Call (.Name "super" p0) [] [] p1) "__init__" p2) (e :: es) [] p3) none p4.line env = pure false := by intro _; rfl) :
    FnOk P w K mg base CX (k + 1) f fd ps sp := by
  obtain ⟨oc, od, kV, doc, pm, an, ct, osl, efd, lk⟩ := M.ex
  obtain ⟨ccl, cdd, fvs, ccs, file, tf, hcode, hvs, hfile⟩ := M.rec_
  obtain ⟨cl, cld, csl, hcell⟩ := M.cell
  obtain ⟨nm, qn, Nn, bs, bm, sn, sub, ab, col, dd, k0, k1, k2, k3, k5, hC, hbm⟩ := M.t.cls
  subst efd
  refine ⟨len, fun A outer s H args us vs Q E hr e0 hb r hsp => ?_⟩
  have hl := len _ _ _ _ hsp
  have KX : K.In s.heap := e0.mod.kin.keeps fun b o e => (e0.bs b o e).1
  have lim : s.heap.NoLimit := e0.mod.nolimit.keeps fun b o e => (e0.bs b o e).1
  have kH : ∀ b o, K.lookup b = some o → H b = none := fun b o e => (e0.bs b o (e0.mod.kin _ _ e)).2
  have hkc : (defScope st).names.lookup ("__class__" : Str) = some .free := S.frk _ (List.mem_singleton.mpr rfl)
  have CA : CellsAt (supF qual st cc cda).cl ["__class__"] [some (.ref C)] s.heap H := by
    have one : ∀ y c, ([("__class__", cc)] : List (Str × Addr)).lookup y = some c → y = ("__class__" : Str) ∧ c = cc := fun y c e => by
      have := PySem.mem_of_lookup e
      obtain ⟨rfl, rfl⟩ := Prod.mk.inj (List.mem_singleton.mp this)
      exact ⟨rfl, rfl⟩
    have ic : s.heap.IsCell cc (some (.ref C)) := ⟨_, KX _ _ hcell, rfl⟩
    refine ⟨rfl, fun y c e => ?_, fun x y c e1 e2 => (one x c e1).1.trans (one y c e2).1.symm, fun i y hi => ?_⟩
    · obtain ⟨_, rfl⟩ := one y c e
      exact ⟨kH _ _ hcell, _, ic⟩
    · match i, hi with
      | 0, hi =>
        cases Option.some.inj hi
        refine ⟨cc, by show ([("__class__", cc)] : List (Str × Addr)).lookup ("__class__" : Str) = some cc; rw [List.lookup_cons]; simp, fun v hv => ?_⟩
        cases Option.some.inj (Option.some.inj hv)
        exact ⟨_, rfl, ic⟩
      | i + 1, hi => simp at hi
  refine ks_codeAny_call_defAt (body := defBody st) (binds := ps.zip us) hr.depth (KX _ _ lk) rfl lim (codeRec_of KX M.code) rfl hb S.nocell (fun ⟨n, _⟩ hy => S.par n (List.of_mem_zip hy).1) (fun h₁ hns kp => ?_) S.co S.gen S.kind
  show _root_.PySem.wpAt _ (A.deeper (envF (supF qual st cc cda) f s.heap.objs.size)) (.func (defBody st) (envF (supF qual st cc cda) f s.heap.objs.size)) (execs (defBody st) (envF (supF qual st cc cda) f s.heap.objs.size)) _ _ _
  obtain ⟨a, ta, t, hv0, ha0, hA, ht, hT⟩ := hbody A outer s H vs Q E (hr.deeper _) hsp
  have I : Inv (ncx CX P w K mg base N (supF qual st cc cda) f A outer s H E) [] (startF N vs [some (.ref C)]) H { s with heap := h₁, toks := s.toks + (ps.zip us).length } := inv_startN S hr.hd e0 hl r CA hns kp
  have hx := r.get hv0
  obtain ⟨ux, hux, rx⟩ := hx
  obtain rfl : ux = Value.ref a := rx
  have ndP : ps.Nodup := by
    have q := S.nd.sublist (List.take_sublist (ps.length + (["__class__"] : List Str).length) N)
    rw [S.pre] at q
    exact (List.nodup_append.mp q).1
  have hself : (ps.zip us).reverse.lookup self = some (Value.ref a) := NdefX.zip_look ndP hps hux
  have hka : (defScope st).names.lookup self = some .local := S.par self (List.mem_of_getElem? hps)
  have K1 : K.In h₁ := KX.keeps kp
  have hD1 := K1 _ _ hC
  obtain ⟨t1, hxo⟩ := exo_at I.hok ha0
  have hcl : clsIn K C = some { name := nm, bases := bs, mro := .ref C :: bm, ns := Nn, qualname := qn, hasDict := true, slotNames := sn, subclasses := sub, abstract := ab, collection := col, hasDel := false } := by unfold clsIn; rw [hC] <;> rfl
  have hsup := M.sup
  unfold ks_superIn at hsup
  rw [hcl, Option.bind_some] at hsup
  have IA : InstAt h₁ a { cls := .ref C, dict := none, data := .fields #[.ref t1, .none, .none, .none, .bool false, .none] } C none := ⟨hxo, rfl, rfl, trivial⟩
  rw [hb0]
  refine ks_wpAt_execs_cons (ks_wpAt_Expr_any (ks_wpAt_MethodCall ?_ (hev _)) I.quiet (hsw _))
  refine ks_wpAt_super_base (env := envF (supF qual st cc cda) f s.heap.objs.size) hks hkc (by decide) rfl (K1 _ _ lk) rfl har rfl (K1 _ _ hcode) rfl hvs hfile M.top ?_
  obtain ⟨mb, h1, h2⟩ := I.mod.blt
  refine ks_loadName_global S.kind hks (loadGlobal_builtin (I.mod.glob.keeps I.bk) M.gs (h1.keeps I.bk) ((h2 "super" (by decide)).trans (by first | boot_by_name | rfl | kernel_rfl)) ⟨rfl, ?_⟩)
  refine wpAny_loadName_free S.kind hkc (by show ([("__class__", cc)] : List (Str × Addr)).lookup ("__class__" : Str) = some cc; rw [List.lookup_cons]; simp) ⟨_, K1 _ _ hcell, rfl⟩ ?_
  rw [hse]
  refine wpAny_loadName_local S.kind hka hns hself ?_
  refine ks_wpAny_isType_cls hD1 rfl ⟨rfl, ?_⟩
  refine ks_wpAny_call_super hD1 rfl hxo rfl (fun c z => nomatch z) (looks_mroIn K1 M.mro) (fun h2 eso k2 => ?_)
  have I1 := I.kept (t' := s.toks + (ps.zip us).length) k2
  have K2 : K.In h2 := K1.keeps k2
  have IA2 : InstAt h2 a { cls := .ref C, dict := none, data := .fields #[.ref t1, .none, .none, .none, .bool false, .none] } C none := ⟨k2 _ _ hxo, rfl, rfl, trivial⟩
  have hI : Looks (model P w) h2 (isInstance (.ref a) (.type "ValueError")) true := IA2.type.andThen (looks_subIn K2 M.ve)
  refine kxs_getMethod kxs_ValueError eso (looks_opaque K2 M.any) (l₀ := .ref C :: bm) ?_ rfl K2 hsup hI (ks_ne K1 IA hcl) (by decide) ?_
  · exact fun A Q E s k q => wpAny_bind ((looks_clsIn K2 hcl) A _ E s k (wpAny_pure q))
  have k3 : ∀ b o, h2.get? b = some o → (h2.push (kxs_mw "ValueError.__init__" a)).get? b = some o := fun b o e => Heap.get?_push_of_some _ e
  have I2 := I1.kept (t' := s.toks + (ps.zip us).length + 1) k3
  have hu : (h2.push (kxs_mw "ValueError.__init__" a)).get? h2.objs.size = some (kxs_mw "ValueError.__init__" a) := Heap.get?_push_at rfl rfl
  have I3 : Inv (ncx CX P w K mg base N (supF qual st cc cda) f A outer s H E) [(h2.objs.size, kxs_mw "ValueError.__init__" a)] (startF N vs [some (.ref C)]) H _ := I2.pins_of fun p hp => by
    rw [List.mem_singleton.mp hp]
    exact ⟨hu, I1.hok.fresh (Nat.le_refl _), (Nat.ne_of_lt I1.lt).symm, I1.nofs (Nat.le_refl _), fun v z => nomatch z⟩
  refine mw_args (i := "ValueError.__init__") (a := a) ?_ (he _) (hpl _)
  refine thn (hA.run p3 [(h2.objs.size, kxs_mw "ValueError.__init__" a)] _ (startF N vs [some (.ref C)]) H _ I3 hT) fun us1 s1 ⟨vs1, H1, J, r1, hl1, ha1, q1⟩ => ?_
  have hu1 : s1.heap.get? h2.objs.size = some (kxs_mw "ValueError.__init__" a) := (J.pin _ (List.mem_append_right _ (List.mem_singleton.mpr rfl))).1
  refine ⟨hu1, call_mw M.t J hu1 ha1 (by rw [← Paired.length r1, sizeLine_eq]; omega) fun s2 J2 => ?_⟩
  have J3 : Inv (ncx CX P w K mg base N (supF qual st cc cda) f A outer s H E) [] (startF N vs [some (.ref C)]) H1 s2 := J2.pins_of fun p hp => absurd hp (by simp)
  refine wpAt_of_wpAny (wpAny_mono (ht.run [] s2 (startF N vs [some (.ref C)]) H1 _ J3 q1) (fun fl s' hs => ?_) fun e s' hs => hs)
  have fin : ∀ {σ' : L2.St} {H' : Hp} {v : V} {u : Value}, Inv (ncx CX P w K mg base N (supF qual st cc cda) f A outer s H E) [] σ' H' s' → L2.RelV v u → Q v H' → CE outer P w H s Q u s' :=
    fun {σ' H' v u} J rv q => ⟨v, H', J.os, J.bare, J.base, J.hok, rv, q⟩
  cases fl with
  | ret u =>
    obtain ⟨v, σ', H', J, rv, q⟩ := hs
    exact fin J rv q
  | next =>
    obtain ⟨σ', H', J, q⟩ := hs
    exact fin (v := V.non) (u := Value.none) J rfl q
  | brk =>
    obtain ⟨_, _, _, q⟩ := hs
    exact False.elim q
  | cont =>
    obtain ⟨_, _, _, q⟩ := hs
    exact False.elim q
end
end L2
/-! ### isinstance of an error with a dict -/
namespace PySem.W
open PySem PySem.Spec PySem.Calls PyProof.Rows
section
variable {prog : Program} {w : World} {A : Around} {E : Value → Shared → Prop} {s : Shared} {K : Frag} {x D : Addr} {ox : Obj} {odx : Option Obj}
theorem findObj_dataX {C : Addr} {name : Str} {a g : Value} (hc : (clsIn K C).isSome = true) (ha : findIn K (.ref C) name = some (some a)) (hg : specialIn K a "__get__" = some (some g)) (ht : takesIn K a = some true) : findObj K C odx name = some (.bind g a) := by
  obtain ⟨cd, hc⟩ := Option.isSome_iff_exists.mp hc
  unfold findObj
  rw [hc, Option.bind_some, ha, Option.bind_some]
  simp [hg, ht]
theorem kin_classX {Q : Option Value → Shared → Prop} (C : L2.ExcC K D) (X : K.In s.heap) (I : InstAt s.heap x ox D odx) (h : Q (some (.ref D)) { s with toks := s.toks + 1 }) : wpAny (model prog w) A (getAttr? (.ref x) "__class__") Q E s := by
  have hf : findObj K D odx "__class__" = some (.bind (.builtin "getset_descriptor.__get__") (.builtin "object.__class__")) := findObj_dataX (by obtain ⟨cd, hc, _⟩ := any_some C.hd; rw [hc]; rfl) C.ha C.hn C.ht
  obtain ⟨hp, g, d, t, os⟩ := s
  have L0 := I.type (M := model prog w)
  have L1 := looks_findIn (M := model prog w) X C.hg
  have L2 := looks_findIn (M := model prog w) X C.hk
  have L3 := looks_find (M := model prog w) X I hf
  have sub : Looks (model prog w) hp (isInstance (.ref x) (.type "BaseException")) true := L0.andThen (looks_subIn X C.hs)
  have hx0 : (false && onTheHeap (Value.builtin "BaseException.__getattribute__")) = false := rfl
  have hx2 : (Value.builtin "BaseException.__getattribute__" == Value.builtin "object.__getattribute__") = false := by decide +kernel
  have hx1 : (onTheHeap (Value.ref D) && Value.builtin "BaseException.__getattribute__" == Value.builtin "object.__getattribute__") = false := by rw [hx2]; rfl
  unfold getAttr? getAttrBy? getAttrBy
  refine wpAny_bind (wpAny_mkText (wpAny_bind (wpAny_attempt (wpAny_holding (wpAny_bind (L0.at (wpAny_bind (L1.at ?_))))))))
  show wpAny _ _ (if (onTheHeap (Value.ref D) && Value.builtin "BaseException.__getattribute__" == Value.builtin "object.__getattribute__") = true then _ else _) _ _ _
  rw [hx1, if_neg Bool.false_ne_true]
  unfold getAttrByItsOwn hookBefore
  refine wpAny_bind ?_
  rw [if_pos (show onTheHeap (Value.ref D) = true from rfl)]
  refine L2.at ?_
  refine wpAny_bind (wpAny_attempt (wpAny_holding ?_))
  unfold callGetattribute
  rw [hx0, if_neg Bool.false_ne_true]
  unfold boundAndCalled
  rw [PySem.F.excAttr_ValueError.ga.bind (.ref x)]
  refine wpAny_bind (wpAny_pure ?_)
  show wpAny _ _ (call (.builtin "BaseException.__getattribute__") [.ref x, .str "__class__" t]) _ _ _
  refine wpAny_call (codeAny_call_builtin PySem.F.excAttr_ValueError.ga.plain PySem.F.entry_bexc_ga ?_)
  refine @check_slot (model prog w) _ _ ⟨hp, g, d, t + 1, os⟩ "BaseException.__getattribute__" "BaseException" "__getattribute__" (.ref x) [.str "__class__" t] [] _ (by decide +kernel) (by decide +kernel) sub (PySem.F.args_bexc_ga (.ref x) (.str "__class__" t)) ?_
  unfold Builtin.«object.__getattribute__»
  refine wpAny_bind (wpAny_of_eq (a := ((Value.ref x : Value), [Value.str "__class__" t])) (by first | rfl | (simp only [slotArgs]; rfl)) ?_)
  refine wpAny_bind (wpAny_pure (wpAny_bind (L0.at (wpAny_bind (L3.at ?_)))))
  show wpAny _ _ (holding [Value.builtin "object.__class__"] (call (.builtin "getset_descriptor.__get__") [.builtin "object.__class__", .ref x, .ref D]) >>= ret) _ _ _
  refine wpAny_bind (wpAny_holding (wpAny_call (class_get (s := ⟨hp, g, d, t + 1, os⟩) (ox := ox) (od := odx) X I C.hm ?_)))
  refine wpAny_pure ?_
  show wpAny _ _ (handedOut (.ref D)) _ _ _
  rw [handedOut_of (v := .ref D) rfl]
  first
    | exact wpAny_pure (wpAny_pure h)
    | exact wpAny_pure h
    | exact wpAny_pure (wpAny_bind (wpAny_pure (wpAny_pure h)))
theorem kitx_errX (C : L2.ExcC K D) : KitX K (.ref x) (.ref D) (fun h => InstAt h x ox D odx) where
  ty := fun _ _ _ I => I.type
  it := fun _ _ X _ => by
    obtain ⟨cdD, hcD, _⟩ := any_some C.hd
    unfold clsIn at hcD
    split at hcD
    · rename_i c' d' cd' sl' ho
      intro A' Q' E' s' k q
      unfold isType loadHead
      exact wpAny_bind (wpAny_loadPart (k _ _ (X _ _ ho)) (wpAny_pure q))
    · cases hcD
  ne := fun h tp dd its n sl X htp => by
    obtain ⟨cdD, hcD, _⟩ := any_some C.hd
    refine Bool.eq_false_iff.mpr fun q => ?_
    have e : D = tp := Value.ref.inj (beq_iff_eq.mp q)
    subst e
    unfold clsIn at hcD
    split at hcD
    · rename_i c' d' cd' sl' ho
      have z := (X _ _ ho).symm.trans htp
      cases z
    · cases hcD
  ca := fun X I k => kin_classX C X I k
end
end PySem.W
namespace L2
open PySem PySem.Spec PyProof.Rows
/-- isinstance(e, C), whether e has a dict or not -/
def rIsY (K : PySem.W.Frag) (cls : Value) (d : Option Addr) (a : Addr) : List V → Hp → VK → Prop := fun xs H Q => ∃ (D c : Addr) (b : Bool), cls = .ref D ∧ (d = none ∨ ∃ (dd : Addr) (fs : List (Str × V)), d = some dd ∧ H dd = some (.xd fs)) ∧ ExcC K D ∧ xs = [.ref a, .ref c] ∧ PySem.W.kitOne K (.ref D) (.ref c) = some b ∧ Q (.bl b) H
theorem call_isY {X : Cx} {a : Addr} {oe : Obj} {cls : Value} {d : Option Addr} {pn : List (Addr × Obj)} (hz : Zc cls d oe) (hf : ∃ vs, oe.data = .fields vs) : CallR (X.suite a ((a, oe) :: pn)) (.builtin "isinstance") (rIsY X.K cls d a) := by
  intro pins s σ H xs us Q I r h
  obtain ⟨D, c, b, rfl, hd, C, rfl, e, q⟩ := h
  cases r with
  | cons rx rr =>
    cases rr with
    | cons rt rr =>
      cases rr
      cases rx
      cases rt
      obtain ⟨hget, _⟩ := I.pin (a, oe) (List.mem_append.mpr (.inl List.mem_cons_self))
      obtain ⟨vs, hv⟩ := hf
      have J : ∃ odx, PySem.W.InstAt s.heap a oe D odx := by
        obtain ⟨oc, od, oda, osl⟩ := oe
        obtain ⟨h1, h2⟩ := hz
        dsimp only at h1 h2 hv
        subst h1 h2 hv
        rcases hd with rfl | ⟨dd, fs, rfl, ed⟩
        · exact ⟨none, hget, rfl, rfl, trivial⟩
        · have hx : ObjOk X.prog X.w H s.heap dd (.xd fs) := I.hok dd _ ed
          obtain ⟨mA, hns, hr⟩ := hx
          obtain ⟨od, ho, hl⟩ := lookIn_ns hns
          exact ⟨some od, hget, rfl, rfl, ho⟩
      obtain ⟨odx, J⟩ := J
      exact PySem.W.kia_one (PySem.W.kitx_errX C) I.kIn J e (fun z => nomatch z) fun tk => ⟨.bl b, H, I.kept (t' := tk) fun _ _ z => z, rfl, q⟩
/-! ### f-strings with None -/
def tFmtN (te : TE) : TE := fun σ H Q => te σ H fun x H1 => (x = .non ∧ Q (.str "None") H1) ∨ ∃ i : Int, x = .int i ∧ i.natAbs.log2 < 1920 ∧ Q (.str (toString i)) H1
theorem pe_fmtN {X : Cx} {e : Expr} {te : TE} {pos : Pos} (he : PE X e te) : PE X (.FormattedValue e (-1) none pos) (tFmtN te) := by
  refine ⟨fun pins s σ H Q I h => ?_⟩
  refine wpAny_FormattedValue_plain (thn (he.run pins s σ H _ I h) fun v s1 hv => ?_)
  obtain ⟨x, H1, I1, r1, q⟩ := hv
  rcases q with ⟨rfl, q⟩ | ⟨i, rfl, hz, q⟩
  · obtain rfl : v = Value.none := r1
    exact wpAny_formatField_none ⟨.str "None", H1, I1.tok _, ⟨_, rfl⟩, q⟩
  · obtain ⟨t, rfl⟩ := r1
    exact wpAny_formatField_int hz ⟨.str (toString i), H1, I1.tok _, ⟨_, rfl⟩, q⟩
end L2
set_option Elab.async false
set_option linter.all false
set_option maxRecDepth 100000
set_option maxHeartbeats 2000000
namespace RH
open PySem PySem.Spec PyProof.Rows L2
def topS (i : Nat) : Stmt := PySem.Challenge.pw_restlesshelf_k05_programs_refused.main.body.getD i (.Pass ⟨0, 0, 0, 0⟩)
abbrev st_e_BadHabit : Stmt := inClass (topS 2) 0
theorem sc_e_BadHabit : NdefX.NScope ["self", "place", "__class__"] ["self", "place"] ["__class__"] (defScope st_e_BadHabit) := NdefX.nscope_by (by decide +kernel)
abbrev st_e_BadProgram : Stmt := inClass (topS 3) 0
theorem sc_e_BadProgram : NdefX.NScope ["self", "index", "__class__"] ["self", "index"] ["__class__"] (defScope st_e_BadProgram) := NdefX.nscope_by (by decide +kernel)
abbrev st_is_integer : Stmt := topS 16
theorem sc_is_integer : FnScope ["value"] ["value"] (defScope st_is_integer) :=
  ⟨rfl, rfl, rfl, by decide +kernel, rfl, by decide +kernel, by decide +kernel⟩
abbrev st_is_number : Stmt := topS 17
theorem sc_is_number : FnScope ["value", "low", "high"] ["value", "low", "high"] (defScope st_is_number) :=
  ⟨rfl, rfl, rfl, by decide +kernel, rfl, by decide +kernel, by decide +kernel⟩
abbrev st_is_row : Stmt := topS 18
theorem sc_is_row : FnScope ["value", "low", "high"] ["value", "low", "high"] (defScope st_is_row) :=
  ⟨rfl, rfl, rfl, by decide +kernel, rfl, by decide +kernel, by decide +kernel⟩
abbrev st_is_place : Stmt := topS 19
theorem sc_is_place : FnScope ["value", "places"] ["value", "places"] (defScope st_is_place) :=
  ⟨rfl, rfl, rfl, by decide +kernel, rfl, by decide +kernel, by decide +kernel⟩
abbrev st_are_places : Stmt := topS 20
theorem sc_are_places : FnScope ["value", "places", "place"] ["value", "places"] (defScope st_are_places) :=
  ⟨rfl, rfl, rfl, by decide +kernel, rfl, by decide +kernel, by decide +kernel⟩
abbrev st_is_layout : Stmt := topS 21
theorem sc_is_layout : FnScope ["value", "places"] ["value", "places"] (defScope st_is_layout) :=
  ⟨rfl, rfl, rfl, by decide +kernel, rfl, by decide +kernel, by decide +kernel⟩
abbrev st_is_instruction : Stmt := topS 22
theorem sc_is_instruction : FnScope ["value", "places", "count", "is_restless", "word"] ["value", "places", "count", "is_restless"] (defScope st_is_instruction) :=
  ⟨rfl, rfl, rfl, by decide +kernel, rfl, by decide +kernel, by decide +kernel⟩
abbrev st_check_number : Stmt := topS 23
theorem sc_check_number : FnScope ["value", "low", "high"] ["value", "low", "high"] (defScope st_check_number) :=
  ⟨rfl, rfl, rfl, by decide +kernel, rfl, by decide +kernel, by decide +kernel⟩
abbrev st_check_places : Stmt := topS 24
theorem sc_check_places : FnScope ["places"] ["places"] (defScope st_check_places) :=
  ⟨rfl, rfl, rfl, by decide +kernel, rfl, by decide +kernel, by decide +kernel⟩
abbrev st_check_habit : Stmt := topS 25
theorem sc_check_habit : FnScope ["habit", "place", "moves"] ["habit"] (defScope st_check_habit) :=
  ⟨rfl, rfl, rfl, by decide +kernel, rfl, by decide +kernel, by decide +kernel⟩
abbrev st_check_program : Stmt := topS 26
theorem sc_check_program : FnScope ["program", "places", "most", "is_restless", "index", "instruction"] ["program", "places", "most", "is_restless"] (defScope st_check_program) :=
  ⟨rfl, rfl, rfl, by decide +kernel, rfl, by decide +kernel, by decide +kernel⟩
abbrev st_check_still : Stmt := topS 27
theorem sc_check_still : FnScope ["program", "places"] ["program", "places"] (defScope st_check_still) :=
  ⟨rfl, rfl, rfl, by decide +kernel, rfl, by decide +kernel, by decide +kernel⟩
abbrev st_check_restless : Stmt := topS 28
theorem sc_check_restless : FnScope ["program", "places"] ["program", "places"] (defScope st_check_restless) :=
  ⟨rfl, rfl, rfl, by decide +kernel, rfl, by decide +kernel, by decide +kernel⟩
abbrev st_check_inputs : Stmt := topS 29
theorem sc_check_inputs : FnScope ["inputs", "number"] ["inputs"] (defScope st_check_inputs) :=
  ⟨rfl, rfl, rfl, by decide +kernel, rfl, by decide +kernel, by decide +kernel⟩
abbrev st_has_ended : Stmt := topS 32
theorem sc_has_ended : FnScope ["program", "at"] ["program", "at"] (defScope st_has_ended) :=
  ⟨rfl, rfl, rfl, by decide +kernel, rfl, by decide +kernel, by decide +kernel⟩
abbrev st_m___init__ : Stmt := inClass (topS 41) 0
theorem sc_m___init__ : FnScope ["self", "habit", "program", "inputs"] ["self", "habit", "program", "inputs"] (defScope st_m___init__) :=
  ⟨rfl, rfl, rfl, by decide +kernel, rfl, by decide +kernel, by decide +kernel⟩
abbrev st_m_is_done : Stmt := inClass (topS 41) 1
theorem sc_m_is_done : FnScope ["self"] ["self"] (defScope st_m_is_done) :=
  ⟨rfl, rfl, rfl, by decide +kernel, rfl, by decide +kernel, by decide +kernel⟩
abbrev st_m_step : Stmt := inClass (topS 41) 2
theorem sc_m_step : FnScope ["self", "instruction", "word"] ["self"] (defScope st_m_step) :=
  ⟨rfl, rfl, rfl, by decide +kernel, rfl, by decide +kernel, by decide +kernel⟩
abbrev st_m_next_input : Stmt := inClass (topS 41) 3
theorem sc_m_next_input : FnScope ["self"] ["self"] (defScope st_m_next_input) :=
  ⟨rfl, rfl, rfl, by decide +kernel, rfl, by decide +kernel, by decide +kernel⟩
abbrev st_m_use : Stmt := inClass (topS 41) 4
theorem sc_m_use : FnScope ["self", "word", "place"] ["self", "word", "place"] (defScope st_m_use) :=
  ⟨rfl, rfl, rfl, by decide +kernel, rfl, by decide +kernel, by decide +kernel⟩
abbrev st_m_be_moved : Stmt := inClass (topS 41) 5
theorem sc_m_be_moved : FnScope ["self", "moves", "held", "stood", "goal"] ["self", "moves"] (defScope st_m_be_moved) :=
  ⟨rfl, rfl, rfl, by decide +kernel, rfl, by decide +kernel, by decide +kernel⟩
abbrev st_run : Stmt := topS 42
theorem sc_run : FnScope ["habit", "program", "inputs", "most", "machine", "_", "word"] ["habit", "program", "inputs", "most"] (defScope st_run) :=
  ⟨rfl, rfl, rfl, by decide +kernel, rfl, by decide +kernel, by decide +kernel⟩
abbrev st_run_still : Stmt := topS 43
theorem sc_run_still : FnScope ["places", "program", "inputs", "most", "never_moves"] ["places", "program", "inputs", "most"] (defScope st_run_still) :=
  ⟨rfl, rfl, rfl, by decide +kernel, rfl, by decide +kernel, by decide +kernel⟩
abbrev st_run_restless : Stmt := topS 44
theorem sc_run_restless : FnScope ["habit", "program", "inputs", "most"] ["habit", "program", "inputs", "most"] (defScope st_run_restless) :=
  ⟨rfl, rfl, rfl, by decide +kernel, rfl, by decide +kernel, by decide +kernel⟩
abbrev st_reached : Stmt := topS 45
theorem sc_reached : FnScope ["places", "program"] ["places", "program"] (defScope st_reached) :=
  ⟨rfl, rfl, rfl, by decide +kernel, rfl, by decide +kernel, by decide +kernel⟩
abbrev st_used : Stmt := topS 46
theorem sc_used : FnScope ["places", "program"] ["places", "program"] (defScope st_used) :=
  ⟨rfl, rfl, rfl, by decide +kernel, rfl, by decide +kernel, by decide +kernel⟩
abbrev st_flow : Stmt := topS 47
theorem sc_flow : FnScope ["places", "program"] ["places", "program"] (defScope st_flow) :=
  ⟨rfl, rfl, rfl, by decide +kernel, rfl, by decide +kernel, by decide +kernel⟩
abbrev st__law_taken : Stmt := topS 49
theorem sc__law_taken : FnScope ["row", "many", "found", "cell"] ["row", "many"] (defScope st__law_taken) :=
  ⟨rfl, rfl, rfl, by decide +kernel, rfl, by decide +kernel, by decide +kernel⟩
abbrev st__law_pick : Stmt := topS 50
theorem sc__law_pick : FnScope ["row", "things"] ["row", "things"] (defScope st__law_pick) :=
  ⟨rfl, rfl, rfl, by decide +kernel, rfl, by decide +kernel, by decide +kernel⟩
abbrev st__law_refused : Stmt := topS 51
theorem sc__law_refused : FnScope ["work", "found", "e", "kinds", "names"] ["work"] (defScope st__law_refused) :=
  ⟨rfl, rfl, rfl, by decide +kernel, rfl, by decide +kernel, by decide +kernel⟩
abbrev st__law_works : Stmt := topS 52
theorem sc__law_works : FnScope ["one", "other", "third", "fourth", "works"] ["one", "other", "third", "fourth"] (defScope st__law_works) :=
  ⟨rfl, rfl, rfl, by decide +kernel, rfl, by decide +kernel, by decide +kernel⟩
abbrev st__law_order : Stmt := topS 53
theorem sc__law_order : FnScope ["row", "many", "left", "found"] ["row", "many"] (defScope st__law_order) :=
  ⟨rfl, rfl, rfl, by decide +kernel, rfl, by decide +kernel, by decide +kernel⟩
abbrev st__law_habit : Stmt := topS 54
theorem sc__law_habit : FnScope ["row", "places", "way", "found", "place", "moved", "other", "spot"] ["row", "places"] (defScope st__law_habit) :=
  ⟨rfl, rfl, rfl, by decide +kernel, rfl, by decide +kernel, by decide +kernel⟩
abbrev st__law_program : Stmt := topS 55
theorem sc__law_program : FnScope ["row", "places", "many", "size", "found", "words", "at", "word"] ["row", "places", "many"] (defScope st__law_program) :=
  ⟨rfl, rfl, rfl, by decide +kernel, rfl, by decide +kernel, by decide +kernel⟩
abbrev st_law : Stmt := topS 56
theorem sc_law : FnScope ["script", "row", "number", "places", "habit", "program", "at", "odd", "bent", "some", "value", "index", "touch", "wide", "inputs", "works", "most", "work"] ["script"] (defScope st_law) :=
  ⟨rfl, rfl, rfl, by decide +kernel, rfl, by decide +kernel, by decide +kernel⟩
/-! ### what the top has written -/
/-- the def x of the text stands in the module under its name -/
structure Df (K : PySem.W.Frag) (mg : Str → Option Value) (x : Str) (st : Stmt) (ps : List Str) : Prop where
  ex : ∃ (f : Addr) (fd : FuncData), Fun K x x st f fd ∧ mg x = some (.ref f) ∧ Binds K fd ps []
/-- names of the interpreter that the module leaves alone -/
structure Bu (mg : Str → Option Value) : Prop where
  isi : mg "isinstance" = none
  int : mg "int" = none
  bool : mg "bool" = none
  str : mg "str" = none
  tuple : mg "tuple" = none
  list : mg "list" = none
  len : mg "len" = none
  all : mg "all" = none
  zip : mg "zip" = none
  range : mg "range" = none
  sorted : mg "sorted" = none
  enumerate : mg "enumerate" = none
  max : mg "max" = none
section
variable {P : Program} {w : World} {K : PySem.W.Frag} {mg : Str → Option Value} {base : Heap}
/-- a def that may be called by its name -/
structure Cal (P : Program) (w : World) (K : PySem.W.Frag) (mg : Str → Option Value) (base : Heap) (k : Nat) (x : Str) (sp : Sp) : Prop where
  ex : ∃ (f : Addr) (fd : FuncData) (ps : List Str), FnOk P w K mg base CX0 k f fd ps sp ∧ mg x = some (.ref f) ∧ PySem.W.keepIn K (.ref f) = true ∧ Binds K fd ps []
theorem mkCal {x : Str} {st : Stmt} {N ps : List Str} {k : Nat} {sp : Sp} (F : Df K mg x st ps) (S : FnScope N ps (defScope st)) (len : ∀ vs H Q E, sp vs H Q E → vs.length = ps.length)
    (hbody : ∀ (f : Addr) (cdv : Value) (A : Around) (outer : List Env) (s : Shared) (H : Hp) (vs : List V) (Q : VK) (E : XK), Room k (A.deeper (envOfC x (defScope st) s.heap.objs.size f cdv)) → sp vs H Q E →
      ∃ t, PSs (cxOf CX0 P w K mg base N x (defScope st) f cdv A outer s H E).nox (defBody st) t ∧ t { nx := fun _ H' => Q .non H', rt := Q } (start N vs) H) : Cal P w K mg base (k + 1) x sp := by
  obtain ⟨f, fd, F, g, b⟩ := F.ex
  exact ⟨f, fd, ps, F.ok S len (hbody f), g, F.kp, b⟩
theorem Cal.imp {k : Nat} {x : Str} {sp sp' : Sp} (c : Cal P w K mg base k x sp) (h : ∀ vs H Q E, sp' vs H Q E → sp vs H Q E) : Cal P w K mg base k x sp' := by
  obtain ⟨f, fd, ps, F, g, kp, b⟩ := c.ex
  exact ⟨f, fd, ps, F.imp h, g, kp, b⟩
end
theorem pc {X : Cx} {k j : Nat} {x : Str} {sp : Sp} {p pos : Pos} {e : Expr} {es : List Expr} {t : TA} (c : Cal X.prog X.w X.K X.mg X.base k x sp) (hr : Room j X.A) (ha : PA X (e :: es) t) (hk : k ≤ j := by decide) (hg : Gl X x := by rfl)
    (hdb : (x == ("__debug__" : Str)) = false := by decide) (he : starEach (e :: es) X.env = (false, eval e X.env) :: starEach es X.env := by rfl) (hpl : (backTo pos (starEach es X.env)).any (·.1) = false := by rfl) :
    PE X (.Call (.Name x p) (e :: es) [] pos) (tCall sp [] E0 t) := by
  obtain ⟨f, fd, ps, F, hm, kp, b⟩ := c.ex
  exact pe_call F (hr.mono hk) hg hm kp b .nil pass0 ha hdb he hpl
/-- a statement that is never come to -/
theorem ps_no {X : Cx} {st : Stmt} : PS X st (fun _ _ _ => False) := ⟨fun _ _ _ _ _ _ h => h.elim⟩
/-! ### heaps, tuples of ints, and of such -/
theorem same_new {H : Hp} {p : Addr} {o : HO} (h : H p = none) : Same H (upd H p o) := fun b x e => by
  rw [upd_ne (ne_of_none e h)]
  exact e
theorem seqT {K : PySem.W.Frag} {H H' : Hp} {a : Addr} {xs : List V} (e : ∀ o, H a = some o → H' a = some o) (h : SqT K H a xs) : SqT K H' a xs := by
  rcases h with (h | ⟨o, h⟩) | h
  · exact .inl (.inl (e _ h))
  · exact .inl (.inr ⟨o, e _ h⟩)
  · exact .inr h
theorem onT {K : PySem.W.Frag} {H H' : Hp} {a : Addr} {xs : List V} (e : Same H H') (h : SqT K H a xs) : SqT K H' a xs := seqT (fun o => e a o) h
theorem tupAt {K : PySem.W.Frag} {H : Hp} {a : Addr} {xs : List V} (h : H a = some (.tup xs)) : SqT K H a xs := .inl (.inl h)
theorem lstAt {K : PySem.W.Frag} {H : Hp} {a : Addr} {xs : List V} (h : H a = some (.lst xs)) : SqL K H a xs := .inl (.inl h)
/-- a tuple's type -/
theorem ty_tup {K : PySem.W.Frag} {H : Hp} {a : Addr} {xs : List V} (h : SqT K H a xs) : TyX K H (.ref a) (.type "tuple") := by
  rcases h with (h | ⟨o, h⟩) | ⟨o, its, n, h, c, _⟩
  · exact .base (.tup h)
  · exact .fTuple h
  · exact .kTuple h c
/-- each by each -/
inductive Each {α : Type} (R : V → α → Prop) : List V → List α → Prop
  | nil : Each R [] []
  | cons {v : V} {d : α} {vs : List V} {ds : List α} : R v d → Each R vs ds → Each R (v :: vs) (d :: ds)
theorem Each.len {α : Type} {R : V → α → Prop} : ∀ {vs : List V} {ds : List α}, Each R vs ds → vs.length = ds.length
  | _, _, .nil => rfl
  | _, _, .cons _ t => congrArg (· + 1) t.len
theorem Each.imp {α : Type} {R R' : V → α → Prop} (f : ∀ v d, R v d → R' v d) : ∀ {vs : List V} {ds : List α}, Each R vs ds → Each R' vs ds
  | _, _, .nil => .nil
  | _, _, .cons h t => .cons (f _ _ h) (t.imp f)
theorem Each.at {α : Type} {R : V → α → Prop} : ∀ {vs : List V} {ds : List α} {i : Nat} {v : V}, Each R vs ds → vs[i]? = some v → ∃ d, ds[i]? = some d ∧ R v d
  | _, _, _, _, .nil, e => by simp at e
  | _, _, 0, _, .cons h _, e => by
    have e' := Option.some.inj e
    subst e'
    exact ⟨_, rfl, h⟩
  | _, _, i + 1, _, .cons _ t, e => t.at (i := i) e
theorem Each.of {α : Type} {R : V → α → Prop} : ∀ {vs : List V} {ds : List α} {i : Nat} {d : α}, Each R vs ds → ds[i]? = some d → ∃ v, vs[i]? = some v ∧ R v d
  | _, _, _, _, .nil, e => by simp at e
  | _, _, 0, _, .cons h _, e => by
    have e' := Option.some.inj e
    subst e'
    exact ⟨_, rfl, h⟩
  | _, _, i + 1, _, .cons _ t, e => t.of (i := i) e
theorem Each.snoc {α : Type} {R : V → α → Prop} {v : V} {d : α} (h : R v d) : ∀ {vs : List V} {ds : List α}, Each R vs ds → Each R (vs ++ [v]) (ds ++ [d])
  | _, _, .nil => .cons h .nil
  | _, _, .cons g t => .cons g (t.snoc h)
/-- a tuple of ints -/
def TI (K : PySem.W.Frag) (H : Hp) (v : V) (ns : List Int) : Prop := ∃ a, v = .ref a ∧ SqT K H a (ns.map V.int)
/-- a tuple of such -/
def TII (K : PySem.W.Frag) (H : Hp) (v : V) (nss : List (List Int)) : Prop := ∃ a vs, v = .ref a ∧ SqT K H a vs ∧ Each (TI K H) vs nss
def THs (K : PySem.W.Frag) (H : Hp) (v : V) (hs : List (List (List Int))) : Prop := ∃ a vs, v = .ref a ∧ SqT K H a vs ∧ Each (TII K H) vs hs
/-- all tuples stand -/
def Tups (K : PySem.W.Frag) (H H' : Hp) : Prop := ∀ a xs, SqT K H a xs → SqT K H' a xs
theorem Same.tups {K : PySem.W.Frag} {H H' : Hp} (e : Same H H') : Tups K H H' := fun _ _ h => onT e h
theorem TI.on {K : PySem.W.Frag} {H H' : Hp} {v : V} {ns : List Int} (e : Tups K H H') (h : TI K H v ns) : TI K H' v ns := let ⟨a, h1, h2⟩ := h; ⟨a, h1, e _ _ h2⟩
theorem TII.on {K : PySem.W.Frag} {H H' : Hp} {v : V} {nss : List (List Int)} (e : Tups K H H') (h : TII K H v nss) : TII K H' v nss := let ⟨a, vs, h1, h2, h3⟩ := h; ⟨a, vs, h1, e _ _ h2, h3.imp fun _ _ z => z.on e⟩
theorem THs.on {K : PySem.W.Frag} {H H' : Hp} {v : V} {hs : List (List (List Int))} (e : Tups K H H') (h : THs K H v hs) : THs K H' v hs := let ⟨a, vs, h1, h2, h3⟩ := h; ⟨a, vs, h1, e _ _ h2, h3.imp fun _ _ z => z.on e⟩
theorem at_map {ns : List Int} {i : Nat} {n : Int} (h : ns[i]? = some n) : (ns.map V.int)[i]? = some (.int n) := by
  rw [List.getElem?_map, h]
  rfl
theorem all_snoc {α : Type} (f : α → Bool) {l : List α} {i : Nat} {x : α} (h : l[i]? = some x) : (l.take (i + 1)).map f = (l.take i).map f ++ [f x] := by
  rw [List.take_add_one, h, List.map_append]
  rfl
/-! ### lists of ints, compared -/
theorem dpAll_ints {K : PySem.W.Frag} {H : Hp} : ∀ ns : List Int, DpAll K H (ns.map V.int) (ns.map PyData.int)
  | [] => .nil
  | n :: ns => .cons (.int n) (dpAll_ints ns)
theorem dp_lst {K : PySem.W.Frag} {H : Hp} {a : Addr} {ns : List Int} (h : SqL K H a (ns.map V.int)) : Dp K H (.ref a) (.list (ns.map PyData.int)) := .lst h (dpAll_ints ns)
theorem eqv_lst (ns ms : List Int) : PyData.eqv (.list (ns.map PyData.int)) (.list (ms.map PyData.int)) = decide (ns = ms) := by
  rw [PyData.eqv]
  exact PySem.W.ked_eqvAll ns ms
def rg (n : Nat) : List Int := (List.range n).map fun i : Nat => (i : Int)
theorem rgV_rg (n : Nat) : rgV 0 (n : Int) = (rg n).map V.int := by
  unfold rgV rg
  rw [List.map_map, Int.sub_zero, Int.toNat_natCast]
  refine List.map_congr_left fun i _ => ?_
  show V.int (0 + (i : Int)) = V.int (i : Int)
  rw [Int.zero_add]
theorem rg_len (n : Nat) : (rg n).length = n := by
  unfold rg
  rw [List.length_map, List.length_range]
theorem rg_mem {n : Nat} {x : Int} : x ∈ rg n ↔ 0 ≤ x ∧ x < n := by
  unfold rg
  rw [List.mem_map]
  constructor
  · rintro ⟨i, h, rfl⟩
    have := List.mem_range.mp h
    omega
  · rintro ⟨h1, h2⟩
    exact ⟨x.toNat, List.mem_range.mpr (by omega), by omega⟩
/-! ### walks over enumerate and zip of tuples -/
section
variable {K : PySem.W.Frag} {a b : Addr} {xs ys : List V}
theorem for_enumT {g : TG} {tb : TS} {D : Ends} {σ : L2.St} {H : Hp} (Pv : Nat → L2.St → Hp → Prop) (h0 : Pv 0 σ H) (hl : ∀ i σ H, Pv i σ H → SqT K H a xs)
    (hs : ∀ i x T σ H, xs[i]? = some x → Pv i σ H → H T = none → g (.ref T) σ (upd H T (.tup [.int (i : Nat), x])) fun σ2 H2 => tb { D with nx := Pv (i + 1), ct := Pv (i + 1), bk := D.nx } σ2 H2) (hd : ∀ σ H, Pv xs.length σ H → D.nx σ H) :
    ∃ W : Nat → Nat → L2.St → Hp → Prop, (∃ m, W 0 m σ H) ∧ ∀ i m σ H, W i m σ H →
      ((IteT K a).stop i H ∧ D.nx σ H) ∨ ((IteT K a).go i H ∧ ∃ N : L2.St → Hp → Prop, (∀ σ' H', N σ' H' → ∃ m', m' < m ∧ W (i + 1) m' σ' H') ∧ ∀ x H', (IteT K a).yld i H x H' → g x σ H' fun σ2 H2 => tb { D with nx := N, ct := N, bk := D.nx } σ2 H2) := by
  refine ⟨fun i m σ H => m = xs.length - i ∧ i ≤ xs.length ∧ Pv i σ H, ⟨xs.length, rfl, Nat.zero_le _, h0⟩, ?_⟩
  rintro i m σ H ⟨rfl, hi, p⟩
  have q := hl i σ H p
  by_cases hlt : i < xs.length
  · have hx : xs[i]? = some xs[i] := List.getElem?_eq_getElem hlt
    refine .inr ⟨⟨xs, _, q, hx⟩, Pv (i + 1), fun σ' H' p' => ⟨xs.length - (i + 1), by omega, rfl, hlt, p'⟩, fun v H' y => ?_⟩
    obtain ⟨T, x', rfl, hT, rfl, f1⟩ := y
    exact hs i x' T σ H (f1 xs q) p hT
  · have e : i = xs.length := by omega
    subst e
    exact .inl ⟨⟨xs, q, Nat.le_refl _⟩, hd σ H p⟩
end
end RH
set_option Elab.async false
set_option linter.all false
set_option maxRecDepth 100000
set_option maxHeartbeats 2000000
set_option Elab.async false
set_option linter.all false
set_option maxRecDepth 100000
set_option maxHeartbeats 2000000
namespace RH
open PySem PySem.Spec PyProof.Rows L2
section
variable {P : Program} {w : World} {K : PySem.W.Frag} {mg : Str → Option Value} {base : Heap}
/-- all are places -/
def inP (p : Int) (ns : List Int) : Bool := ns.all fun i => decide (0 ≤ i) && decide (i ≤ p - 1)
end
end RH
set_option Elab.async false
set_option linter.all false
set_option maxRecDepth 100000
set_option maxHeartbeats 2000000
namespace RH
open PySem PySem.Spec PyProof.Rows L2
/-! ### slices and constants -/
theorem cut_from (xs : List V) (k : Nat) : cutV xs (some (k : Int)) none = xs.drop k := by
  unfold cutV
  rw [HT.sIx_nat, HT.sIx_none]
  rcases Nat.le_total k xs.length with h | h
  · rw [Nat.min_eq_left h]
    exact List.take_of_length_le (by rw [List.length_drop]; exact Nat.le_refl _)
  · rw [Nat.min_eq_right h, Nat.sub_self, List.take_zero, List.drop_eq_nil_of_le h]
theorem cut_to (xs : List V) (k : Nat) : cutV xs none (some (k : Int)) = xs.take k := by
  unfold cutV
  rw [HT.sIx_nat, HT.sIx_none, List.drop_zero, Nat.sub_zero]
  rcases Nat.le_total k xs.length with h | h
  · rw [Nat.min_eq_left h]
  · rw [Nat.min_eq_right h, List.take_length, List.take_of_length_le h]
/-- t[k:], k written -/
theorem slT_from {K : PySem.W.Frag} {H : Hp} {a : Addr} {xs : List V} {Q : VK} (z : Int) (k : Nat) (hz : z = (k : Int)) (h : SqT K H a xs) (q : ∀ b H2, Same H H2 → SqT K H2 b (xs.drop k) → Q (.ref b) H2) : rSlA K (.ref a) (some z) none H Q := by
  subst hz
  refine ⟨a, xs, rfl, h, fun hf => q a H (Same.refl H) ?_, fun _ p hp => q p _ (same_new hp) (tupAt (by rw [upd_same, cut_from]))⟩
  have e := hf.1
  rw [HT.sIx_nat] at e
  rcases Nat.le_total k xs.length with h' | h'
  · rw [Nat.min_eq_left h'] at e
    rw [e, List.drop_zero]
    exact h
  · rw [Nat.min_eq_right h'] at e
    have e2 : xs = [] := List.eq_nil_of_length_eq_zero e
    subst e2
    rw [List.drop_nil]
    exact h
/-- a number that the module keeps -/
theorem pk {X : Cx} {x : Str} {i : Int} {pos : Pos} (h : ∃ t, X.mg x = some (.int i t)) (hg : Gl X x := by rfl) (hn : x ≠ "__name__" := by decide) (hd : (x == ("__debug__" : Str)) = false := by decide) : PE X (.Name x pos) (tC (.int i)) := by
  obtain ⟨t, h⟩ := h
  exact pe_glob (v := .int i) hg h ⟨_, rfl⟩ hd
/-! ### rules within a comprehension: the written part is told -/
def rLenK (K : PySem.W.Frag) : List V → Hp → VK → Prop := fun xs H Q => ∃ p ys, xs = [.ref p] ∧ (SqL K H p ys ∨ SqT K H p ys) ∧ Q (.int ys.length) H
theorem cl_len {X : Cx} (K : PySem.W.Frag) (h : X.K = K := by rfl) : CallR X (.builtin "len") (rLenK K) := by
  subst h
  exact call_len_seq
theorem ixT {X : Cx} (K : PySem.W.Frag) (h : X.K = K := by rfl) : IxR X (rIxT K) := by
  subst h
  exact ix_tup
theorem opIn {X : Cx} (K : PySem.W.Frag) (h : X.K = K := by rfl) : OpR X (compareOp .In) (rIn K false) := by
  subst h
  exact op_in_seq
/-! ### rising, a layout, a habit -/
def isLay (p : Nat) (ns : List Int) : Bool := ns.isPerm (rg p)
theorem rg_le (p : Nat) : (rg p).Pairwise (· ≤ ·) := by
  unfold rg
  rw [List.pairwise_map]
  exact (List.pairwise_lt_range (n := p)).imp fun h => by omega
end RH
set_option Elab.async false
set_option linter.all false
set_option maxRecDepth 100000
set_option maxHeartbeats 2000000
namespace RH
open PySem PySem.Spec PyProof.Rows L2
/-! ### the mathematics of marks -/
theorem ifT {c : Bool} {A B : Prop} (hc : c = true) (h : A) : if c = true then A else B := by
  rw [if_pos hc]
  exact h
theorem ifF {c : Bool} {A B : Prop} (hc : c = false) (h : B) : if c = true then A else B := by
  rw [hc, if_neg Bool.false_ne_true]
  exact h
/-- a habit of n places -/
structure Hb (n : Nat) (h : List (List Int)) : Prop where
  len : h.length = n
  perm : ∀ ns ∈ h, ns.Perm (rg n)
  lo : 2 ≤ n
  hi : n ≤ 5
theorem Hb.short {n : Nat} {h : List (List Int)} (q : Hb n h) {ns : List Int} (hm : ns ∈ h) : ns.length = n := by
  rw [(q.perm ns hm).length_eq, rg_len]
def mv (h : List (List Int)) (t s : Int) : Int := (h.getD t.toNat []).getD s.toNat 0
theorem Hb.at {n : Nat} {h : List (List Int)} (q : Hb n h) {t s : Int} (t0 : 0 ≤ t) (t1 : t < n) (s0 : 0 ≤ s) (s1 : s < n) :
    ∃ ns, h[t.toNat]? = some ns ∧ ns[s.toNat]? = some (mv h t s) ∧ 0 ≤ mv h t s ∧ mv h t s < n := by
  have h1 : t.toNat < h.length := by rw [q.len]; omega
  have e1 : h[t.toNat]? = some h[t.toNat] := List.getElem?_eq_getElem h1
  have hm : h[t.toNat] ∈ h := List.getElem_mem h1
  have h2 : s.toNat < h[t.toNat].length := by rw [q.short hm]; omega
  have e2 : h[t.toNat][s.toNat]? = some h[t.toNat][s.toNat] := List.getElem?_eq_getElem h2
  have e4 : h.getD t.toNat [] = h[t.toNat] := by
    rw [List.getD_eq_getElem?_getD, e1]
    rfl
  have e3 : mv h t s = h[t.toNat][s.toNat] := by
    unfold mv
    rw [e4, List.getD_eq_getElem?_getD, e2]
    rfl
  have h4 := rg_mem.mp ((q.perm _ hm).mem_iff.mp (List.getElem_mem h2))
  rw [← e3] at h4
  exact ⟨_, e1, by rw [e3]; exact e2, h4⟩
def InR (n : Nat) (i : Int) : Prop := 0 ≤ i ∧ i < n
/-- an item of an int's place -/
theorem at_int {α : Type} {xs : List α} {z : Int} {v : α} (h0 : 0 ≤ z) (h : xs[z.toNat]? = some v) : atI xs z = some v := by
  have e : z = ((z.toNat : Nat) : Int) := by omega
  rw [e]
  exact atI_nat h
end RH
set_option Elab.async false
set_option linter.all false
set_option maxRecDepth 100000
set_option maxHeartbeats 2000000
namespace RH
open PySem PySem.Spec PyProof.Rows L2
/-! ### the law's own row of draws -/
/-- all but what stands at p is as it was -/
def But (p : Addr) (H H' : Hp) : Prop := ∀ b o, H b = some o → b ≠ p → H' b = some o
theorem But.refl (p : Addr) (H : Hp) : But p H H := fun _ _ e _ => e
theorem But.trans {p : Addr} {H H1 H2 : Hp} (a : But p H H1) (b : But p H1 H2) : But p H H2 := fun c o e n => b c o (a c o e n) n
theorem But.same {p : Addr} {H H1 : Hp} (a : Same H H1) : But p H H1 := fun c o e _ => a c o e
theorem But.upd {p : Addr} {H H1 : Hp} {o : HO} (a : But p H H1) : But p H (upd H1 p o) := fun c u e n => by
  rw [upd_ne n]
  exact a c u e n
/-- all that is no list is as it was -/
def Fix (H H' : Hp) : Prop := ∀ b o, H b = some o → (∀ xs, o ≠ .lst xs) → H' b = some o
theorem Fix.refl (H : Hp) : Fix H H := fun _ _ e _ => e
theorem Fix.trans {H H1 H2 : Hp} (a : Fix H H1) (b : Fix H1 H2) : Fix H H2 := fun c o e n => b c o (a c o e n) n
theorem Fix.same {H H1 : Hp} (a : Same H H1) : Fix H H1 := fun c o e _ => a c o e
theorem Fix.lst {H : Hp} {p : Addr} {xs : List V} {o : HO} (h : H p = some (.lst xs)) : Fix H (L2.upd H p o) := fun b u e n => by
  by_cases z : b = p
  · subst z
    rw [h] at e
    cases e
    exact absurd rfl (n _)
  · rw [upd_ne z]
    exact e
theorem Fix.tups {K : PySem.W.Frag} {H H' : Hp} (b : Fix H H') : Tups K H H' := fun a xs hS => by
  rcases hS with (hS | ⟨u, hS⟩) | hS
  · exact .inl (.inl (b _ _ hS (fun _ z => nomatch z)))
  · exact .inl (.inr ⟨u, b _ _ hS (fun _ z => nomatch z)⟩)
  · exact .inr hS
theorem But.fix {H H' : Hp} {p : Addr} {xs : List V} (h : H p = some (.lst xs)) (b : But p H H') : Fix H H' := fun c o e n => b c o e fun z => by
  subst z
  rw [h] at e
  cases e
  exact n _ rfl
/-- a list that never changes -/
def Fz (K : PySem.W.Frag) (H : Hp) (a : Addr) (xs : List V) : Prop := (∃ o, H a = some (.frz o (.lst xs))) ∨ ∀ H', SqL K H' a xs
theorem Fz.seq {K : PySem.W.Frag} {H : Hp} {a : Addr} {xs : List V} (h : Fz K H a xs) : SqL K H a xs := by
  rcases h with ⟨o, h⟩ | h
  · exact .inl (.inr ⟨o, h⟩)
  · exact h H
theorem Fz.on {K : PySem.W.Frag} {H H' : Hp} {a : Addr} {xs : List V} (f : Fix H H') (h : Fz K H a xs) : Fz K H' a xs := by
  rcases h with ⟨o, h⟩ | h
  · exact .inl ⟨o, f _ _ h (fun _ z => nomatch z)⟩
  · exact .inr h
theorem Fz.of {K : PySem.W.Frag} {H : Hp} {a : Addr} {xs : List V} (o : Only H) (h : SqL K H a xs) : Fz K H a xs := by
  rcases h with (h | h) | h
  · rcases o a with e | ⟨u, ys, e⟩
    · rw [e] at h
      cases h
    · rw [e] at h
      cases h
  · exact .inl h
  · exact .inr fun H' => .inr h
/-- row: the script, how many of it are taken, the running number, what is left of a great one -/
structure RowA (K : PySem.W.Frag) (H : Hp) (p a : Addr) (ns : List Int) (i r c : Int) : Prop where
  at_ : H p = some (.lst [.ref a, .int i, .int r, .int c])
  fz : Fz K H a (ns.map V.int)
  pos : 0 ≤ i
theorem RowA.scr {K : PySem.W.Frag} {H : Hp} {p a : Addr} {ns : List Int} {i r c : Int} (h : RowA K H p a ns i r c) : SqL K H a (ns.map V.int) := h.fz.seq
def Row (K : PySem.W.Frag) (H : Hp) (p : Addr) : Prop := ∃ a ns i r c, RowA K H p a ns i r c
theorem RowA.put {K : PySem.W.Frag} {H : Hp} {p a : Addr} {ns : List Int} {i r c i' r' c' : Int} (h : RowA K H p a ns i r c) (hi : 0 ≤ i') :
    RowA K (upd H p (.lst [.ref a, .int i', .int r', .int c'])) p a ns i' r' c' :=
  ⟨upd_same, h.fz.on (Fix.lst h.at_), hi⟩
theorem RowA.row {K : PySem.W.Frag} {H : Hp} {p a : Addr} {ns : List Int} {i r c : Int} (h : RowA K H p a ns i r c) : Row K H p := ⟨_, _, _, _, _, h⟩
theorem Row.lst {K : PySem.W.Frag} {H : Hp} {p : Addr} (h : Row K H p) : ∃ xs, H p = some (.lst xs) := by
  obtain ⟨a, ns, i, r, c, h⟩ := h
  exact ⟨_, h.at_⟩
theorem Row.fix {K : PySem.W.Frag} {H H' : Hp} {p : Addr} (h : Row K H p) (b : But p H H') : Fix H H' := by
  obtain ⟨xs, e⟩ := h.lst
  exact But.fix e b
theorem Row.on {K : PySem.W.Frag} {H H' : Hp} {p : Addr} (h : Row K H p) (f : Fix H H') (e : H' p = H p) : Row K H' p := by
  obtain ⟨a, ns, i, r, c, h⟩ := h
  exact ⟨a, ns, i, r, c, e.trans h.at_, h.fz.on f, h.pos⟩
theorem Row.same {K : PySem.W.Frag} {H H' : Hp} {p : Addr} (h : Row K H p) (s : Same H H') : Row K H' p := by
  obtain ⟨xs, e⟩ := h.lst
  exact h.on (Fix.same s) ((s _ _ e).trans e.symm)
/-- another list is written -/
theorem Row.lst_upd {K : PySem.W.Frag} {H : Hp} {p q : Addr} {xs : List V} {o : HO} (h : Row K H p) (e : H q = some (.lst xs)) (n : p ≠ q) : Row K (upd H q o) p := h.on (Fix.lst e) (upd_ne n)
/-- a new object -/
theorem Row.new {K : PySem.W.Frag} {H : Hp} {p q : Addr} {o : HO} (h : Row K H p) (e : H q = none) : Row K (upd H q o) p := h.same (same_new e)
theorem Row.ne {K : PySem.W.Frag} {H : Hp} {p q : Addr} (h : Row K H p) (e : H q = none) : p ≠ q := by
  obtain ⟨xs, e'⟩ := h.lst
  exact ne_of_none e' e
section
variable {P : Program} {w : World} {K : PySem.W.Frag} {mg : Str → Option Value} {base : Heap}
def spTaken (K : PySem.W.Frag) : Sp := fun vs H Q _ => ∃ (p : Addr) (m : Int), vs = [.ref p, .int m] ∧ Row K H p ∧ 0 < m ∧ m < 1048576 ∧ ∀ k H', 0 ≤ k → k < m → But p H H' → Row K H' p → Q (.int k) H'
theorem ok_taken (F : Df K mg "_law_taken" st__law_taken ["row", "many"]) (B : Bu mg) : Cal P w K mg base 1 "_law_taken" (spTaken K) := by
  refine mkCal F sc__law_taken (fun vs H Q E h => ?_) (fun f cdv A outer s H vs Q E hr h => ?_)
  · obtain ⟨p, m, rfl, _⟩ := h
    rfl
  · obtain ⟨p, m, rfl, ⟨a, ns, i, r, c, hR⟩, m0, m1, q⟩ := h
    refine ⟨_, pss_cons (ps_if (pt_cmpR op_gt (pe_ix ix_list (pv 0) pe_int (fun _ _ => rfl)) pe_int (nomark _))
        (pss_cons (ps_set (i := 2) sc__law_taken.nd rfl (.inl rfl) (pe_op op_mod (pe_callTy call_int1 (by rfl) B.int (by decide +kernel) (pa_cons (pe_ix ix_list (pv 0) pe_int (fun _ _ => rfl)) pa_nil)) (pv 1)))
        (pss_cons (ps_asg (pe_op op_fdiv (pe_ix ix_list (pv 0) pe_int (fun _ _ => rfl)) (pv 1)) (pg_sub (pv 0) pe_int set_list))
        (pss_one (ps_ret (pv 2))))) pss_nil)
      (pss_cons (ps_asg (pe_op op_add (pe_ix ix_list (pv 0) pe_int (fun _ _ => rfl)) pe_int) (pg_sub (pv 0) pe_int set_list))
      (pss_cons (ps_if (pt_cmpR op_gt (pe_ix ix_list (pv 0) pe_int (fun _ _ => rfl)) (pe_callB (cl_len K) (by rfl) B.len PySem.boot_len (pa_cons (pe_ix ix_list (pv 0) pe_int (fun _ _ => rfl)) pa_nil)) (nomark _))
        (pss_cons (ps_asg (pe_op op_mod (pe_callTy call_int1 (by rfl) B.int (by decide +kernel) (pa_cons (pe_op op_add (pe_op op_mul (pe_ix ix_list (pv 0) pe_int (fun _ _ => rfl)) pe_int) pe_int) pa_nil)) pe_int) (pg_sub (pv 0) pe_int set_list))
        (pss_one (ps_ret (pe_op op_mod (pe_callTy call_int1 (by rfl) B.int (by decide +kernel) (pa_cons (pe_op op_fdiv (pe_ix ix_list (pv 0) pe_int (fun _ _ => rfl)) pe_int) pa_nil)) (pv 1))))) pss_nil)
      (pss_cons (ps_set (i := 3) sc__law_taken.nd rfl (.inl rfl) (pe_ix ix_list (pe_ix ix_list (pv 0) pe_int (fun _ _ => rfl)) (pe_op op_sub (pe_ix ix_list (pv 0) pe_int (fun _ _ => rfl)) pe_int) (fun _ _ => rfl)))
      (pss_cons (ps_asg (pe_op op_mod (pe_callTy call_int1 (by rfl) B.int (by decide +kernel) (pa_cons (pe_op op_add (pe_op op_add (pe_op op_mul (pe_ix ix_list (pv 0) pe_int (fun _ _ => rfl)) pe_int) (pv 3)) pe_int) pa_nil)) pe_int) (pg_sub (pv 0) pe_int set_list))
      (pss_cons (ps_if (pt_cmpR op_ge (pv 3) (pe_op op_pow pe_int pe_int) (nomark _))
        (pss_one (ps_asg (pe_op op_fdiv (pv 3) (pv 1)) (pg_sub (pv 0) pe_int set_list))) pss_nil)
      (pss_one (ps_ret (pe_op op_mod (pe_callTy call_int1 (by rfl) B.int (by decide +kernel) (pa_cons (pv 3) pa_nil)) (pv 1))))))))), ?_⟩
    have L := hR.at_
    refine ⟨_, rfl, p, _, 3, .int c, rfl, rfl, lstAt L, rfl, c, 0, rfl, rfl, _, rfl, ite2 (fun e => ?_) (fun e => ?_)⟩
    · refine ⟨_, rfl, p, _, 3, .int c, rfl, rfl, lstAt L, rfl, .inl ⟨c, rfl, _, rfl, c, m, rfl, rfl, m0, ?_⟩⟩
      refine ⟨_, rfl, p, _, 3, .int c, rfl, rfl, lstAt L, rfl, _, rfl, c, m, rfl, rfl, ⟨m0, by omega⟩, _, rfl, p, _, 3, 3, rfl, rfl, L, rfl, ?_⟩
      exact ⟨_, rfl, q (c % m) _ (Int.emod_nonneg _ (by omega)) (Int.emod_lt_of_pos _ m0) (But.upd (But.refl p H)) (hR.put hR.pos).row⟩
    · refine ⟨_, rfl, p, _, 1, .int i, rfl, rfl, lstAt L, rfl, i, 1, rfl, rfl, _, rfl, p, _, 1, 1, rfl, rfl, L, rfl, ?_⟩
      have R1 : RowA K (upd H p (.lst [.ref a, .int (i + 1), .int r, .int c])) p a ns (i + 1) r c := hR.put (by have := hR.pos; omega)
      have L1 := R1.at_
      refine ⟨_, rfl, p, _, 1, .int (i + 1), rfl, rfl, lstAt L1, rfl, _, rfl, p, _, 0, .ref a, rfl, rfl, lstAt L1, rfl, a, _, rfl, .inl R1.scr, _, _, rfl, rfl, _, rfl, ite2 (fun e1 => ?_) (fun e1 => ?_)⟩
      · refine ⟨_, rfl, p, _, 2, .int r, rfl, rfl, lstAt L1, rfl, r, 48271, rfl, rfl, .inr ⟨by decide, by decide⟩, _, 11, rfl, rfl, .inl ⟨_, rfl, _, _, rfl, rfl, (by show (0 : Int) < 2147483647; decide), _, rfl, p, _, 2, 2, rfl, rfl, L1, rfl, ?_⟩⟩
        have R2 : RowA K (upd (upd H p (.lst [.ref a, .int (i + 1), .int r, .int c])) p (.lst [.ref a, .int (i + 1), .int ((r * 48271 + 11) % 2147483647), .int c])) p a ns (i + 1) ((r * 48271 + 11) % 2147483647) c := R1.put R1.pos
        refine ⟨_, rfl, p, _, 2, _, rfl, rfl, lstAt R2.at_, rfl, _, 7, rfl, rfl, ⟨by decide, by decide⟩, .inl ⟨_, rfl, _, rfl, _, m, rfl, rfl, m0, ?_⟩⟩
        exact q _ _ (Int.emod_nonneg _ (by omega)) (Int.emod_lt_of_pos _ m0) (But.upd (But.upd (But.refl p H))) R2.row
      · have hi : i < (ns.length : Int) := by
          rw [List.length_map] at e1
          have e9 : i + 1 ≤ (ns.length : Int) := by simpa using e1
          omega
        have hi0 := hR.pos
        obtain ⟨z, hz⟩ : ∃ z, ns[i.toNat]? = some z := ⟨ns[i.toNat]'(by omega), List.getElem?_eq_getElem (by omega)⟩
        refine ⟨_, rfl, p, _, 0, .ref a, rfl, rfl, lstAt L1, rfl, _, rfl, p, _, 1, .int (i + 1), rfl, rfl, lstAt L1, rfl, _, 1, rfl, rfl, a, _, i + 1 - 1, .int z, rfl, rfl, R1.scr, at_int (by omega) (at_map (by rw [show (i + 1 - 1).toNat = i.toNat by omega]; exact hz)), ?_⟩
        refine ⟨_, rfl, p, _, 2, .int r, rfl, rfl, lstAt L1, rfl, r, 48271, rfl, rfl, .inr ⟨by decide, by decide⟩, _, rfl, _, z, rfl, rfl, _, 11, rfl, rfl, .inl ⟨_, rfl, _, _, rfl, rfl, (by show (0 : Int) < 2147483647; decide), _, rfl, p, _, 2, 2, rfl, rfl, L1, rfl, ?_⟩⟩
        have R2 : RowA K (upd (upd H p (.lst [.ref a, .int (i + 1), .int r, .int c])) p (.lst [.ref a, .int (i + 1), .int ((r * 48271 + z + 11) % 2147483647), .int c])) p a ns (i + 1) ((r * 48271 + z + 11) % 2147483647) c := R1.put R1.pos
        refine ⟨_, rfl, 10, 18, rfl, rfl, ⟨by decide, by decide, by decide⟩, z, _, rfl, rfl, _, rfl, ite2 (fun e2 => ?_) (fun e2 => ?_)⟩
        · refine ⟨_, rfl, _, rfl, z, m, rfl, rfl, ⟨m0, by omega⟩, _, rfl, p, _, 3, 3, rfl, rfl, R2.at_, rfl, ?_⟩
          refine ⟨_, rfl, .inl ⟨z, rfl, _, rfl, z, m, rfl, rfl, m0, ?_⟩⟩
          exact q _ _ (Int.emod_nonneg _ (by omega)) (Int.emod_lt_of_pos _ m0) (But.upd (But.upd (But.upd (But.refl p H)))) (R2.put R2.pos).row
        · refine ⟨_, rfl, .inl ⟨z, rfl, _, rfl, z, m, rfl, rfl, m0, ?_⟩⟩
          exact q _ _ (Int.emod_nonneg _ (by omega)) (Int.emod_lt_of_pos _ m0) (But.upd (But.upd (But.refl p H))) R2.row
end
end RH
set_option Elab.async false
set_option linter.all false
set_option maxRecDepth 100000
set_option maxHeartbeats 2000000
namespace RH
open PySem PySem.Spec PyProof.Rows L2
theorem ix_nat {n : Nat} {k : Int} (h0 : 0 ≤ k) (h1 : k < n) : seqIndex? k n = some k.toNat := by
  unfold seqIndex?
  have e : (if k < 0 then k + (n : Int) else k) = k := if_neg (by omega)
  simp only [e]
  rw [if_pos]
  simp [h0, h1]
theorem But.fresh {p l : Addr} {H H1 : Hp} {o : HO} (a : But p H H1) (e : H l = none) : But p H (L2.upd H1 l o) := fun c u h n => by
  rw [upd_ne (ne_of_none h e)]
  exact a c u h n
theorem map_erase (ns : List Int) (k : Nat) : (ns.map V.int).eraseIdx k = (ns.eraseIdx k).map V.int := by
  induction ns generalizing k with
  | nil => rfl
  | cons n ns ih =>
    cases k with
    | zero => rfl
    | succ k =>
      show V.int n :: (ns.map V.int).eraseIdx k = V.int n :: (ns.eraseIdx k).map V.int
      rw [ih]
theorem perm_erase : ∀ {ls : List Int} {k : Nat} {y : Int}, ls[k]? = some y → ls.Perm (y :: ls.eraseIdx k)
  | [], k, y, h => by simp at h
  | a :: ls, 0, y, h => by
    have e : a = y := Option.some.inj h
    subst e
    exact List.Perm.refl _
  | a :: ls, k + 1, y, h => by
    have ih := perm_erase (ls := ls) (k := k) (y := y) h
    exact (ih.cons a).trans (List.Perm.swap ..)
section
variable {P : Program} {w : World} {K : PySem.W.Frag} {mg : Str → Option Value} {base : Heap}
def spPick (K : PySem.W.Frag) : Sp := fun vs H Q _ => ∃ (p l : Addr) (xs : List V), vs = [.ref p, .ref l] ∧ Row K H p ∧ H l = some (.lst xs) ∧ l ≠ p ∧ 0 < xs.length ∧ xs.length ≤ 1000 ∧
  ∀ (i : Nat) x H', xs[i]? = some x → But p H H' → Row K H' p → Q x H'
theorem ok_pick (F : Df K mg "_law_pick" st__law_pick ["row", "things"]) (B : Bu mg) (CT : Cal P w K mg base 1 "_law_taken" (spTaken K)) : Cal P w K mg base 2 "_law_pick" (spPick K) := by
  refine mkCal F sc__law_pick (fun vs H Q E h => ?_) (fun f cdv A outer s H vs Q E hr h => ?_)
  · obtain ⟨p, l, xs, rfl, _⟩ := h
    rfl
  · obtain ⟨p, l, xs, rfl, hR, hl, hlp, l0, l1, q⟩ := h
    refine ⟨_, pss_one (ps_ret (pe_ix ix_list (pv 1) (pc CT hr (pa_cons (pv 0) (pa_cons (pe_callB (cl_len K) (by rfl) B.len PySem.boot_len (pa_cons (pv 1) pa_nil)) pa_nil))) (fun _ _ => rfl))), ?_⟩
    refine ⟨_, rfl, _, rfl, _, rfl, l, xs, rfl, .inl (lstAt hl), p, xs.length, rfl, hR, by omega, by omega, fun k H' k0 k1 hB hR' => ?_⟩
    have hk : k.toNat < xs.length := by omega
    exact ⟨l, xs, k, _, rfl, rfl, lstAt (hB _ _ hl hlp), at_int k0 (List.getElem?_eq_getElem hk), q _ _ H' (List.getElem?_eq_getElem hk) hB hR'⟩
def spOrder (K : PySem.W.Frag) : Sp := fun vs H Q _ => ∃ (p : Addr) (n : Nat), vs = [.ref p, .int n] ∧ Row K H p ∧ n ≤ 1000 ∧ ∀ (H' : Hp) (q : Addr) (ns : List Int), ns.Perm (rg n) → But p H H' → Row K H' p → H q = none → FT H' q ns → Q (.ref q) H'
theorem ok_order (F : Df K mg "_law_order" st__law_order ["row", "many"]) (B : Bu mg) (CT : Cal P w K mg base 1 "_law_taken" (spTaken K)) : Cal P w K mg base 2 "_law_order" (spOrder K) := by
  refine mkCal F sc__law_order (fun vs H Q E h => ?_) (fun f cdv A outer s H vs Q E hr h => ?_)
  · obtain ⟨p, n, rfl, _⟩ := h
    rfl
  · obtain ⟨p, n, rfl, hR, hn, q⟩ := h
    refine ⟨_, pss_cons (ps_par (i := 2) (j := 3) rfl sc__law_order.nd rfl rfl (by decide) rfl rfl (pa_cons (pe_listRg rfl (by rfl) B.list (prg_1 (by rfl) B.range (pv 1))) (pa_cons (pe_lst pa_nil) pa_nil)) rfl)
      (pss_cons (ps_while PassesOwn.never (pt_cmpR (op_neD hr.units) (pv 2) (pe_lst pa_nil) (nomark _))
        (pss_one (ps_expr (pe_bm PySem.F.plainAttrs_list PySem.F.slot_list_append PySem.F.type_list_append mt_append (pv 3) (pa_cons (pe_bm PySem.F.plainAttrs_list PySem.F.slot_list_pop PySem.F.type_list_pop mt_popAt (pv 2)
          (pa_cons (pc CT hr (pa_cons (pv 0) (pa_cons (pe_callB (cl_len K) (by rfl) B.len PySem.boot_len (pa_cons (pv 2) pa_nil)) pa_nil))) pa_nil)) pa_nil)))))
      (pss_one (ps_ret (pe_tupleF (by rfl) B.tuple (pv 3))))), ?_⟩
    refine ⟨_, rfl, n, rfl, ⟨by omega, by omega, by omega, by omega, by omega⟩, fun l hl => ⟨Nat.zero_le _, fun g hg => ⟨_, _, rfl, ?_⟩⟩⟩
    have hlg : l ≠ g := ne_of_none upd_same hg
    have hgH : H g = none := by
      rw [upd_ne (Ne.symm hlg)] at hg
      exact hg
    have hpl : p ≠ l := hR.ne hl
    have hpg : p ≠ g := hR.ne hgH
    refine ⟨fun m σ H' => ∃ ls fs : List Int, m = ls.length ∧ σ = [some (.ref p), some (.int n), some (.ref l), some (.ref g)] ∧ But p H H' ∧ Row K H' p ∧ H' l = some (.lst (ls.map V.int)) ∧ H' g = some (.lst (fs.map V.int)) ∧ (fs ++ ls).Perm (rg n),
      ⟨(rg n).length, rg n, [], rfl, rfl, But.same (Same.trans (same_new hl) (same_new hg)), (hR.new hl).new hg, ?_, upd_same, List.Perm.refl _⟩, ?_⟩
    · rw [upd_ne hlg, upd_same, rgV_rg]
    rintro m σ H1 ⟨ls, fs, rfl, rfl, hB, hR1, e1, e2, hpm⟩
    refine ⟨_, rfl, Nat.zero_le _, fun z hz => ?_⟩
    have sz : Same H1 (upd H1 z (.lst [])) := same_new hz
    refine ⟨_, _, dp_lst (ns := ls) (lstAt (sz _ _ e1)), dp_lst (ns := []) (lstAt upd_same), PySem.W.ke_shaped_ints _, PySem.W.ke_shaped_ints _, _, rfl, ?_⟩
    rw [eqv_lst]
    have len1 : fs.length + ls.length = n := by
      have := hpm.length_eq
      rw [List.length_append, rg_len] at this
      exact this
    cases ls with
    | nil =>
      refine ifF rfl ⟨_, rfl, g, _, rfl, lstAt (sz _ _ e2), fun t ob ht hob => ?_⟩
      rw [List.append_nil] at hpm
      have st : Same H1 (upd (upd H1 z (.lst [])) t (.frz ob (.tup (fs.map V.int)))) := sz.trans (same_new ht)
      refine q _ t fs hpm (hB.trans (But.same st)) (hR1.same st) ?_ ⟨ob, upd_same, hob⟩
      cases e : H t with
      | none => rfl
      | some o =>
        exfalso
        by_cases zp : t = p
        · obtain ⟨xs, ep⟩ := hR1.lst
          rw [zp, sz _ _ ep] at ht
          cases ht
        · rw [sz _ _ (hB _ _ e zp)] at ht
          cases ht
    | cons y ls =>
      have hRz : Row K (upd H1 z (.lst [])) p := hR1.same sz
      have e1z := sz _ _ e1
      have e2z := sz _ _ e2
      refine ifT rfl ⟨fun σ' H' => ∃ m', m' < (y :: ls).length ∧ ∃ ls fs : List Int, m' = ls.length ∧ σ' = [some (.ref p), some (.int n), some (.ref l), some (.ref g)] ∧ But p H H' ∧ Row K H' p ∧ H' l = some (.lst (ls.map V.int)) ∧ H' g = some (.lst (fs.map V.int)) ∧ (fs ++ ls).Perm (rg n), fun _ _ h => h, ?_⟩
      refine ⟨_, rfl, .inl ⟨rfl, _, lstAt e2z⟩, _, rfl, .inl ⟨rfl, _, lstAt e1z⟩, _, rfl, _, rfl, l, _, rfl, .inl (lstAt e1z), p, _, rfl, hRz, ?_, ?_, fun k H3 k0 k1 hB3 hR3 => ?_⟩
      · rw [List.length_map, List.length_cons]
        omega
      · rw [List.length_map]
        omega
      rw [List.length_map] at k1
      have e1' := hB3 _ _ e1z (Ne.symm hpl)
      have e2' := hB3 _ _ e2z (Ne.symm hpg)
      have hk : k.toNat < (y :: ls).length := by omega
      obtain ⟨v, hv⟩ : ∃ v, (y :: ls)[k.toNat]? = some v := ⟨_, List.getElem?_eq_getElem hk⟩
      have e2u : (upd H3 l (.lst (((y :: ls).map V.int).eraseIdx k.toNat))) g = some (.lst (fs.map V.int)) := by
        rw [upd_ne (Ne.symm hlg)]
        exact e2'
      refine ⟨l, _, k, k.toNat, .int v, rfl, rfl, e1', by omega, by omega, ?_, at_map hv, g, _, .int v, rfl, rfl, e2u, ?_, ?_⟩
      · rw [List.length_map]
        exact ix_nat k0 k1
      · rw [List.length_map]
        exact small1000 (by have := List.length_cons (a := y) (as := ls); omega)
      · refine ⟨((y :: ls).eraseIdx k.toNat).length, ?_, (y :: ls).eraseIdx k.toNat, fs ++ [v], rfl, rfl, ?_, ?_, ?_, ?_, ?_⟩
        · rw [List.length_eraseIdx_of_lt hk]
          omega
        · exact (((hB.trans (But.same sz)).trans hB3).fresh hl).fresh hgH
        · exact (hR3.lst_upd e1' hpl).lst_upd e2u hpg
        · rw [upd_ne hlg, upd_same, map_erase]
        · rw [upd_same, List.map_append]
          rfl
        · have hp2 := perm_erase hv
          refine List.Perm.trans ?_ hpm
          rw [List.append_assoc]
          exact List.Perm.append_left fs hp2.symm
end
end RH
set_option Elab.async false
set_option linter.all false
set_option maxRecDepth 100000
set_option maxHeartbeats 2000000
namespace RH
open PySem PySem.Spec PyProof.Rows L2
/-! ### _law_alike of equal data -/
theorem Dp.on {K : PySem.W.Frag} {H H' : Hp} (s : Same H H') : ∀ (d : PyData) (v : V), Dp K H v d → Dp K H' v d
  | d, v, h => by
    refine Dp.rec (motive_1 := fun v d _ => Dp K H' v d) (motive_2 := fun vs ds _ => DpAll K H' vs ds) .non .bl .int .str ?_ ?_ .nil ?_ h
    · intro a xs ds h1 _ h2
      exact .lst (s.seq h1) h2
    · intro a xs ds h1 _ h2
      exact .tup (onT s h1) h2
    · intro v vs d ds _ _ h1 h2
      exact .cons h1 h2
theorem DpAll.len {K : PySem.W.Frag} {H : Hp} : ∀ {vs : List V} {ds : List PyData}, DpAll K H vs ds → vs.length = ds.length
  | _, _, .nil => rfl
  | _, _, .cons _ t => congrArg (· + 1) (DpAll.len t)
theorem DpAll.of {K : PySem.W.Frag} {H : Hp} : ∀ {vs : List V} {ds : List PyData} {i : Nat} {d : PyData}, DpAll K H vs ds → ds[i]? = some d → ∃ v, vs[i]? = some v ∧ Dp K H v d
  | _, _, _, _, .nil, e => by simp at e
  | _, _, 0, _, .cons h _, e => by
    have e' := Option.some.inj e
    subst e'
    exact ⟨_, rfl, h⟩
  | _, _, i + 1, _, .cons _ t, e => DpAll.of (i := i) t e
theorem ty_lst {K : PySem.W.Frag} {H : Hp} {a : Addr} {xs : List V} (h : SqL K H a xs) : TyX K H (.ref a) (.type "list") := by
  rcases h with (h | ⟨o, h⟩) | ⟨o, vz, n, h, c, _⟩
  · exact .base (.lst h)
  · exact .base (.frz h)
  · exact .kList h c
end RH
set_option Elab.async false
set_option linter.all false
set_option maxRecDepth 100000
set_option maxHeartbeats 2000000
namespace RH
open PySem PySem.Spec PyProof.Rows L2
theorem ixN_int {n : Nat} {k : Int} (h0 : 0 ≤ k) (h1 : k < n) : ixN n k = some k.toNat := by
  unfold ixN
  rw [if_pos h0, if_pos h1]
def tF (n pl : Nat) : List Int := (List.range n).map fun s : Nat => ((s : Int) + (pl : Int)) % (n : Int)
def mF (n pl : Nat) : List Int := (List.range n).map fun s : Nat => (s : Int) + (if decide ((s : Int) < (pl : Int)) = true then 1 else 0)
def fF (n pl : Nat) : List Int := (mF n pl).take pl ++ [0] ++ (mF n pl).drop (pl + 1)
def sF (n pl : Nat) : List Int := ((rg n).set pl ((pl - 1 : Nat) : Int)).set (pl - 1) (pl : Int)
theorem perm_all : ∀ n, n < 6 → ∀ pl, pl < n → (tF n pl).isPerm (rg n) = true ∧ (fF n pl).isPerm (rg n) = true ∧ (sF n pl).isPerm (rg n) = true := by decide +kernel
theorem mF_len (n pl : Nat) : (mF n pl).length = n := by
  unfold mF
  rw [List.length_map, List.length_range]
theorem range_more {f : Nat → Int} (i : Nat) : ((List.range (i + 1)).map f).map V.int = ((List.range i).map f).map V.int ++ [V.int (f i)] := by
  rw [List.range_succ, List.map_append, List.map_append]
  rfl
/-- the permutations found so far -/
def HI (K : PySem.W.Frag) (p g : Addr) (H : Hp) (n i : Nat) (H' : Hp) : Prop := ∃ (xs : List V) (hs : List (List Int)), But p H H' ∧ Row K H' p ∧ H' g = some (.lst xs) ∧ Each (TI K H') xs hs ∧ hs.length = i ∧ ∀ ns ∈ hs, ns.Perm (rg n)
theorem HI.step {K : PySem.W.Frag} {p g : Addr} {H H1 H5 : Hp} {n i : Nat} (h : HI K p g H n i H1) (hg : H g = none) (hpg : p ≠ g) (b : But p H1 H5) (r : Row K H5 p) :
    ∃ xs, H5 g = some (.lst xs) ∧ xs.length = i ∧ ∀ (q : Addr) (ns : List Int) (H6 : Hp), Same H5 H6 → SqT K H6 q (ns.map V.int) → ns.Perm (rg n) → HI K p g H n (i + 1) (upd H6 g (.lst (xs ++ [.ref q]))) := by
  obtain ⟨xs, hs, hB, hR, e, hE, hl, hp⟩ := h
  have e5 := b _ _ e (Ne.symm hpg)
  refine ⟨xs, e5, hE.len.trans hl, fun q ns H6 s6 hq hpm => ⟨xs ++ [.ref q], hs ++ [ns], ?_, ?_, upd_same, ?_, ?_, ?_⟩⟩
  · exact ((hB.trans b).trans (But.same s6)).fresh hg
  · exact (r.same s6).lst_upd (s6 _ _ e5) hpg
  · have f1 : Fix H1 (upd H6 g (.lst (xs ++ [.ref q]))) := (hR.fix b).trans ((Fix.same s6).trans (Fix.lst (s6 _ _ e5)))
    exact Each.snoc ⟨q, rfl, Fix.tups (Fix.lst (s6 _ _ e5)) _ _ hq⟩ (hE.imp fun _ _ z => z.on f1.tups)
  · rw [List.length_append, hl]
    rfl
  · intro ns' hm
    rcases List.mem_append.mp hm with h1 | h1
    · exact hp _ h1
    · rw [List.mem_singleton.mp h1]
      exact hpm
section
variable {P : Program} {w : World} {K : PySem.W.Frag} {mg : Str → Option Value} {base : Heap}
def spHabit (K : PySem.W.Frag) : Sp := fun vs H Q _ => ∃ (p : Addr) (n : Nat), vs = [.ref p, .int n] ∧ Row K H p ∧ 2 ≤ n ∧ n ≤ 5 ∧ ∀ (H' : Hp) (v : V) (h : List (List Int)), Hb n h → But p H H' → Row K H' p → TII K H' v h → Q v H'
theorem ok_habit (F : Df K mg "_law_habit" st__law_habit ["row", "places"]) (B : Bu mg) (CT : Cal P w K mg base 1 "_law_taken" (spTaken K)) (CO : Cal P w K mg base 2 "_law_order" (spOrder K)) : Cal P w K mg base 3 "_law_habit" (spHabit K) := by
  refine mkCal F sc__law_habit (fun vs H Q E h => ?_) (fun f cdv A outer s H vs Q E hr h => ?_)
  · obtain ⟨p, n, rfl, _⟩ := h
    rfl
  · obtain ⟨p, n, rfl, hR, n2, n5, q⟩ := h
    refine ⟨_, pss_cons (ps_par (i := 2) (j := 3) rfl sc__law_habit.nd rfl rfl (by decide) rfl rfl (pa_cons (pc CT hr (pa_cons (pv 0) (pa_cons pe_int pa_nil))) (pa_cons (pe_lst pa_nil) pa_nil)) rfl)
      (pss_cons (ps_for PassesOwn.never rfl (pi_range1 (by rfl) B.range (pa_cons (pv 1) pa_nil)) (pg_name (i := 4) sc__law_habit.nd rfl (Or.inr rfl))
        (pss_one (ps_if (pt_cmpR op_eq (pv 2) pe_int (nomark _))
          (pss_one (ps_expr (pe_bm PySem.F.plainAttrs_list PySem.F.slot_list_append PySem.F.type_list_append mt_append (pv 3) (pa_cons (pe_tupleOf (by rfl) B.tuple (pe_lc (own := [("spot", 7)]) (g := gName 7) (tt := tYes) rfl sc__law_habit.nd
            (pi_range1 (by rfl) B.range (pa_cons (pv 1) pa_nil)) (blkOk_by (N := ["row", "places", "way", "found", "place", "moved", "other", "spot"]) (sc := defScope st__law_habit) (by decide +kernel)) (fun _ _ _ _ _ => pg_name (i := 7) sc__law_habit.nd rfl (Or.inl rfl))
            (fun _ _ _ _ _ => pts_nil) (fun _ _ _ _ _ => pe_op op_mod (pe_op op_add (pv 7) (pv 4)) (pv 1)))) pa_nil))))
        (pss_one (ps_if (pt_cmpR op_eq (pv 2) pe_int (nomark _))
          (pss_cons (ps_setLc (i := 5) (own := [("spot", 7)]) (g := gName 7) (tt := tYes) rfl sc__law_habit.nd rfl rfl (sw_true rfl rfl rfl (by decide +kernel)) (pi_range1 (by rfl) B.range (pa_cons (pv 1) pa_nil))
            (blkOk_by (N := ["row", "places", "way", "found", "place", "moved", "other", "spot"]) (sc := defScope st__law_habit) (by decide +kernel)) (fun _ _ _ _ _ => pg_name (i := 7) sc__law_habit.nd rfl (Or.inl rfl))
            (fun _ _ _ _ _ => pts_nil) (fun _ _ _ _ _ => pe_op op_add (pv 7) (pe_callTy call_int1 (by rfl) B.int (by decide +kernel) (pa_cons (pe_cmpR op_lt (pv 7) (pv 4) (nomark _)) pa_nil))))
          (pss_one (ps_expr (pe_bm PySem.F.plainAttrs_list PySem.F.slot_list_append PySem.F.type_list_append mt_append (pv 3) (pa_cons (pe_tupleOf (by rfl) B.tuple (pe_op op_cat (pe_op op_cat (pe_slice sl_list (pv 5) po_none (po_some (pv 4))) (pe_lst (pa_cons pe_int pa_nil)))
            (pe_slice sl_list (pv 5) (po_some (pe_op op_add (pv 4) pe_int)) po_none))) pa_nil)))))
        (pss_one (ps_if (pt_cmpR op_eq (pv 2) pe_int (nomark _))
          (pss_cons (ps_set (i := 6) sc__law_habit.nd rfl (.inl rfl) (pe_callB (call_max2 rfl) (by rfl) B.max (by decide +kernel) (pa_cons pe_int (pa_cons (pe_op op_sub (pv 4) pe_int) pa_nil))))
          (pss_cons (ps_set (i := 5) sc__law_habit.nd rfl (.inl rfl) (pe_listRg rfl (by rfl) B.list (prg_1 (by rfl) B.range (pv 1))))
          (pss_cons (ps_asg (pe_tup (pa_cons (pv 6) (pa_cons (pv 4) pa_nil))) (pg_tup rfl (pgs_cons (pg_sub (pv 5) (pv 4) set_list) (pgs_cons (pg_sub (pv 5) (pv 6) set_list) pgs_nil))))
          (pss_one (ps_expr (pe_bm PySem.F.plainAttrs_list PySem.F.slot_list_append PySem.F.type_list_append mt_append (pv 3) (pa_cons (pe_tupleOf (by rfl) B.tuple (pv 5)) pa_nil)))))))
        (pss_one (ps_if (PW.pt (pw_and (pt_cmpR op_eq (pv 2) pe_int (nomark _)) (pw_and1 (pt_cmpR op_eq (pc CT hr (pa_cons (pv 0) (pa_cons pe_int pa_nil))) pe_int (nomark _)))))
          (pss_one (ps_expr (pe_bm PySem.F.plainAttrs_list PySem.F.slot_list_append PySem.F.type_list_append mt_append (pv 3) (pa_cons (pe_tupRg rfl (by rfl) B.tuple (prg_1 (by rfl) B.range (pv 1))) pa_nil))))
          (pss_one (ps_expr (pe_bm PySem.F.plainAttrs_list PySem.F.slot_list_append PySem.F.type_list_append mt_append (pv 3) (pa_cons (pc CO hr (pa_cons (pv 0) (pa_cons (pv 1) pa_nil))) pa_nil))))))))))))) 
      (pss_one (ps_ret (pe_tupleOf (by rfl) B.tuple (pv 3))))), ?_⟩
    refine ⟨_, rfl, p, 5, rfl, hR, by decide, by decide, fun wy H0 w0 w1 hB0 hR0 => ⟨Nat.zero_le _, fun g hg0 => ⟨_, _, rfl, ?_⟩⟩⟩
    have hpg : p ≠ g := hR0.ne hg0
    have hg : H g = none := by
      cases e : H g with
      | none => rfl
      | some o =>
        rw [hB0 _ _ e (Ne.symm hpg)] at hg0
        cases hg0
    refine ⟨_, rfl, n, rfl, by omega, by omega, ?_⟩
    rw [Int.toNat_natCast]
    refine for_range (lo := 0) (n := n) (fun i σ H' => HI K p g H n i H' ∧ ∃ y4 y5 y6 y7, σ = [some (.ref p), some (.int n), some (.int wy), some (.ref g), y4, y5, y6, y7])
      ⟨⟨[], [], hB0.fresh hg, hR0.new hg0, upd_same, .nil, rfl, fun _ hm => absurd hm (List.not_mem_nil)⟩, none, none, none, none, rfl⟩ (fun i σ H1 hi h' => ?_) (fun σ H' h' => ?_)
    · obtain ⟨hI, y4, y5, y6, y7, rfl⟩ := h'
      obtain ⟨pT, pF, pS⟩ := perm_all n (by omega) i hi
      have hR1 : Row K H1 p := hI.choose_spec.choose_spec.2.1
      rw [Int.zero_add]
      refine ⟨_, rfl, rfl, _, rfl, ite2 (fun _ => ?_) (fun _ => ?_)⟩
      · -- turned round
        obtain ⟨xs, e1, xl, st⟩ := hI.step hg hpg (But.refl p H1) hR1
        refine ⟨_, rfl, .inl ⟨rfl, _, lstAt e1⟩, _, rfl, n, rfl, by omega, by omega, fun D hD => ?_⟩
        rw [Int.toNat_natCast]
        refine lc_range (lo := 0) (n := n) (fun j H' => Same H1 H' ∧ H' D = some (.lst (((List.range j).map fun s : Nat => ((s : Int) + (i : Int)) % (n : Int)).map V.int))) ⟨same_new hD, upd_same⟩ (fun j H' hj h' => ?_) (fun H' h' => ?_)
        · obtain ⟨sm, eD⟩ := h'
          refine ⟨rfl, _, rfl, _, rfl, _, _, rfl, rfl, _, rfl, _, n, rfl, rfl, by omega, _, eD, ?_, ?_, ?_⟩
          · rw [List.length_map, List.length_map, List.length_range]
            exact small1000 (by omega)
          · intro b o e
            rw [upd_ne (ne_of_none e hD)]
            exact sm b o e
          · rw [upd_same, range_more, Int.zero_add]
        · obtain ⟨sm, eD⟩ := h'
          refine .inl ⟨D, _, rfl, lstAt eD, fun t ht => ?_⟩
          have sT := sm.trans (same_new (o := .tup ((tF n i).map V.int)) ht)
          refine ⟨g, xs, .ref t, rfl, rfl, sT _ _ e1, small1000 (by omega), st t (tF n i) _ sT (tupAt upd_same) (List.isPerm_iff.mp pT), _, _, _, _, rfl⟩
      · refine ⟨_, rfl, rfl, _, rfl, ite2 (fun _ => ?_) (fun _ => ?_)⟩
        · -- to the front
          refine ⟨_, rfl, n, rfl, by omega, by omega, fun D hD => ?_⟩
          rw [Int.toNat_natCast]
          refine lc_range (lo := 0) (n := n) (fun j H' => Same H1 H' ∧ H' D = some (.lst (((List.range j).map fun s : Nat => (s : Int) + (if decide ((s : Int) < (i : Int)) = true then 1 else 0)).map V.int))) ⟨same_new hD, upd_same⟩ (fun j H' hj h' => ?_) (fun H' h' => ?_)
          · obtain ⟨sm, eD⟩ := h'
            refine ⟨rfl, _, rfl, _, rfl, _, rfl, _, _, rfl, rfl, .inr ⟨_, rfl, _, _, rfl, rfl, _, eD, ?_, ?_, ?_⟩⟩
            · rw [List.length_map, List.length_map, List.length_range]
              exact small1000 (by omega)
            · intro b o e
              rw [upd_ne (ne_of_none e hD)]
              exact sm b o e
            · rw [upd_same, range_more, Int.zero_add]
          · obtain ⟨sm, eD⟩ := h'
            have hR2 := hR1.same sm
            obtain ⟨xs, e1, xl, st⟩ := hI.step hg hpg (But.same sm) hR2
            have hDl : ((List.range n).map fun s : Nat => (s : Int) + (if decide ((s : Int) < (i : Int)) = true then 1 else 0)) = mF n i := rfl
            rw [hDl] at eD
            refine ⟨_, rfl, .inl ⟨rfl, _, lstAt e1⟩, _, rfl, _, rfl, (i : Int), rfl, D, _, rfl, lstAt eD, fun a1 ha1 => ⟨by show 1 ≤ sizeLine; decide, fun a2 ha2 => ?_⟩⟩
            rw [cut_to] at *
            have q1 := same_new (o := .lst (((mF n i).map V.int).take i)) ha1
            have q2 := same_new (o := .lst [.int 0]) ha2
            refine ⟨a1, a2, ((mF n i).map V.int).take i, [.int 0], rfl, rfl, q2 _ _ upd_same, upd_same, ?_, fun a3 ha3 => ?_⟩
            · rw [List.length_take, List.length_map, mF_len]
              exact Nat.le_of_lt (small1000 (by show min i n + 1 ≤ 1000; omega))
            have q3 := same_new (o := .lst (((mF n i).map V.int).take i ++ [.int 0])) ha3
            refine ⟨_, rfl, _, rfl, (i : Int), 1, rfl, rfl, (i : Int) + 1, rfl, D, _, rfl, lstAt (q3 _ _ (q2 _ _ (q1 _ _ eD))), fun a4 ha4 => ?_⟩
            have q4 := same_new (o := .lst (cutV ((mF n i).map V.int) (some ((i : Int) + 1)) none)) ha4
            have ec : cutV ((mF n i).map V.int) (some ((i : Int) + 1)) none = ((mF n i).map V.int).drop (i + 1) := cut_from _ (i + 1)
            refine ⟨a3, a4, _, _, rfl, rfl, q4 _ _ upd_same, upd_same, ?_, fun a5 ha5 => ?_⟩
            · rw [ec, List.length_append, List.length_take, List.length_drop, List.length_map, mF_len]
              exact Nat.le_of_lt (small1000 (by show min i n + 1 + (n - (i + 1)) ≤ 1000; omega))
            have q5 := same_new (o := .lst ((((mF n i).map V.int).take i ++ [.int 0]) ++ cutV ((mF n i).map V.int) (some ((i : Int) + 1)) none)) ha5
            refine .inl ⟨a5, _, rfl, lstAt upd_same, fun t ht => ?_⟩
            have q6 := same_new (o := .tup ((((mF n i).map V.int).take i ++ [.int 0]) ++ cutV ((mF n i).map V.int) (some ((i : Int) + 1)) none)) ht
            have qq := q1.trans (q2.trans (q3.trans (q4.trans (q5.trans q6))))
            have et : ((((mF n i).map V.int).take i ++ [.int 0]) ++ cutV ((mF n i).map V.int) (some ((i : Int) + 1)) none) = (fF n i).map V.int := by
              rw [ec]
              unfold fF
              rw [List.map_append, List.map_append, List.map_take, List.map_drop]
              rfl
            exact ⟨g, xs, .ref t, rfl, rfl, qq _ _ e1, small1000 (by omega), st t (fF n i) _ qq (tupAt (by rw [upd_same, et])) (List.isPerm_iff.mp pF), _, _, _, _, rfl⟩
        · refine ⟨_, rfl, rfl, _, rfl, ite2 (fun _ => ?_) (fun _ => ?_)⟩
          · -- neighbours
            refine ⟨_, rfl, (i : Int), 1, rfl, rfl, 0, (i : Int) - 1, rfl, ?_⟩
            have eo : (if (i : Int) - 1 > 0 then (i : Int) - 1 else 0) = ((i - 1 : Nat) : Int) := by
              split <;> omega
            rw [eo]
            refine ⟨_, rfl, n, rfl, ⟨by omega, by omega, by omega, by omega, by omega⟩, fun m hm => ?_⟩
            rw [rgV_rg] at *
            have hpm : p ≠ m := hR1.ne hm
            have s1 := same_new (o := .lst ((rg n).map V.int)) hm
            refine ⟨_, rfl, _, rfl, by show 2 ≤ sizeLine; decide, fun t ht => ?_⟩
            have s2 := same_new (o := .tup [.int ((i - 1 : Nat) : Int), .int (i : Int)]) ht
            have em := s2 _ _ (upd_same (H := H1) (a := m) (o := .lst ((rg n).map V.int)))
            have ll : ((rg n).map V.int).length = n := by rw [List.length_map, rg_len]
            refine ⟨t, _, rfl, tupAt upd_same, rfl, _, _, rfl, _, rfl, _, rfl, m, _, (i : Int), i, rfl, rfl, em, ?_, ?_⟩
            · have := ixN_int (n := ((rg n).map V.int).length) (k := (i : Int)) (by omega) (by omega)
              exact this
            refine ⟨_, _, rfl, _, rfl, _, rfl, m, _, ((i - 1 : Nat) : Int), i - 1, rfl, rfl, upd_same, ?_, rfl, ?_⟩
            · have := ixN_int (n := (((rg n).map V.int).set i (.int ((i - 1 : Nat) : Int))).length) (k := ((i - 1 : Nat) : Int)) (by omega) (by rw [List.length_set]; omega)
              exact this
            have et : (((rg n).map V.int).set i (.int ((i - 1 : Nat) : Int))).set (i - 1) (.int (i : Int)) = (sF n i).map V.int := by
              unfold sF
              rw [List.map_set, List.map_set]
            rw [et]
            have hR5 := ((hR1.same (s1.trans s2)).lst_upd (o := .lst (((rg n).map V.int).set i (.int ((i - 1 : Nat) : Int)))) em hpm).lst_upd (o := .lst ((sF n i).map V.int)) upd_same hpm
            obtain ⟨xs, e1, xl, st⟩ := hI.step hg hpg (((But.same (s1.trans s2)).fresh (o := .lst (((rg n).map V.int).set i (.int ((i - 1 : Nat) : Int)))) hm).fresh (o := .lst ((sF n i).map V.int)) hm) hR5
            refine ⟨_, rfl, .inl ⟨rfl, _, lstAt e1⟩, _, rfl, .inl ⟨m, _, rfl, lstAt upd_same, fun t2 ht2 => ?_⟩⟩
            have s6 := same_new (o := .tup ((sF n i).map V.int)) ht2
            exact ⟨g, xs, .ref t2, rfl, rfl, s6 _ _ e1, small1000 (by omega), st t2 (sF n i) _ s6 (tupAt upd_same) (List.isPerm_iff.mp pS), _, _, _, _, rfl⟩
          · have any : ∀ H3, But p H1 H3 → Row K H3 p → ∃ xs, H3 g = some (.lst xs) ∧ xs.length = i ∧ ∀ (q : Addr) (ns : List Int) (H6 : Hp), Same H3 H6 → SqT K H6 q (ns.map V.int) → ns.Perm (rg n) → HI K p g H n (i + 1) (upd H6 g (.lst (xs ++ [.ref q]))) := fun H3 b3 r3 => hI.step hg hpg b3 r3
            refine ⟨_, rfl, rfl, _, rfl, ite2 (fun _ => ?_) (fun _ => ?_)⟩
            · refine ⟨_, rfl, p, 2, rfl, hR1, by decide, by decide, fun k H3 k0 k1 hB3 hR3 => ⟨rfl, _, rfl, ite2 (fun _ => ?_) (fun _ => ?_)⟩⟩
              · obtain ⟨xs, e1, xl, st⟩ := any H3 hB3 hR3
                refine ⟨_, rfl, .inl ⟨rfl, _, lstAt e1⟩, _, rfl, n, rfl, ⟨by omega, by omega, by omega, by omega, by omega⟩, fun t ht => ?_⟩
                rw [rgV_rg] at *
                have s6 := same_new (o := .tup ((rg n).map V.int)) ht
                exact ⟨g, xs, .ref t, rfl, rfl, s6 _ _ e1, small1000 (by omega), st t (rg n) _ s6 (tupAt upd_same) (List.Perm.refl _), _, _, _, _, rfl⟩
              · obtain ⟨xs, e1, xl, st⟩ := any H3 hB3 hR3
                refine ⟨_, rfl, .inl ⟨rfl, _, lstAt e1⟩, _, rfl, _, rfl, p, n, rfl, hR3, by omega, fun H4 t ns pm b4 r4 _ e4 => ?_⟩
                obtain ⟨xs', e1', xl', st'⟩ := any H4 (hB3.trans b4) r4
                exact ⟨g, xs', .ref t, rfl, rfl, e1', small1000 (by omega), st' t ns _ (Same.refl H4) (.inl (FT.kx e4)) pm, _, _, _, _, rfl⟩
            · obtain ⟨xs, e1, xl, st⟩ := any H1 (But.refl p H1) hR1
              refine iteF ⟨_, rfl, .inl ⟨rfl, _, lstAt e1⟩, _, rfl, _, rfl, p, n, rfl, hR1, by omega, fun H4 t ns pm b4 r4 _ e4 => ?_⟩
              obtain ⟨xs', e1', xl', st'⟩ := any H4 b4 r4
              exact ⟨g, xs', .ref t, rfl, rfl, e1', small1000 (by omega), st' t ns _ (Same.refl H4) (.inl (FT.kx e4)) pm, _, _, _, _, rfl⟩
    · obtain ⟨⟨xs, hs, hB, hR', e, hE, hl, hp⟩, y4, y5, y6, y7, rfl⟩ := h'
      refine ⟨_, rfl, .inl ⟨g, xs, rfl, lstAt e, fun t ht => q _ _ hs ⟨hl, hp, n2, n5⟩ (hB.trans (But.same (same_new ht))) (hR'.new ht) ⟨t, xs, rfl, tupAt upd_same, hE.imp fun _ _ z => z.on (Same.tups (same_new ht))⟩⟩⟩
end
end RH
set_option Elab.async false
set_option linter.all false
set_option maxRecDepth 100000
set_option maxHeartbeats 2000000
namespace RH
open PySem PySem.Spec PyProof.Rows L2
/-! ### defs that may raise; checks of values of many kinds -/
structure CalX (P : Program) (w : World) (K : PySem.W.Frag) (mg : Str → Option Value) (base : Heap) (k : Nat) (x : Str) (sp : Sp) : Prop where
  ex : ∃ (f : Addr) (fd : FuncData) (ps : List Str), FnOk P w K mg base (L2.CX P w) k f fd ps sp ∧ mg x = some (.ref f) ∧ PySem.W.keepIn K (.ref f) = true ∧ Binds K fd ps []
/-- an own error without an __init__ -/
structure ExO (K : PySem.W.Frag) (mg : Str → Option Value) (x : Str) (C : Addr) : Prop where
  q : PySem.W.excIn K C [.type "ValueError", .type "Exception", .type "BaseException", .type "object"] "ValueError.__new__" = true
  g : mg x = some (.ref C)
  k : PySem.W.keepIn K (.ref C) = true
  b : PySem.W.subIn K (.ref C) (.type "BaseException") = some true
  t : PySem.W.typeIn K (.ref C) = some (.type "type")
section
variable {P : Program} {w : World} {K : PySem.W.Frag} {mg : Str → Option Value} {base : Heap}
theorem mkCalX {x : Str} {st : Stmt} {N ps : List Str} {k : Nat} {sp : Sp} (F : Df K mg x st ps) (S : FnScope N ps (defScope st)) (len : ∀ vs H Q E, sp vs H Q E → vs.length = ps.length)
    (hbody : ∀ (f : Addr) (cdv : Value) (A : Around) (outer : List Env) (s : Shared) (H : Hp) (vs : List V) (Q : VK) (E : XK), Room k (A.deeper (envOfC x (defScope st) s.heap.objs.size f cdv)) → sp vs H Q E →
      ∃ t, PSs (cxOf (L2.CX P w) P w K mg base N x (defScope st) f cdv A outer s H E) (defBody st) t ∧ t { nx := fun _ H' => Q .non H', rt := Q } (start N vs) H) : CalX P w K mg base (k + 1) x sp := by
  obtain ⟨f, fd, F, g, b⟩ := F.ex
  exact ⟨f, fd, ps, F.okX S len (hbody f), g, F.kp, b⟩
end
theorem pcX {X : Cx} {k j : Nat} {x : Str} {sp : Sp} {E : XK} {p pos : Pos} {e : Expr} {es : List Expr} {t : TA} (c : CalX X.prog X.w X.K X.mg X.base k x sp) (hx : Passes (L2.CX X.prog X.w) X E) (hr : Room j X.A) (ha : PA X (e :: es) t) (hk : k ≤ j := by decide) (hg : Gl X x := by rfl)
    (hdb : (x == ("__debug__" : Str)) = false := by decide) (he : starEach (e :: es) X.env = (false, eval e X.env) :: starEach es X.env := by rfl) (hpl : (backTo pos (starEach es X.env)).any (·.1) = false := by rfl) :
    PE X (.Call (.Name x p) (e :: es) [] pos) (tCall sp [] E t) := by
  obtain ⟨f, fd, ps, F, hm, kp, b⟩ := c.ex
  exact pe_call F (hr.mono hk) hg hm kp b .nil hx ha hdb he hpl
/-- a value of any kind -/
inductive Sw (K : PySem.W.Frag) (H : Hp) : V → Prop
  | int (i : Int) : Sw K H (.int i)
  | bl (b : Bool) : Sw K H (.bl b)
  | non : Sw K H .non
  | str (s : Str) : Sw K H (.str s)
  | tup {a : Addr} {xs : List V} : SqT K H a xs → Sw K H (.ref a)
  | lst {a : Addr} {xs : List V} : SqL K H a xs → Sw K H (.ref a)
def isI : V → Bool
  | .int _ => true
  | _ => false
def inV2 (lo hi : Int) : V → Bool
  | .int i => decide (lo ≤ i) && decide (i ≤ hi)
  | _ => false
section
variable {P : Program} {w : World} {K : PySem.W.Frag} {mg : Str → Option Value} {base : Heap}
theorem Sw.on {H H' : Hp} {v : V} (e : Same H H') (h : Sw K H v) : Sw K H' v := by
  cases h with
  | int i => exact .int i
  | bl b => exact .bl b
  | non => exact .non
  | str s => exact .str s
  | tup h => exact .tup (onT e h)
  | lst h => exact .lst (e.seq h)
def spIsIntegerW (K : PySem.W.Frag) : Sp := fun vs H Q _ => ∃ v, vs = [v] ∧ Sw K H v ∧ Q (.bl (isI v)) H
theorem ok_is_integerW (F : Df K mg "is_integer" st_is_integer ["value"]) (B : Bu mg) : Cal P w K mg base 1 "is_integer" (spIsIntegerW K) := by
  refine mkCal F sc_is_integer (fun vs H Q E h => ?_) (fun f cdv A outer s H vs Q E hr h => ?_)
  · obtain ⟨v, rfl, _⟩ := h
    rfl
  · obtain ⟨v, rfl, hv, q⟩ := h
    refine ⟨_, pss_one (ps_ret (pe_and (pe_callB call_isi (by rfl) B.isi (by decide +kernel) (pa_cons (pv 0) (pa_cons (pe_bltn (v := .ty "int") (by rfl) B.int (by decide +kernel) rfl) pa_nil)))
      (pe_one (pe_not (pe_callB call_isi (by rfl) B.isi (by decide +kernel) (pa_cons (pv 0) (pa_cons (pe_bltn (v := .ty "bool") (by rfl) B.bool (by decide +kernel) rfl) pa_nil))))))), ?_⟩
    cases hv with
    | int i => exact ⟨_, rfl, .int i, .ty "int", _, _, true, rfl, .ty "int", .base (.int i), kit_ty (by decide +kernel), true, rfl, _, rfl, .int i, .ty "bool", _, _, false, rfl, .ty "bool", .base (.int i), kit_ty (by decide +kernel), false, rfl, q⟩
    | bl b => exact ⟨_, rfl, .bl b, .ty "int", _, _, true, rfl, .ty "int", .base (.bl b), kit_ty (by decide +kernel), true, rfl, _, rfl, .bl b, .ty "bool", _, _, true, rfl, .ty "bool", .base (.bl b), kit_ty (by decide +kernel), true, rfl, q⟩
    | non => exact ⟨_, rfl, .non, .ty "int", _, _, false, rfl, .ty "int", .base .non, kit_ty (by decide +kernel), false, rfl, q⟩
    | str z => exact ⟨_, rfl, .str z, .ty "int", _, _, false, rfl, .ty "int", .base (.str z), kit_ty (by decide +kernel), false, rfl, q⟩
    | @tup a xs h => exact ⟨_, rfl, .ref a, .ty "int", _, _, false, rfl, .ty "int", ty_tup h, kit_ty (by decide +kernel), false, rfl, q⟩
    | @lst a xs h => exact ⟨_, rfl, .ref a, .ty "int", _, _, false, rfl, .ty "int", ty_lst h, kit_ty (by decide +kernel), false, rfl, q⟩
def spIsNumberW (K : PySem.W.Frag) : Sp := fun vs H Q _ => ∃ (v : V) (lo hi : Int), vs = [v, .int lo, .int hi] ∧ Sw K H v ∧ Q (.bl (inV2 lo hi v)) H
theorem inV2_no {lo hi : Int} {v : V} (h : isI v = false) : inV2 lo hi v = false := by
  cases v <;> first | rfl | (cases h)
theorem isI_yes {v : V} (h : isI v = true) : ∃ i, v = .int i := by
  cases v <;> first | exact ⟨_, rfl⟩ | (cases h)
theorem ok_is_numberW (F : Df K mg "is_number" st_is_number ["value", "low", "high"]) (C1 : Cal P w K mg base 1 "is_integer" (spIsIntegerW K)) : Cal P w K mg base 2 "is_number" (spIsNumberW K) := by
  refine mkCal F sc_is_number (fun vs H Q E h => ?_) (fun f cdv A outer s H vs Q E hr h => ?_)
  · obtain ⟨v, lo, hi, rfl, _⟩ := h
    rfl
  · obtain ⟨v, lo, hi, rfl, hv, q⟩ := h
    refine ⟨_, pss_one (ps_ret (pe_and (pc C1 hr (pa_cons (pv 0) pa_nil)) (pe_one (pe_chain op_le op_le (pv 1) (pv 0) (pv 2))))), ?_⟩
    refine ⟨_, rfl, v, rfl, hv, ?_⟩
    cases ei : isI v with
    | true =>
      obtain ⟨i, rfl⟩ := isI_yes ei
      refine ⟨true, rfl, _, rfl, _, rfl, lo, i, rfl, rfl, _, rfl, ite2 (fun e => ?_) (fun e => ?_)⟩
      · refine ⟨_, rfl, i, hi, rfl, rfl, ?_⟩
        have q : Q (.bl (decide (lo ≤ i) && decide (i ≤ hi))) H := q
        rw [e, Bool.true_and] at q
        exact q
      · have e' : decide (lo ≤ i) = false := by simpa using e
        have q : Q (.bl (decide (lo ≤ i) && decide (i ≤ hi))) H := q
        rw [e', Bool.false_and] at q
        exact q
    | false =>
      rw [inV2_no ei] at q
      exact ⟨false, rfl, q⟩
def spIsPlaceW (K : PySem.W.Frag) : Sp := fun vs H Q _ => ∃ (v : V) (p : Int), vs = [v, .int p] ∧ Sw K H v ∧ Q (.bl (inV2 0 (p - 1) v)) H
theorem ok_is_placeW (F : Df K mg "is_place" st_is_place ["value", "places"]) (C2 : Cal P w K mg base 2 "is_number" (spIsNumberW K)) : Cal P w K mg base 3 "is_place" (spIsPlaceW K) := by
  refine mkCal F sc_is_place (fun vs H Q E h => ?_) (fun f cdv A outer s H vs Q E hr h => ?_)
  · obtain ⟨v, p, rfl, _⟩ := h
    rfl
  · obtain ⟨v, p, rfl, hv, q⟩ := h
    refine ⟨_, pss_one (ps_ret (pc C2 hr (pa_cons (pv 0) (pa_cons pe_int (pa_cons (pe_op op_sub (pv 1) pe_int) pa_nil))))), ?_⟩
    exact ⟨_, rfl, _, rfl, p, 1, rfl, rfl, v, 0, p - 1, rfl, hv, q⟩
end
end RH
set_option Elab.async false
set_option linter.all false
set_option maxRecDepth 100000
set_option maxHeartbeats 2000000
namespace RH
open PySem PySem.Spec PyProof.Rows L2
open NdefX (NScope NF CellsAt startF ncx envF)
/-! ### errors that keep something -/
/-- a class of errors that can be made -/
structure BhX (P : Program) (w : World) (K : PySem.W.Frag) (mg : Str → Option Value) (base : Heap) (cls fld : Str) (C : Addr) (sp : Sp) : Prop where
  t : OexC K C
  g : mg cls = some (.ref C)
  f : ∃ (f : Addr) (fd : FuncData), FnOk P w K mg base CX0 1 f fd ["self", fld] sp ∧ PySem.W.findIn K (.ref C) "__init__" = some (some (.ref f)) ∧ PySem.W.typeIn K (.ref f) = some (.type "function") ∧ Binds K fd ["self", fld] []
/-- what an error keeps: none, or a small number -/
def plV (v : V) : Prop := v = .non ∨ ∃ i : Nat, i < 16 ∧ v = .int (i : Int)
def spBI (fld : Str) (C : Addr) : Sp := fun vs H Q _ => ∃ (a : Addr) (v : V), vs = [.ref a, v] ∧ plV v ∧ H a = some (exo a C none) ∧ ∀ d, H d = none → d ≠ a → Q .non (upd (upd H d (exd d [(fld, v)])) a (exo a C (some d)))
theorem few_of {i : Nat} (h : i < 16) : i = 0 ∨ i = 1 ∨ i = 2 ∨ i = 3 ∨ i = 4 ∨ i = 5 ∨ i = 6 ∨ i = 7 ∨ i = 8 ∨ i = 9 ∨ i = 10 ∨ i = 11 ∨ i = 12 ∨ i = 13 ∨ i = 14 ∨ i = 15 := by omega
theorem fmt_few {i : Nat} (h : i < 16) : ((i : Nat) : Int).natAbs.log2 < 1920 := by
  rcases few_of h with rfl | rfl | rfl | rfl | rfl | rfl | rfl | rfl | rfl | rfl | rfl | rfl | rfl | rfl | rfl | rfl <;> decide +kernel
/-- an error that keeps pl comes -/
def bhE (C : Addr) (fn : Str) (pl : V) (H : Hp) (E : XK) : Prop := ∀ d H', Same H H' → H' d = some (.xd [(fn, pl)]) → E (.ref C) (some d) H'
/-- an error without more comes -/
def noE (C : Addr) (H : Hp) (E : XK) : Prop := ∀ H', Same H H' → E (.ref C) none H'
theorem bhE.on {C : Addr} {fn : Str} {pl : V} {H H' : Hp} {E : XK} (h : bhE C fn pl H E) (s : Same H H') : bhE C fn pl H' E := fun d H2 s2 => h d H2 (s.trans s2)
theorem noE.on {C : Addr} {H H' : Hp} {E : XK} (h : noE C H E) (s : Same H H') : noE C H' E := fun H2 s2 => h H2 (s.trans s2)
section
variable {P : Program} {w : World} {K : PySem.W.Frag} {mg : Str → Option Value} {base : Heap}
theorem ok_BadHabit {C f cc cda : Addr} {fd : FuncData} (M : SupC P K mg C "BadHabit.__init__" st_e_BadHabit f fd cc cda) (hno : PySem.W.findIn K (.ref C) "place" = some none) : FnOk P w K mg base CX0 1 f fd ["self", "place"] (spBI "place" C) := by
  refine fn_super (self := "self") M sc_e_BadHabit rfl rfl rfl (by decide +kernel) rfl (fun vs H Q E h => ?_) (fun A outer s H vs Q E hr h => ?_)
  · obtain ⟨a, v, rfl, _⟩ := h
    rfl
  · obtain ⟨a, v, rfl, hv, ha, q⟩ := h
    refine ⟨a, _, _, rfl, ha, pa_cons (pe_joined (.cons pe_str (.cons (pe_fmtN (pv 1)) .nil))) pa_nil, pss_one (ps_ost (pv 0) (pv 1)), ?_⟩
    have go : ∀ H1, H1 = H → ([V.str "x"] : List V).length ≤ 1000 ∧ H1 a = some (exo a C none) ∧ tOst K "place" (tVar 0) (tVar 1) { nx := fun _ H' => Q .non H', rt := Q } [some (.ref a), some v, some (.ref C)] H1 := fun H1 e => by
      subst e
      exact ⟨by decide, ha, _, rfl, _, rfl, a, C, rfl, M.t, hno, .inl ⟨ha, fun dx n ne => q dx n ne⟩⟩
    rcases hv with rfl | ⟨i, hi, rfl⟩
    · refine ⟨_, rfl, ?_, _, rfl, .inl ⟨rfl, _, rfl, ?_, go _ rfl⟩⟩
      · rw [sizeLine_eq]; decide +kernel
      · rw [sizeLine_eq]; decide +kernel
    · refine ⟨_, rfl, ?_, _, rfl, .inr ⟨(i : Int), rfl, fmt_few hi, _, rfl, ?_, go _ rfl⟩⟩
      · rw [sizeLine_eq]; decide +kernel
      · rw [sizeLine_eq]
        rcases few_of hi with rfl | rfl | rfl | rfl | rfl | rfl | rfl | rfl | rfl | rfl | rfl | rfl | rfl | rfl | rfl | rfl <;> decide +kernel
theorem ok_BadProgram {C f cc cda : Addr} {fd : FuncData} (M : SupC P K mg C "BadProgram.__init__" st_e_BadProgram f fd cc cda) (hno : PySem.W.findIn K (.ref C) "index" = some none) : FnOk P w K mg base CX0 1 f fd ["self", "index"] (spBI "index" C) := by
  refine fn_super (self := "self") M sc_e_BadProgram rfl rfl rfl (by decide +kernel) rfl (fun vs H Q E h => ?_) (fun A outer s H vs Q E hr h => ?_)
  · obtain ⟨a, v, rfl, _⟩ := h
    rfl
  · obtain ⟨a, v, rfl, hv, ha, q⟩ := h
    refine ⟨a, _, _, rfl, ha, pa_cons (pe_joined (.cons pe_str (.cons (pe_fmtN (pv 1)) .nil))) pa_nil, pss_one (ps_ost (pv 0) (pv 1)), ?_⟩
    have go : ∀ H1, H1 = H → ([V.str "x"] : List V).length ≤ 1000 ∧ H1 a = some (exo a C none) ∧ tOst K "index" (tVar 0) (tVar 1) { nx := fun _ H' => Q .non H', rt := Q } [some (.ref a), some v, some (.ref C)] H1 := fun H1 e => by
      subst e
      exact ⟨by decide, ha, _, rfl, _, rfl, a, C, rfl, M.t, hno, .inl ⟨ha, fun dx n ne => q dx n ne⟩⟩
    rcases hv with rfl | ⟨i, hi, rfl⟩
    · refine ⟨_, rfl, ?_, _, rfl, .inl ⟨rfl, _, rfl, ?_, go _ rfl⟩⟩
      · rw [sizeLine_eq]; decide +kernel
      · rw [sizeLine_eq]; decide +kernel
    · refine ⟨_, rfl, ?_, _, rfl, .inr ⟨(i : Int), rfl, fmt_few hi, _, rfl, ?_, go _ rfl⟩⟩
      · rw [sizeLine_eq]; decide +kernel
      · rw [sizeLine_eq]
        rcases few_of hi with rfl | rfl | rfl | rfl | rfl | rfl | rfl | rfl | rfl | rfl | rfl | rfl | rfl | rfl | rfl | rfl <;> decide +kernel
/-- the error is made: its dict stands at d -/
theorem bh_made {C : Addr} {fn : Str} {v : V} {H1 : Hp} {Q : XK} (hv : plV v) (q : ∀ d, H1 d = none → Q (.ref C) (some d) (upd H1 d (.xd [(fn, v)]))) :
    ([v] : List V).length ≤ 1000 ∧ ∀ a, H1 a = none → spBI fn C (.ref a :: ([v] ++ [])) (upd H1 a (exo a C none)) (fun u H2 => u = .non ∧ ∃ (d : Addr) (fs : List (Str × V)), H2 a = some (exo a C (some d)) ∧ H2 d = some (exd d fs) ∧ H1 d = none ∧ Q (.ref C) (some d) (upd (del H2 a) d (.xd fs))) (fun _ _ _ => False) := by
  refine ⟨by show 1 ≤ 1000; decide, fun a ha => ⟨a, v, rfl, hv, upd_same, fun d hd ne => ⟨rfl, d, [(fn, v)], upd_same, ?_, ?_, ?_⟩⟩⟩
  · rw [upd_ne ne, upd_same]
  · rw [upd_ne ne] at hd
    exact hd
  · have hd' : H1 d = none := by
      rw [upd_ne ne] at hd
      exact hd
    have e : upd (del (upd (upd (upd H1 a (exo a C none)) d (exd d [(fn, v)])) a (exo a C (some d))) a) d (.xd [(fn, v)]) = upd H1 d (.xd [(fn, v)]) := by
      funext b
      by_cases hb : b = d
      · rw [hb, upd_same, upd_same]
      · rw [upd_ne hb, upd_ne hb]
        by_cases hba : b = a
        · rw [hba, del_same, ha]
        · rw [del_ne hba, upd_ne hba, upd_ne hb, upd_ne hba]
    rw [e]
    exact q d hd'
end
end RH
set_option Elab.async false
set_option linter.all false
set_option maxRecDepth 100000
set_option maxHeartbeats 2000000
namespace RH
open PySem PySem.Spec PyProof.Rows L2
/-! ### the checks, for values of whatever kind -/
/-- a value: a tuple of values, or what is none -/
inductive Tk (K : PySem.W.Frag) (H : Hp) : V → Option (List V) → Prop
  | tup {a : Addr} {xs : List V} : SqT K H a xs → Tk K H (.ref a) (some xs)
  | lst {a : Addr} {xs : List V} : SqL K H a xs → Tk K H (.ref a) none
  | dct {a : Addr} {kvs : List (L2.Key × V)} : H a = some (.dK kvs) → Tk K H (.ref a) none
  | int (i : Int) : Tk K H (.int i) none
  | bl (b : Bool) : Tk K H (.bl b) none
  | non : Tk K H .non none
  | str (z : Str) : Tk K H (.str z) none
theorem Tk.on {K : PySem.W.Frag} {H H' : Hp} (e : Same H H') {v : V} {wo : Option (List V)} (h : Tk K H v wo) : Tk K H' v wo := by
  cases h with
  | tup h => exact .tup (onT e h)
  | lst h => exact .lst (e.seq h)
  | dct h => exact .dct (e _ _ h)
  | int i => exact .int i
  | bl b => exact .bl b
  | non => exact .non
  | str z => exact .str z
/-- .. of values -/
structure Wd (K : PySem.W.Frag) (H : Hp) (v : V) (wo : Option (List V)) : Prop where
  t : Tk K H v wo
  s : ∀ xs, wo = some xs → ∀ x ∈ xs, Sw K H x
  l : ∀ xs, wo = some xs → xs.length < 64
theorem Wd.on {K : PySem.W.Frag} {H H' : Hp} (e : Same H H') {v : V} {wo : Option (List V)} (h : Wd K H v wo) : Wd K H' v wo := ⟨h.t.on e, fun xs z x hm => (h.s xs z x hm).on e, h.l⟩
def rowW (lo hi : Int) : Option (List V) → Bool
  | some xs => decide (lo ≤ (xs.length : Int)) && decide ((xs.length : Int) ≤ hi)
  | none => false
def plsW (p : Int) : Option (List V) → Bool
  | some xs => xs.all (inV2 0 (p - 1))
  | none => false
theorem inV2_yes0 {n : Nat} {i : Int} (h0 : 0 ≤ i) (h1 : i < n) : inV2 0 ((n : Int) - 1) (.int i) = true := by
  show (decide (0 ≤ i) && decide (i ≤ (n : Int) - 1)) = true
  rw [decide_eq_true h0, decide_eq_true (by omega)]
  rfl
theorem inV2_get {n : Nat} {v : V} (h : inV2 0 ((n : Int) - 1) v = true) : ∃ i, v = .int i ∧ 0 ≤ i ∧ i < n := by
  cases v <;> first | (cases h; done) | skip
  rename_i i
  have h : (decide (0 ≤ i) && decide (i ≤ (n : Int) - 1)) = true := h
  rw [Bool.and_eq_true, decide_eq_true_iff, decide_eq_true_iff] at h
  exact ⟨i, rfl, h.1, by omega⟩
/-- places all: numbers all -/
theorem all_ints {n : Nat} : ∀ {xs : List V}, (xs.all (inV2 0 ((n : Int) - 1))) = true → ∃ ns : List Int, xs = ns.map V.int ∧ inP n ns = true
  | [], _ => ⟨[], rfl, rfl⟩
  | x :: xs, h => by
    rw [List.all_cons, Bool.and_eq_true] at h
    obtain ⟨i, rfl, h0, h1⟩ := inV2_get h.1
    obtain ⟨ns, rfl, e⟩ := all_ints h.2
    refine ⟨i :: ns, rfl, ?_⟩
    unfold inP at e ⊢
    rw [List.all_cons, e, decide_eq_true h0, decide_eq_true (by omega)]
    rfl
def valI : V → Int
  | .int i => i
  | _ => -1
/-- is it a layout? -/
def layW (n : Nat) : Option (List V) → Bool
  | some xs => xs.all (inV2 0 ((n : Int) - 1)) && isLay n (xs.map valI)
  | none => false
section
variable {P : Program} {w : World} {K : PySem.W.Frag} {mg : Str → Option Value} {base : Heap}
def spIsRowW (K : PySem.W.Frag) : Sp := fun vs H Q _ => ∃ (v : V) (wo : Option (List V)) (lo hi : Int), vs = [v, .int lo, .int hi] ∧ Tk K H v wo ∧ Q (.bl (rowW lo hi wo)) H
theorem ok_is_rowW (F : Df K mg "is_row" st_is_row ["value", "low", "high"]) (B : Bu mg) : Cal P w K mg base 1 "is_row" (spIsRowW K) := by
  refine mkCal F sc_is_row (fun vs H Q E h => ?_) (fun f cdv A outer s H vs Q E hr h => ?_)
  · obtain ⟨v, ro, lo, hi, rfl, _⟩ := h
    rfl
  · obtain ⟨v, ro, lo, hi, rfl, hk, q⟩ := h
    refine ⟨_, pss_one (ps_ret (pe_and (pe_callB call_isi (by rfl) B.isi (by decide +kernel) (pa_cons (pv 0) (pa_cons (pe_bltn (v := .ty "tuple") (by rfl) B.tuple (by decide +kernel) rfl) pa_nil)))
      (pe_one (pe_chain op_le op_le (pv 1) (pe_callB call_len_seq (by rfl) B.len PySem.boot_len (pa_cons (pv 0) pa_nil)) (pv 2))))), ?_⟩
    cases hk with
    | int i => exact ⟨_, rfl, .int i, .ty "tuple", _, _, false, rfl, .ty "tuple", .base (.int i), kit_ty (by decide +kernel), false, rfl, q⟩
    | bl b => exact ⟨_, rfl, .bl b, .ty "tuple", _, _, false, rfl, .ty "tuple", .base (.bl b), kit_ty (by decide +kernel), false, rfl, q⟩
    | non => exact ⟨_, rfl, .non, .ty "tuple", _, _, false, rfl, .ty "tuple", .base .non, kit_ty (by decide +kernel), false, rfl, q⟩
    | str z => exact ⟨_, rfl, .str z, .ty "tuple", _, _, false, rfl, .ty "tuple", .base (.str z), kit_ty (by decide +kernel), false, rfl, q⟩
    | @lst a xs hS => exact ⟨_, rfl, .ref a, .ty "tuple", _, _, false, rfl, .ty "tuple", ty_lst hS, kit_ty (by decide +kernel), false, rfl, q⟩
    | @dct a kvs e => exact ⟨_, rfl, .ref a, .ty "tuple", _, _, false, rfl, .ty "tuple", .base (.dK e), kit_ty (by decide +kernel), false, rfl, q⟩
    | @tup a xs hS =>
      refine ⟨_, rfl, .ref a, .ty "tuple", _, _, true, rfl, .ty "tuple", ty_tup hS, kit_ty (by decide +kernel), true, rfl, _, rfl, _, rfl, a, xs, rfl, .inr hS, lo, (xs.length : Int), rfl, rfl, _, rfl, ite2 (fun e => ?_) (fun e => ?_)⟩
      · refine ⟨_, rfl, _, hi, rfl, rfl, ?_⟩
        have q : Q (.bl (decide (lo ≤ (xs.length : Int)) && decide ((xs.length : Int) ≤ hi))) H := q
        rw [e, Bool.true_and] at q
        exact q
      · have e' : decide (lo ≤ (xs.length : Int)) = false := by simpa using e
        have q : Q (.bl (decide (lo ≤ (xs.length : Int)) && decide ((xs.length : Int) ≤ hi))) H := q
        rw [e', Bool.false_and] at q
        exact q
def spArePlacesW (K : PySem.W.Frag) : Sp := fun vs H Q _ => ∃ (v : V) (wo : Option (List V)) (p : Int), vs = [v, .int p] ∧ Wd K H v wo ∧ ∀ H', Same H H' → Q (.bl (plsW p wo)) H'
theorem ok_are_placesW (F : Df K mg "are_places" st_are_places ["value", "places"]) (B : Bu mg) (C3 : Cal P w K mg base 3 "is_place" (spIsPlaceW K)) : Cal P w K mg base 4 "are_places" (spArePlacesW K) := by
  refine mkCal F sc_are_places (fun vs H Q E h => ?_) (fun f cdv A outer s H vs Q E hr h => ?_)
  · obtain ⟨v, wo, p, rfl, _⟩ := h
    rfl
  · obtain ⟨v, wo, p, rfl, hw, q⟩ := h
    refine ⟨_, pss_one (ps_ret (pe_and (pe_callB call_isi (by rfl) B.isi (by decide +kernel) (pa_cons (pv 0) (pa_cons (pe_bltn (v := .ty "tuple") (by rfl) B.tuple (by decide +kernel) rfl) pa_nil)))
      (pe_one (pe_callB (cr_all rfl) (by rfl) B.all (by decide +kernel) (pa_cons (pe_lc (own := [("place", 2)]) (g := gName 2) (tt := tYes) rfl sc_are_places.nd (pi_tup (pv 0)) (blkOk_by (N := ["value", "places", "place"]) (sc := defScope st_are_places) (by decide +kernel))
        (fun _ _ _ _ _ => pg_name (i := 2) sc_are_places.nd rfl (Or.inl rfl)) (fun _ _ _ _ _ => pts_nil) (fun _ _ _ _ _ => pc C3 hr (pa_cons (pv 2) (pa_cons (pv 1) pa_nil)))) pa_nil))))), ?_⟩
    obtain ⟨ht, hsw, hlen⟩ := hw
    cases ht with
    | int i => exact ⟨_, rfl, .int i, .ty "tuple", _, _, false, rfl, .ty "tuple", .base (.int i), kit_ty (by decide +kernel), false, rfl, q H (Same.refl H)⟩
    | bl b => exact ⟨_, rfl, .bl b, .ty "tuple", _, _, false, rfl, .ty "tuple", .base (.bl b), kit_ty (by decide +kernel), false, rfl, q H (Same.refl H)⟩
    | non => exact ⟨_, rfl, .non, .ty "tuple", _, _, false, rfl, .ty "tuple", .base .non, kit_ty (by decide +kernel), false, rfl, q H (Same.refl H)⟩
    | str z => exact ⟨_, rfl, .str z, .ty "tuple", _, _, false, rfl, .ty "tuple", .base (.str z), kit_ty (by decide +kernel), false, rfl, q H (Same.refl H)⟩
    | @lst a xs hS => exact ⟨_, rfl, .ref a, .ty "tuple", _, _, false, rfl, .ty "tuple", ty_lst hS, kit_ty (by decide +kernel), false, rfl, q H (Same.refl H)⟩
    | @dct a kvs e => exact ⟨_, rfl, .ref a, .ty "tuple", _, _, false, rfl, .ty "tuple", .base (.dK e), kit_ty (by decide +kernel), false, rfl, q H (Same.refl H)⟩
    | @tup a xs hS =>
      have hl := hlen xs rfl
      have hx := hsw xs rfl
      refine ⟨_, rfl, .ref a, .ty "tuple", _, _, true, rfl, .ty "tuple", ty_tup hS, kit_ty (by decide +kernel), true, rfl, ?_⟩
      refine ⟨_, rfl, a, rfl, ⟨_, hS⟩, fun D hD => ?_⟩
      refine lc_tup (xs := xs) (fun i H' => Same H H' ∧ H' D = some (.lst (((xs.take i).map (inV2 0 (p - 1))).map V.bl))) ⟨same_new hD, upd_same⟩ (fun i H' _ h' => onT h'.1 hS) (fun i x H' hi h' => ?_) (fun H' h' => ?_)
      · obtain ⟨sm, eD⟩ := h'
        refine ⟨rfl, _, rfl, _, rfl, x, p, rfl, (hx x (List.mem_of_getElem? hi)).on sm, _, eD, ?_, ?_, ?_⟩
        · rw [List.length_map, List.length_map, List.length_take]
          exact small1000 (by omega)
        · intro b o e
          rw [upd_ne (ne_of_none e hD)]
          exact sm b o e
        · rw [upd_same, all_snoc _ hi, List.map_append]
          rfl
      · obtain ⟨sm, eD⟩ := h'
        rw [List.take_length] at eD
        refine ⟨D, _, rfl, lstAt eD, ?_⟩
        have e : ((xs.map (inV2 0 (p - 1))).all id) = plsW p (some xs) := by
          rw [List.all_map]
          rfl
        rw [e]
        exact q H' sm
def spIsLayoutW (K : PySem.W.Frag) : Sp := fun vs H Q _ => ∃ (v : V) (wo : Option (List V)) (p : Nat), vs = [v, .int p] ∧ Wd K H v wo ∧ p ≤ 1000 ∧ ∀ H', Same H H' → Q (.bl (layW p wo)) H'
theorem ok_is_layoutW (F : Df K mg "is_layout" st_is_layout ["value", "places"]) (B : Bu mg) (C4 : Cal P w K mg base 4 "are_places" (spArePlacesW K)) : Cal P w K mg base 5 "is_layout" (spIsLayoutW K) := by
  refine mkCal F sc_is_layout (fun vs H Q E h => ?_) (fun f cdv A outer s H vs Q E hr h => ?_)
  · obtain ⟨v, wo, p, rfl, _⟩ := h
    rfl
  · obtain ⟨v, wo, p, rfl, hw, hp, q⟩ := h
    refine ⟨_, pss_one (ps_ret (pe_and (pc C4 hr (pa_cons (pv 0) (pa_cons (pv 1) pa_nil)))
      (pe_one (pe_cmpR (op_eqD hr.units) (pe_callB cr_sortedTup (by rfl) B.sorted (by decide +kernel) (pa_cons (pv 0) pa_nil)) (pe_listRg rfl (by rfl) B.list (prg_1 (by rfl) B.range (pv 1))) (nomark _))))), ?_⟩
    refine ⟨_, rfl, _, rfl, v, wo, p, rfl, hw, fun H1 sm1 => ⟨_, rfl, ite2 (fun e => ?_) (fun e => ?_)⟩⟩
    · obtain ⟨ht, hsw, hlen⟩ := hw
      cases ht with
      | @tup a xs hS =>
        obtain ⟨ns, rfl, hin⟩ := all_ints (n := p) e
        have hl : ns.length < 64 := by
          have := hlen _ rfl
          rwa [List.length_map] at this
        refine ⟨_, rfl, a, ns, rfl, onT sm1 hS, hl, fun ns' pL hpm hpw nL => ⟨_, rfl, (p : Int), rfl, ⟨by omega, by omega, by omega, by omega, by omega⟩, fun q' nq => ?_⟩⟩
        have nqp : pL ≠ q' := ne_of_none upd_same nq
        refine ⟨_, _, dp_lst (ns := ns') (lstAt ?_), dp_lst (ns := rg p) (lstAt ?_), PySem.W.ke_shaped_ints _, PySem.W.ke_shaped_ints _, ?_⟩
        · rw [upd_ne nqp, upd_same]
        · rw [upd_same, rgV_rg]
        · have em : ((ns.map V.int).map valI) = ns := by
            rw [List.map_map]
            exact List.map_id' ns
          have e2 : PyData.eqv (.list (ns'.map PyData.int)) (.list ((rg p).map PyData.int)) = layW p (some (ns.map V.int)) := by
            have e3 : layW p (some (ns.map V.int)) = isLay p ns := by
              have e : ((ns.map V.int).all (inV2 0 ((p : Int) - 1))) = true := e
              show ((ns.map V.int).all (inV2 0 ((p : Int) - 1)) && isLay p ((ns.map V.int).map valI)) = isLay p ns
              rw [e, Bool.true_and, em]
            rw [e3, eqv_lst, Bool.eq_iff_iff, decide_eq_true_iff]
            unfold isLay
            rw [List.isPerm_iff]
            constructor
            · intro z
              rw [← z]
              exact hpm.symm
            · intro z
              exact PySem.W.ksm_same (hpm.trans z) hpw (rg_le p)
          rw [e2]
          exact q _ (sm1.trans (Same.trans (same_new nL) (same_new nq)))
      | _ => cases e
    · have e2 : layW p wo = false := by
        cases wo with
        | none => rfl
        | some xs =>
          have e' : (xs.all (inV2 0 ((p : Int) - 1))) = false := by
            have e3 : ¬ (xs.all (inV2 0 ((p : Int) - 1))) = true := e
            simpa using e3
          show (xs.all (inV2 0 ((p : Int) - 1)) && isLay p (xs.map valI)) = false
          rw [e', Bool.false_and]
      have q := q H1 sm1
      rw [e2] at q
      exact q
end
end RH
set_option Elab.async false
set_option linter.all false
set_option maxRecDepth 100000
set_option maxHeartbeats 2000000
namespace RH
open PySem PySem.Spec PyProof.Rows L2
/-! ### the checks that raise -/
/-- a habit, or what is none: of each row what it is -/
inductive Hk (K : PySem.W.Frag) (H : Hp) : V → Option (List (Option (List V))) → Prop
  | tup {a : Addr} {xs : List V} {wos : List (Option (List V))} : SqT K H a xs → Each (Wd K H) xs wos → Hk K H (.ref a) (some wos)
  | no {v : V} : Tk K H v none → Hk K H v none
theorem Hk.on {K : PySem.W.Frag} {H H' : Hp} (e : Same H H') {v : V} {ho : Option (List (Option (List V)))} (h : Hk K H v ho) : Hk K H' v ho := by
  cases h with
  | tup h hx => exact .tup (onT e h) (hx.imp fun v d z => z.on e)
  | no h => exact .no (h.on e)
/-- the place that BadHabit tells, if it is none -/
def hbBad : Option (List (Option (List V))) → Option V
  | none => some .non
  | some wos => if (decide (2 ≤ wos.length) && decide (wos.length ≤ 5)) = true then (wos.findIdx? fun wo => !layW wos.length wo).map (fun i => V.int (i : Nat)) else some .non
theorem hbBad_pl {ho : Option (List (Option (List V)))} {pl : V} (h : hbBad ho = some pl) : plV pl := by
  cases ho with
  | none => exact .inl (Option.some.inj h).symm
  | some wos =>
    unfold hbBad at h
    dsimp only at h
    split at h
    · rename_i hc
      rw [Bool.and_eq_true, decide_eq_true_iff, decide_eq_true_iff] at hc
      obtain ⟨i, hi, e⟩ := Option.map_eq_some_iff.mp h
      have := (List.findIdx?_eq_some_iff_getElem.mp hi).1
      exact .inr ⟨i, by omega, e.symm⟩
    · exact .inl (Option.some.inj h).symm
theorem few_cast (n : Nat) : (decide ((2 : Int) ≤ (n : Int)) && decide ((n : Int) ≤ 5)) = (decide (2 ≤ n) && decide (n ≤ 5)) := by
  rw [Bool.eq_iff_iff]
  simp only [Bool.and_eq_true, decide_eq_true_iff]
  omega
section
variable {P : Program} {w : World} {K : PySem.W.Frag} {mg : Str → Option Value} {base : Heap}
def spCheckHabitX (K : PySem.W.Frag) (C : Addr) : Sp := fun vs H Q E => ∃ (v : V) (ho : Option (List (Option (List V)))), vs = [v] ∧ Hk K H v ho ∧ (hbBad ho = none → ∀ H', Same H H' → Q .non H') ∧ (∀ pl, hbBad ho = some pl → bhE C "place" pl H E)
theorem ok_check_habitX {C : Addr} (F : Df K mg "check_habit" st_check_habit ["habit"]) (B : Bu mg) (c2 : ∃ t, mg "FEWEST_PLACES" = some (.int 2 t)) (c5 : ∃ t, mg "MOST_PLACES" = some (.int 5 t)) (T : BhX P w K mg base "BadHabit" "place" C (spBI "place" C))
    (C1 : Cal P w K mg base 1 "is_row" (spIsRowW K)) (C5 : Cal P w K mg base 5 "is_layout" (spIsLayoutW K)) : CalX P w K mg base 6 "check_habit" (spCheckHabitX K C) := by
  refine mkCalX F sc_check_habit (fun vs H Q E h => ?_) (fun f cdv A outer s H vs Q E hr h => ?_)
  · obtain ⟨v, ho, rfl, _⟩ := h
    rfl
  · obtain ⟨v, ho, rfl, hk, q1, q2⟩ := h
    obtain ⟨fI, fdI, FI, iC, tI, bI⟩ := T.f
    refine ⟨_, pss_cons (ps_if (pt_not (pt_val (pc C1 hr (pa_cons (pv 0) (pa_cons (pk c2) (pa_cons (pk c5) pa_nil)))))) (pss_one (ps_raise rfl takesE (pmk_oex T.t iC tI FI (hr.mono (by decide)) bI .nil pass0 rfl T.g (pa_cons pe_non pa_nil)))) pss_nil)
      (pss_one (ps_for (passes_of rfl) rfl (pi_enumT (by rfl) B.enumerate (pa_cons (pv 0) pa_nil)) (pg_tup rfl (pgs_cons (pg_name (i := 1) sc_check_habit.nd rfl (.inl rfl)) (pgs_cons (pg_name (i := 2) sc_check_habit.nd rfl (.inl rfl)) pgs_nil)))
        (pss_one (ps_if (pt_not (pt_val (pc C5 hr (pa_cons (pv 2) (pa_cons (pe_callB (cl_len K) (by rfl) B.len PySem.boot_len (pa_cons (pv 0) pa_nil)) pa_nil))))) (pss_one (ps_raise rfl takesE (pmk_oex T.t iC tI FI (hr.mono (by decide)) bI .nil pass0 rfl T.g (pa_cons (pv 1) pa_nil)))) pss_nil)))), ?_⟩
    have none_ : ∀ {H1 : Hp}, Same H H1 → hbBad ho = some .non → ∀ d, H1 d = none → E (.ref C) (some d) (upd H1 d (.xd [("place", .non)])) := fun {H1} s1 e d hd => q2 _ e d _ (s1.trans (same_new hd)) upd_same
    cases hk with
    | @no v ht => exact ⟨_, rfl, v, none, 2, 5, rfl, ht, _, rfl, ifT rfl (bh_made (.inl rfl) (none_ (Same.refl H) rfl))⟩
    | @tup a xs wos hS hE =>
      have hlen := hE.len
      refine ⟨_, rfl, .ref a, some xs, 2, 5, rfl, .tup hS, _, rfl, ?_⟩
      cases hc : (decide (2 ≤ wos.length) && decide (wos.length ≤ 5)) with
      | false =>
        refine ifT ?_ (bh_made (.inl rfl) (none_ (Same.refl H) ?_))
        · show (!(decide ((2 : Int) ≤ (xs.length : Int)) && decide ((xs.length : Int) ≤ 5))) = true
          rw [hlen, few_cast, hc]
          rfl
        · unfold hbBad
          dsimp only
          rw [hc]
          rfl
      | true =>
        have hc' := hc
        rw [Bool.and_eq_true, decide_eq_true_iff, decide_eq_true_iff] at hc'
        refine ifF ?_ ?_
        · show (!(decide ((2 : Int) ≤ (xs.length : Int)) && decide ((xs.length : Int) ≤ 5))) = false
          rw [hlen, decide_eq_true (by omega), decide_eq_true (by omega)]
          rfl
        refine ⟨_, rfl, a, xs, rfl, hS, ?_⟩
        refine for_enumT (xs := xs) (fun i σ H' => Same H H' ∧ (∀ j wo, j < i → wos[j]? = some wo → layW wos.length wo = true) ∧ ∃ y1 y2, σ = [some (.ref a), y1, y2]) ⟨Same.refl H, fun j wo hj => absurd hj (Nat.not_lt_zero _), none, none, rfl⟩ (fun i σ H' h' => onT h'.1 hS) (fun i x T σ H' hx h' hT => ?_) (fun σ H' h' => q1 ?_ H' h'.1)
        · obtain ⟨sm, old, y1, y2, rfl⟩ := h'
          obtain ⟨wo, hwo, hTx⟩ := hE.at hx
          have sT : Same H (upd H' T (.tup [.int (i : Nat), x])) := sm.trans (same_new hT)
          refine ⟨T, _, rfl, tupAt upd_same, rfl, _, _, rfl, _, _, rfl, rfl, _, rfl, _, rfl, a, xs, rfl, .inr (onT sT hS), x, wo, wos.length, by rw [hlen]; rfl, hTx.on sT, by omega, fun H3 sm3 => ⟨_, rfl, ?_⟩⟩
          cases hl : layW wos.length wo with
          | true =>
            refine ifF rfl ⟨sT.trans sm3, fun j wo' hj e => ?_, _, _, rfl⟩
            rcases Nat.lt_succ_iff_lt_or_eq.mp hj with hj | rfl
            · exact old j wo' hj e
            · rw [hwo] at e
              cases e
              exact hl
          | false =>
            refine ifT rfl ⟨_, rfl, ?_⟩
            have hi : i < wos.length := (List.getElem?_eq_some_iff.mp hwo).1
            have e : hbBad (some wos) = some (.int (i : Nat)) := by
              unfold hbBad
              dsimp only
              rw [if_pos hc]
              have : (wos.findIdx? fun wo => !layW wos.length wo) = some i := by
                rw [List.findIdx?_eq_some_iff_getElem]
                refine ⟨hi, ?_, fun j hj => ?_⟩
                · rw [(List.getElem?_eq_some_iff.mp hwo).2, hl]
                  rfl
                · rw [old j _ hj (List.getElem?_eq_getElem _)]
                  decide
              rw [this]
              rfl
            exact bh_made (hbBad_pl e) fun d hd => q2 _ e d _ ((sT.trans sm3).trans (same_new hd)) upd_same
        · unfold hbBad
          dsimp only
          rw [if_pos hc]
          have : (wos.findIdx? fun wo => !layW wos.length wo) = none := by
            rw [List.findIdx?_eq_none_iff]
            intro wo hm
            obtain ⟨j, hj⟩ := List.mem_iff_getElem?.mp hm
            rw [h'.2.1 j wo (by rw [hlen]; exact (List.getElem?_eq_some_iff.mp hj).1) hj]
            rfl
          rw [this]
          rfl
/-- a word's value: told row by row -/
structure Ww (K : PySem.W.Frag) (H : Hp) (v : V) (wo : Option (List V)) : Prop where
  t : Tk K H v wo
  w : rowW 0 400 wo = true → Wd K H v wo
theorem Ww.on {H H' : Hp} (e : Same H H') {v : V} {wo : Option (List V)} (h : Ww K H v wo) : Ww K H' v wo := ⟨h.t.on e, fun z => (h.w z).on e⟩
def wrdW (n : Nat) (wo : Option (List V)) : Bool := rowW 0 400 wo && plsW n wo
def spCheckNumX (K : PySem.W.Frag) (C : Addr) : Sp := fun vs H Q E => ∃ v : V, vs = [v, .int 2, .int 5] ∧ Sw K H v ∧ (inV2 2 5 v = true → Q .non H) ∧ (inV2 2 5 v = false → E (.ref C) none H)
theorem ok_check_numberX {C : Addr} (F : Df K mg "check_number" st_check_number ["value", "low", "high"]) (Xn : ExO K mg "BadNumber" C) (C2 : Cal P w K mg base 2 "is_number" (spIsNumberW K)) : CalX P w K mg base 3 "check_number" (spCheckNumX K C) := by
  refine mkCalX F sc_check_number (fun vs H Q E h => ?_) (fun f cdv A outer s H vs Q E hr h => ?_)
  · obtain ⟨v, rfl, _⟩ := h
    rfl
  · obtain ⟨v, rfl, hv, q1, q2⟩ := h
    refine ⟨_, pss_one (ps_if (pt_not (pt_val (pc C2 hr (pa_cons (pv 0) (pa_cons (pv 1) (pa_cons (pv 2) pa_nil)))))) (pss_one (ps_raise rfl takesE (SkE.pmk_own1 PySem.F.excBase_ValueError Xn.q Xn.g Xn.k (raises_own Xn.b Xn.t) rfl
      (pe_joined (.cons pe_str (.cons (pe_fmt (pv 1)) (.cons pe_str (.cons (pe_fmt (pv 2)) .nil)))))))) pss_nil), ?_⟩
    refine ⟨_, rfl, _, rfl, _, rfl, v, 2, 5, rfl, hv, _, rfl, ?_⟩
    cases el : inV2 2 5 v with
    | true => exact ifF rfl (q1 el)
    | false =>
      refine ifT rfl ?_
      refine ⟨_, rfl, ?_, _, rfl, .inr ⟨2, rfl, by decide +kernel, _, rfl, ?_, _, rfl, ?_, _, rfl, .inr ⟨5, rfl, by decide +kernel, _, rfl, ?_, q2 el⟩⟩⟩ <;> (rw [sizeLine_eq]; decide +kernel)
def spCheckPlacesX (K : PySem.W.Frag) (C : Addr) : Sp := fun vs H Q E => ∃ v : V, vs = [v] ∧ Sw K H v ∧ (inV2 2 5 v = true → Q .non H) ∧ (inV2 2 5 v = false → E (.ref C) none H)
theorem ok_check_placesX {C : Addr} (F : Df K mg "check_places" st_check_places ["places"]) (c2 : ∃ t, mg "FEWEST_PLACES" = some (.int 2 t)) (c5 : ∃ t, mg "MOST_PLACES" = some (.int 5 t)) (C3 : CalX P w K mg base 3 "check_number" (spCheckNumX K C)) :
    CalX P w K mg base 4 "check_places" (spCheckPlacesX K C) := by
  refine mkCalX F sc_check_places (fun vs H Q E h => ?_) (fun f cdv A outer s H vs Q E hr h => ?_)
  · obtain ⟨v, rfl, _⟩ := h
    rfl
  · obtain ⟨v, rfl, hv, q1, q2⟩ := h
    exact ⟨_, pss_one (ps_expr (pcX C3 passE hr (pa_cons (pv 0) (pa_cons (pk c2) (pa_cons (pk c5) pa_nil))))), _, rfl, v, rfl, hv, q1, q2⟩
end
end RH
set_option Elab.async false
set_option linter.all false
set_option maxRecDepth 100000
set_option maxHeartbeats 2000000
namespace RH
open PySem PySem.Spec PyProof.Rows L2
/-! ### instructions, of whatever kind -/
/-- a tuple of texts among the module's names -/
def CTup (K : PySem.W.Frag) (mg : Str → Option Value) (x : Str) (zs : List Str) : Prop := ∃ (a : Addr) (o : Obj) (its : Array Value) (n : Nat), mg x = some (.ref a) ∧ K.lookup a = some o ∧ o.cls = .type "tuple" ∧ o.data = .seq its n ∧ its.size ≤ sizeLine ∧ Vals (zs.map V.str) its.toList
theorem CTup.at {K : PySem.W.Frag} {mg : Str → Option Value} {x : Str} {zs : List Str} (h : CTup K mg x zs) : ∃ a : Addr, mg x = some (.ref a) ∧ ∀ H, SqT K H a (zs.map V.str) := by
  obtain ⟨a, o, its, n, h1, h2, h3, h4, h5, h6⟩ := h
  exact ⟨a, h1, fun H => .inr ⟨o, its, n, h2, h3, h4, h5, h6⟩⟩
def bareZ : List Str := ["say", "ask", "stop"]
def jumpZ : List Str := ["zero", "go"]
def accZ : List Str := ["get", "set", "plus", "minus"]
def inZ (w : Str) (zs : List Str) : Bool := inV (.str w) (zs.map V.str)
/-- is it an instruction? -/
def insW (p cnt : Int) (rl : Bool) : Option (List V) → Bool
  | some [.str w] => inZ w bareZ
  | some [.str w, v] => !inZ w bareZ && (if inZ w jumpZ then inV2 0 cnt v else if w == "put" then inV2 (-1000000) 1000000 v else (inZ w accZ || (w == "touch" && rl)) && inV2 0 (p - 1) v)
  | _ => false
theorem row12 {xs : List V} (h : rowW 1 2 (some xs) = true) : (∃ x, xs = [x]) ∨ ∃ x y, xs = [x, y] := by
  match xs with
  | [] => cases h
  | [x] => exact .inl ⟨x, rfl⟩
  | [x, y] => exact .inr ⟨x, y, rfl⟩
  | x :: y :: z :: r =>
    have h : (decide ((1 : Int) ≤ ((x :: y :: z :: r).length : Int)) && decide (((x :: y :: z :: r).length : Int) ≤ 2)) = true := h
    rw [Bool.and_eq_true, decide_eq_true_iff, decide_eq_true_iff] at h
    have := h.2
    simp only [List.length_cons] at this
    omega
def isS : V → Bool
  | .str _ => true
  | _ => false
section
variable {P : Program} {w : World} {K : PySem.W.Frag} {mg : Str → Option Value} {base : Heap} {Cb Cl Cp Cw Cn Cg Cs : Addr}
def spIsInsW (K : PySem.W.Frag) : Sp := fun vs H Q _ => ∃ (v : V) (wo : Option (List V)) (p cnt : Int) (rl : Bool), vs = [v, .int p, .int cnt, .bl rl] ∧ Wd K H v wo ∧ Q (.bl (insW p cnt rl wo)) H
theorem ok_is_insW (F : Df K mg "is_instruction" st_is_instruction ["value", "places", "count", "is_restless"]) (B : Bu mg) (bare : CTup K mg "BARE" bareZ) (jump : CTup K mg "JUMPS" jumpZ) (acc : CTup K mg "ACCESSES" accZ) (great : ∃ t, mg "GREATEST" = some (.int 1000000 t))
    (C1 : Cal P w K mg base 1 "is_row" (spIsRowW K)) (C2 : Cal P w K mg base 2 "is_number" (spIsNumberW K)) (C3 : Cal P w K mg base 3 "is_place" (spIsPlaceW K)) : Cal P w K mg base 4 "is_instruction" (spIsInsW K) := by
  obtain ⟨ab, gb, hb⟩ := bare.at
  obtain ⟨aj, gj, hj⟩ := jump.at
  obtain ⟨aa, ga, ha⟩ := acc.at
  refine mkCal F sc_is_instruction (fun vs H Q E h => ?_) (fun f cdv A outer s H vs Q E hr h => ?_)
  · obtain ⟨v, wo, p, cnt, rl, rfl, _⟩ := h
    rfl
  · obtain ⟨v, wo, p, cnt, rl, rfl, hw, q⟩ := h
    refine ⟨_, pss_cons (ps_if (PW.pt (pw_or (pt_not (pt_val (pc C1 hr (pa_cons (pv 0) (pa_cons pe_int (pa_cons pe_int pa_nil)))))) (pw_or1 (pt_not (pt_val (pe_callB call_isi (by rfl) B.isi (by decide +kernel) (pa_cons (pe_ix (ixT K) (pv 0) pe_int (fun _ _ => rfl)) (pa_cons (pe_bltn (v := .ty "str") (by rfl) B.str (by decide +kernel) rfl) pa_nil)))))))) (pss_one (ps_ret pe_bl)) pss_nil)
      (pss_cons (ps_set (i := 4) sc_is_instruction.nd rfl (.inl rfl) (pe_ix (ixT K) (pv 0) pe_int (fun _ _ => rfl)))
      (pss_cons (ps_if (pt_cmpR (opIn K) (pv 4) (pe_glob (v := .ref ab) (by rfl) gb (by rfl)) rfl) (pss_one (ps_ret (pe_cmpR op_eq (pe_callB (cl_len K) (by rfl) B.len PySem.boot_len (pa_cons (pv 0) pa_nil)) pe_int (nomark _)))) pss_nil)
      (pss_cons (ps_if (pt_cmpR op_eq (pe_callB (cl_len K) (by rfl) B.len PySem.boot_len (pa_cons (pv 0) pa_nil)) pe_int (nomark _)) (pss_one (ps_ret pe_bl)) pss_nil)
      (pss_cons (ps_if (pt_cmpR (opIn K) (pv 4) (pe_glob (v := .ref aj) (by rfl) gj (by rfl)) rfl) (pss_one (ps_ret (pc C2 hr (pa_cons (pe_ix (ixT K) (pv 0) pe_int (fun _ _ => rfl)) (pa_cons pe_int (pa_cons (pv 2) pa_nil)))))) pss_nil)
      (pss_cons (ps_if (pt_cmpR op_eq (pv 4) pe_str (nomark _)) (pss_one (ps_ret (pc C2 hr (pa_cons (pe_ix (ixT K) (pv 0) pe_int (fun _ _ => rfl)) (pa_cons (pe_un un_neg (pk great)) (pa_cons (pk great) pa_nil)))))) pss_nil)
      (pss_cons (ps_if (PW.pt (pw_or (pt_cmpR (opIn K) (pv 4) (pe_glob (v := .ref aa) (by rfl) ga (by rfl)) rfl) (pw_or1 (PW.pt (pw_and (pt_cmpR op_eq (pv 4) pe_str (nomark _)) (pw_and1 (pt_val (pv 3)))))))) (pss_one (ps_ret (pc C3 hr (pa_cons (pe_ix (ixT K) (pv 0) pe_int (fun _ _ => rfl)) (pa_cons (pv 1) pa_nil))))) pss_nil)
      (pss_one (ps_ret pe_bl)))))))), ?_⟩
    refine ⟨_, rfl, v, wo, 1, 2, rfl, hw.t, _, rfl, ?_⟩
    cases er : rowW 1 2 wo with
    | false =>
      refine ifT (by rfl) (ifT rfl ?_)
      have : insW p cnt rl wo = false := by
        cases wo with
        | none => rfl
        | some xs =>
          match xs with
          | [] => rfl
          | [x] => cases er
          | [x, y] => cases er
          | x :: y :: z :: r =>
            cases x <;> rfl
      rw [this] at q
      exact q
    | true =>
      refine ifF (by rfl) ?_
      obtain ⟨ht, hsw, hlen⟩ := hw
      cases ht with
      | @tup a xs hS =>
        have main : ∀ x, xs[0]? = some x → Sw K H x → (isS x = false → insW p cnt rl (some xs) = false) := fun x hx _ hs => by
          match xs, hx with
          | [y], hx => cases Option.some.inj hx; cases x <;> first | rfl | cases hs
          | [y, z], hx => cases Option.some.inj hx; cases x <;> first | rfl | cases hs
          | y :: z :: t :: r, hx => cases Option.some.inj hx; cases x <;> first | rfl | cases hs
        obtain ⟨x, hx⟩ : ∃ x, xs[0]? = some x := by
          rcases row12 er with ⟨x, rfl⟩ | ⟨x, y, rfl⟩ <;> exact ⟨x, rfl⟩
        have hsx := hsw xs rfl x (List.mem_of_getElem? hx)
        refine ⟨_, rfl, a, xs, 0, x, rfl, rfl, hS, atI_nat (j := 0) hx, ?_⟩
        have no : ∀ k, isS x = k → k = false → insW p cnt rl (some xs) = false := fun k e1 e2 => main x hx hsx (e1.trans e2)
        cases hsx with
        | int i => exact ⟨.int i, .ty "str", _, _, false, rfl, .ty "str", .base (.int i), kit_ty (by decide +kernel), _, rfl, ifT rfl (by rw [no _ rfl rfl] at q; exact q)⟩
        | bl b => exact ⟨.bl b, .ty "str", _, _, false, rfl, .ty "str", .base (.bl b), kit_ty (by decide +kernel), _, rfl, ifT rfl (by rw [no _ rfl rfl] at q; exact q)⟩
        | non => exact ⟨.non, .ty "str", _, _, false, rfl, .ty "str", .base .non, kit_ty (by decide +kernel), _, rfl, ifT rfl (by rw [no _ rfl rfl] at q; exact q)⟩
        | @tup a2 xs2 h => exact ⟨.ref a2, .ty "str", _, _, false, rfl, .ty "str", ty_tup h, kit_ty (by decide +kernel), _, rfl, ifT rfl (by rw [no _ rfl rfl] at q; exact q)⟩
        | @lst a2 xs2 h => exact ⟨.ref a2, .ty "str", _, _, false, rfl, .ty "str", ty_lst h, kit_ty (by decide +kernel), _, rfl, ifT rfl (by rw [no _ rfl rfl] at q; exact q)⟩
        | str z =>
          refine ⟨.str z, .ty "str", _, _, true, rfl, .ty "str", .base (.str z), kit_ty (by decide +kernel), _, rfl, ifF rfl ?_⟩
          refine ⟨_, rfl, a, xs, 0, .str z, rfl, rfl, hS, atI_nat (j := 0) hx, ?_⟩
          refine ⟨_, rfl, ab, _, rfl, .inr (hb _), rfl, by decide, _, rfl, ?_⟩
          rcases row12 er with ⟨x, rfl⟩ | ⟨x, y, rfl⟩
          · cases Option.some.inj hx
            have q : Q (.bl (inZ z bareZ)) H := q
            cases e1 : inZ z bareZ with
            | true =>
              rw [e1] at q
              exact ifT e1 ⟨_, rfl, a, _, rfl, .inr hS, rfl, q⟩
            | false =>
              rw [e1] at q
              exact ifF e1 ⟨_, rfl, a, _, rfl, .inr hS, rfl, _, rfl, ifT rfl q⟩
          · cases Option.some.inj hx
            have hsy := hsw _ rfl y (List.mem_cons_of_mem _ (List.mem_cons_self ..))
            have q : Q (.bl (!inZ z bareZ && (if inZ z jumpZ then inV2 0 cnt y else if z == "put" then inV2 (-1000000) 1000000 y else (inZ z accZ || (z == "touch" && rl)) && inV2 0 (p - 1) y))) H := q
            cases e1 : inZ z bareZ with
            | true =>
              rw [e1] at q
              exact ifT e1 ⟨_, rfl, a, _, rfl, .inr hS, rfl, q⟩
            | false =>
              rw [e1, Bool.not_false, Bool.true_and] at q
              refine ifF e1 ⟨_, rfl, a, _, rfl, .inr hS, rfl, _, rfl, ifF rfl ?_⟩
              refine ⟨_, rfl, aj, _, rfl, .inr (hj _), rfl, by decide, _, rfl, ?_⟩
              cases e2 : inZ z jumpZ with
              | true =>
                rw [e2, if_pos rfl] at q
                exact ifT e2 ⟨_, rfl, a, _, 1, y, rfl, rfl, hS, rfl, _, rfl, y, 0, cnt, rfl, hsy, q⟩
              | false =>
                rw [e2, if_neg (by decide)] at q
                refine ifF e2 ⟨_, rfl, rfl, _, rfl, ?_⟩
                rw [dec_str]
                cases e3 : z == "put" with
                | true =>
                  rw [e3, if_pos rfl] at q
                  exact ifT rfl ⟨_, rfl, a, _, 1, y, rfl, rfl, hS, rfl, 1000000, rfl, y, -1000000, 1000000, rfl, hsy, q⟩
                | false =>
                  rw [e3, if_neg (by decide)] at q
                  refine ifF rfl ⟨_, rfl, aa, _, rfl, .inr (ha _), rfl, by decide, _, rfl, ?_⟩
                  have yes : (inZ z accZ || (z == "touch" && rl)) = true → tRet (tCall (spIsPlaceW K) [] E0 (tCons (tOp (rIxT K) (tVar 0) (tC (V.int 1))) (tCons (tVar 1) tNil))) { nx := fun _ H' => Q .non H', rt := Q } [some (.ref a), some (.int p), some (.int cnt), some (.bl rl), some (.str z)] H := fun e => by
                    rw [e, Bool.true_and] at q
                    exact ⟨_, rfl, a, _, 1, y, rfl, rfl, hS, rfl, _, rfl, y, p, rfl, hsy, q⟩
                  cases e4 : inZ z accZ with
                  | true => exact ifT e4 (yes (by rw [e4]; rfl))
                  | false =>
                    refine ifF e4 ⟨_, rfl, rfl, _, rfl, ?_⟩
                    rw [dec_str]
                    cases e5 : z == "touch" with
                    | false =>
                      rw [e4, e5] at q
                      exact ifF rfl q
                    | true =>
                      refine ifT rfl ⟨_, rfl, _, rfl, ?_⟩
                      cases rl with
                      | true => exact yes (by rw [e4, e5]; rfl)
                      | false =>
                        rw [e4, e5] at q
                        exact q
      | _ => cases er
end
end RH
set_option Elab.async false
set_option linter.all false
set_option maxRecDepth 100000
set_option maxHeartbeats 2000000
namespace RH
open PySem PySem.Spec PyProof.Rows L2
/-! ### programs, of whatever kind -/
section
variable {P : Program} {w : World} {K : PySem.W.Frag} {mg : Str → Option Value} {base : Heap} {Cb Cl Cp Cw Cn Cg Cs : Addr}
/-- the index that BadProgram tells, if it is none -/
def pgBad (p most : Int) (rl : Bool) : Option (List (Option (List V))) → Option V
  | none => some .non
  | some wos => if (decide ((1 : Int) ≤ (wos.length : Int)) && decide ((wos.length : Int) ≤ most)) = true then (wos.findIdx? fun wo => !insW p wos.length rl wo).map (fun i => V.int (i : Nat)) else some .non
def spCheckProgX (K : PySem.W.Frag) (C : Addr) : Sp := fun vs H Q E => ∃ (v : V) (ho : Option (List (Option (List V)))) (p most : Int) (rl : Bool), vs = [v, .int p, .int most, .bl rl] ∧ Hk K H v ho ∧ (pgBad p most rl ho = none → ∀ H', Same H H' → Q .non H') ∧ (∀ pl, pgBad p most rl ho = some pl → plV pl ∧ bhE C "index" pl H E)
theorem ok_check_programX {C : Addr} (F : Df K mg "check_program" st_check_program ["program", "places", "most", "is_restless"]) (B : Bu mg) (T : BhX P w K mg base "BadProgram" "index" C (spBI "index" C)) (C1 : Cal P w K mg base 1 "is_row" (spIsRowW K)) (C4 : Cal P w K mg base 4 "is_instruction" (spIsInsW K)) :
    CalX P w K mg base 5 "check_program" (spCheckProgX K C) := by
  refine mkCalX F sc_check_program (fun vs H Q E h => ?_) (fun f cdv A outer s H vs Q E hr h => ?_)
  · obtain ⟨v, ho, p, most, rl, rfl, _⟩ := h
    rfl
  · obtain ⟨v, ho, p, most, rl, rfl, hk, q1, q2⟩ := h
    obtain ⟨fI, fdI, FI, iC, tI, bI⟩ := T.f
    refine ⟨_, pss_cons (ps_if (pt_not (pt_val (pc C1 hr (pa_cons (pv 0) (pa_cons pe_int (pa_cons (pv 2) pa_nil)))))) (pss_one (ps_raise rfl takesE (pmk_oex T.t iC tI FI (hr.mono (by decide)) bI .nil pass0 rfl T.g (pa_cons pe_non pa_nil)))) pss_nil)
      (pss_one (ps_for (passes_of rfl) rfl (pi_enumT (by rfl) B.enumerate (pa_cons (pv 0) pa_nil)) (pg_tup rfl (pgs_cons (pg_name (i := 4) sc_check_program.nd rfl (.inl rfl)) (pgs_cons (pg_name (i := 5) sc_check_program.nd rfl (.inl rfl)) pgs_nil)))
        (pss_one (ps_if (pt_not (pt_val (pc C4 hr (pa_cons (pv 5) (pa_cons (pv 1) (pa_cons (pe_callB (cl_len K) (by rfl) B.len PySem.boot_len (pa_cons (pv 0) pa_nil)) (pa_cons (pv 3) pa_nil))))))) (pss_one (ps_raise rfl takesE (pmk_oex T.t iC tI FI (hr.mono (by decide)) bI .nil pass0 rfl T.g (pa_cons (pv 4) pa_nil)))) pss_nil)))), ?_⟩
    have none_ : ∀ {H1 : Hp}, Same H H1 → pgBad p most rl ho = some .non → ∀ d, H1 d = none → E (.ref C) (some d) (upd H1 d (.xd [("index", .non)])) := fun {H1} s1 e d hd => (q2 _ e).2 d _ (s1.trans (same_new hd)) upd_same
    cases hk with
    | @no v ht => exact ⟨_, rfl, _, rfl, v, none, 1, most, rfl, ht, _, rfl, ifT rfl (bh_made (.inl rfl) (none_ (Same.refl H) rfl))⟩
    | @tup a xs wos hS hE =>
      have hlen := hE.len
      refine ⟨_, rfl, _, rfl, .ref a, some xs, 1, most, rfl, .tup hS, _, rfl, ?_⟩
      have er : rowW 1 most (some xs) = (decide ((1 : Int) ≤ (wos.length : Int)) && decide ((wos.length : Int) ≤ most)) := by
        show (decide ((1 : Int) ≤ (xs.length : Int)) && decide ((xs.length : Int) ≤ most)) = _
        rw [hlen]
      rw [er]
      cases hc : (decide ((1 : Int) ≤ (wos.length : Int)) && decide ((wos.length : Int) ≤ most)) with
      | false =>
        refine ifT rfl (bh_made (.inl rfl) (none_ (Same.refl H) ?_))
        unfold pgBad
        dsimp only
        rw [hc]
        rfl
      | true =>
        refine ifF rfl ?_
        refine ⟨_, rfl, a, xs, rfl, hS, ?_⟩
        refine for_enumT (xs := xs) (fun i σ H' => Same H H' ∧ (∀ j wo, j < i → wos[j]? = some wo → insW p wos.length rl wo = true) ∧ ∃ y1 y2, σ = [some (.ref a), some (.int p), some (.int most), some (.bl rl), y1, y2]) ⟨Same.refl H, fun j wo hj => absurd hj (Nat.not_lt_zero _), none, none, rfl⟩ (fun i σ H' h' => onT h'.1 hS) (fun i x T σ H' hx h' hT => ?_) (fun σ H' h' => q1 ?_ H' h'.1)
        · obtain ⟨sm, old, y1, y2, rfl⟩ := h'
          obtain ⟨wo, hwo, hTx⟩ := hE.at hx
          have sT : Same H (upd H' T (.tup [.int (i : Nat), x])) := sm.trans (same_new hT)
          refine ⟨T, _, rfl, tupAt upd_same, rfl, _, _, rfl, _, _, rfl, rfl, _, rfl, _, rfl, _, rfl, a, xs, rfl, .inr (onT sT hS), _, rfl, x, wo, p, (wos.length : Int), rl, by rw [hlen]; rfl, hTx.on sT, _, rfl, ?_⟩
          cases hl : insW p wos.length rl wo with
          | true =>
            refine ifF rfl ⟨sT, fun j wo' hj e => ?_, _, _, rfl⟩
            rcases Nat.lt_succ_iff_lt_or_eq.mp hj with hj | rfl
            · exact old j wo' hj e
            · rw [hwo] at e
              cases e
              exact hl
          | false =>
            refine ifT rfl ⟨_, rfl, ?_⟩
            have hi : i < wos.length := (List.getElem?_eq_some_iff.mp hwo).1
            have e : pgBad p most rl (some wos) = some (.int (i : Nat)) := by
              unfold pgBad
              dsimp only
              rw [if_pos hc]
              have : (wos.findIdx? fun wo => !insW p wos.length rl wo) = some i := by
                rw [List.findIdx?_eq_some_iff_getElem]
                refine ⟨hi, ?_, fun j hj => ?_⟩
                · rw [(List.getElem?_eq_some_iff.mp hwo).2, hl]
                  rfl
                · rw [old j _ hj (List.getElem?_eq_getElem _)]
                  decide
              rw [this]
              rfl
            exact bh_made (q2 _ e).1 fun d hd => (q2 _ e).2 d _ (sT.trans (same_new hd)) upd_same
        · unfold pgBad
          dsimp only
          rw [if_pos hc]
          have : (wos.findIdx? fun wo => !insW p wos.length rl wo) = none := by
            rw [List.findIdx?_eq_none_iff]
            intro wo hm
            obtain ⟨j, hj⟩ := List.mem_iff_getElem?.mp hm
            rw [h'.2.1 j wo (by rw [hlen]; exact (List.getElem?_eq_some_iff.mp hj).1) hj]
            rfl
          rw [this]
          rfl
def spCheckPg2 (K : PySem.W.Frag) (C : Addr) (most : Int) (rl : Bool) : Sp := fun vs H Q E => ∃ (v : V) (ho : Option (List (Option (List V)))) (p : Int), vs = [v, .int p] ∧ Hk K H v ho ∧ (pgBad p most rl ho = none → ∀ H', Same H H' → Q .non H') ∧ (∀ pl, pgBad p most rl ho = some pl → plV pl ∧ bhE C "index" pl H E)
theorem ok_check_restlessX {C : Addr} (F : Df K mg "check_restless" st_check_restless ["program", "places"]) (c4000 : ∃ t, mg "MOST_RESTLESS" = some (.int 4000 t)) (CP : CalX P w K mg base 5 "check_program" (spCheckProgX K C)) : CalX P w K mg base 6 "check_restless" (spCheckPg2 K C 4000 true) := by
  refine mkCalX F sc_check_restless (fun vs H Q E h => ?_) (fun f cdv A outer s H vs Q E hr h => ?_)
  · obtain ⟨v, ho, p, rfl, _⟩ := h
    rfl
  · obtain ⟨v, ho, p, rfl, hk, q1, q2⟩ := h
    exact ⟨_, pss_one (ps_expr (pcX CP passE hr (pa_cons (pv 0) (pa_cons (pv 1) (pa_cons (pk c4000) (pa_cons pe_bl pa_nil)))))), _, rfl, _, rfl, v, ho, p, 4000, true, rfl, hk, q1, q2⟩
theorem ok_check_stillX {C : Addr} (F : Df K mg "check_still" st_check_still ["program", "places"]) (c200 : ∃ t, mg "MOST_STILL" = some (.int 200 t)) (CP : CalX P w K mg base 5 "check_program" (spCheckProgX K C)) : CalX P w K mg base 6 "check_still" (spCheckPg2 K C 200 false) := by
  refine mkCalX F sc_check_still (fun vs H Q E h => ?_) (fun f cdv A outer s H vs Q E hr h => ?_)
  · obtain ⟨v, ho, p, rfl, _⟩ := h
    rfl
  · obtain ⟨v, ho, p, rfl, hk, q1, q2⟩ := h
    exact ⟨_, pss_one (ps_expr (pcX CP passE hr (pa_cons (pv 0) (pa_cons (pv 1) (pa_cons (pk c200) (pa_cons pe_bl pa_nil)))))), _, rfl, _, rfl, v, ho, p, 200, false, rfl, hk, q1, q2⟩
/-- no places, or no program -/
def spPg (K : PySem.W.Frag) (Cn Cg : Addr) (most : Int) (rl : Bool) : Sp := fun vs H Q E => ∃ v1 v2, vs = [v1, v2] ∧ Sw K H v1 ∧ ((inV2 2 5 v1 = false ∧ noE Cn H E) ∨ ∃ (n : Int) (ho : Option (List (Option (List V)))) (pl : V), v1 = .int n ∧ inV2 2 5 v1 = true ∧ Hk K H v2 ho ∧ pgBad n most rl ho = some pl ∧ plV pl ∧ bhE Cg "index" pl H E)
end
end RH
set_option Elab.async false
set_option linter.all false
set_option maxRecDepth 100000
set_option maxHeartbeats 2000000
namespace RH
open PySem PySem.Spec PyProof.Rows L2
/-! ### instructions, and what a machine does -/
inductive Ins where
  | say | ask | stop
  | put (c : Int) | zero (t : Nat) | go (t : Nat)
  | get (k : Nat) | set (k : Nat) | plus (k : Nat) | minus (k : Nat) | touch (k : Nat)
deriving DecidableEq
def Ins.word : Ins → Str
  | .say => "say" | .ask => "ask" | .stop => "stop" | .put _ => "put" | .zero _ => "zero" | .go _ => "go"
  | .get _ => "get" | .set _ => "set" | .plus _ => "plus" | .minus _ => "minus" | .touch _ => "touch"
def Ins.num : Ins → List Int
  | .say => [] | .ask => [] | .stop => [] | .put c => [c] | .zero t => [(t : Int)] | .go t => [(t : Int)]
  | .get k => [(k : Int)] | .set k => [(k : Int)] | .plus k => [(k : Int)] | .minus k => [(k : Int)] | .touch k => [(k : Int)]
/-- the place of an access or a touch -/
def Ins.pl : Ins → Option Nat
  | .get k => some k | .set k => some k | .plus k => some k | .minus k => some k | .touch k => some k
  | _ => none
def RIns (K : PySem.W.Frag) (H : Hp) (v : V) (i : Ins) : Prop := ∃ a, v = .ref a ∧ SqT K H a (.str i.word :: i.num.map V.int)
def RPg (K : PySem.W.Frag) (H : Hp) (v : V) (pg : List Ins) : Prop := ∃ a xs, v = .ref a ∧ SqT K H a xs ∧ Each (RIns K H) xs pg
/-- an instruction of so many places and instructions -/
def okIns (n cnt : Nat) : Ins → Prop
  | .zero t => t ≤ cnt
  | .go t => t ≤ cnt
  | .get k => k < n | .set k => k < n | .plus k => k < n | .minus k => k < n | .touch k => k < n
  | _ => True
structure MS where
  asked : Nat
  hold : List Int
  hand : Int
  pos : Nat
  said : List Int
/-- the books are moved -/
def bm (m held : List Int) : List Int := (List.range m.length).foldl (fun c i => c.set (m.getD i 0).toNat (held.getD i 0)) held
def MS.moved (h : List (List Int)) (k : Nat) (s : MS) : MS := { s with hold := bm (h.getD k []) s.hold }
/-- an access or a touch -/
def useM (h : List (List Int)) (i : Ins) (s : MS) : MS := match i with
  | .get k => MS.moved h k { s with hand := s.hold.getD k 0 }
  | .plus k => MS.moved h k { s with hand := s.hand + s.hold.getD k 0 }
  | .minus k => MS.moved h k { s with hand := s.hand - s.hold.getD k 0 }
  | .set k => MS.moved h k { s with hold := s.hold.set k s.hand }
  | .touch k => MS.moved h k s
  | _ => s
/-- one instruction -/
def stepM (h : List (List Int)) (inp : List Int) (i : Ins) (s0 : MS) : MS :=
  let s := { s0 with pos := s0.pos + 1 }
  match i with
  | .go t => { s with pos := t }
  | .zero t => if s.hand = 0 then { s with pos := t } else s
  | .put c => { s with hand := c }
  | .say => { s with said := s.said ++ [s.hand] }
  | .ask => if s.asked = inp.length then { s with hand := 0 } else { s with asked := s.asked + 1, hand := inp.getD s.asked 0 }
  | i => useM h i s
/-- is it at a stop, or at the end? -/
def endM (pg : List Ins) (pos : Nat) : Bool := match pg[pos]? with
  | none => true
  | some i => decide (i = .stop)
/-- so many instructions -/
def runM (h : List (List Int)) (inp : List Int) (pg : List Ins) : Nat → MS → MS
  | 0, s => s
  | m + 1, s => match pg[s.pos]? with
    | none => s
    | some i => if i = .stop then s else runM h inp pg m (stepM h inp i s)
def startM (n : Nat) : MS := ⟨0, List.replicate n 0, 0, 0, []⟩
theorem bm_len (m held : List Int) : (bm m held).length = held.length := by
  unfold bm
  generalize List.range m.length = l
  suffices h : ∀ (l : List Nat) (c : List Int), (l.foldl (fun c i => c.set (m.getD i 0).toNat (held.getD i 0)) c).length = c.length from h l held
  intro l
  induction l with
  | nil => intro c; rfl
  | cons x l ih =>
    intro c
    rw [List.foldl_cons, ih, List.length_set]
/-- an instruction's data -/
def Ins.data (i : Ins) : PyData := .tuple (.str i.word :: i.num.map PyData.int)
theorem RIns.dp {K : PySem.W.Frag} {H : Hp} {v : V} {i : Ins} (r : RIns K H v i) : Dp K H v i.data := by
  obtain ⟨a, rfl, hS⟩ := r
  refine .tup hS (.cons (.str _) ?_)
  cases i <;> first | exact .nil | exact .cons (.int _) .nil
theorem word_ok (i : Ins) : PyData.strOk i.word = true := by
  have w : ∀ z ∈ (["say", "ask", "stop", "put", "zero", "go", "get", "set", "plus", "minus", "touch"] : List Str), PyData.strOk z = true := by decide +kernel
  cases i <;> exact w _ (by simp [Ins.word])
theorem Ins.shaped (i : Ins) : SeqAt.shaped i.data = true := by
  have h := word_ok i
  cases i <;> (unfold Ins.data; simp [Ins.num, SeqAt.shaped, PyData.canLay0, PyData.canLayAll0, PyData.depth, PyData.depthAll]; exact h)
theorem Ins.stop_eq (i : Ins) : PyData.eqv i.data (.tuple [.str "stop"]) = decide (i = .stop) := by
  cases i <;> first | decide +kernel | rfl
theorem RIns.on {K : PySem.W.Frag} {H H' : Hp} (e : Tups K H H') {v : V} {i : Ins} (r : RIns K H v i) : RIns K H' v i := by
  obtain ⟨a, rfl, hS⟩ := r
  exact ⟨a, rfl, e _ _ hS⟩
theorem RPg.on {K : PySem.W.Frag} {H H' : Hp} (e : Tups K H H') {v : V} {pg : List Ins} (r : RPg K H v pg) : RPg K H' v pg := by
  obtain ⟨a, xs, rfl, hS, hE⟩ := r
  exact ⟨a, xs, rfl, e _ _ hS, hE.imp fun _ _ z => z.on e⟩
end RH
set_option Elab.async false
set_option linter.all false
set_option maxRecDepth 100000
set_option maxHeartbeats 2000000
namespace RH
open PySem PySem.Spec PyProof.Rows L2
/-! ### the class Machine -/
theorem cl_listM {X : Cx} (K : PySem.W.Frag) (h : X.K = K := by rfl) : CallR X (.type "list") (fun xs H Q => ∃ p ys, xs = [.ref p] ∧ (SqL K H p ys ∨ SqT K H p ys) ∧ ∀ l, H l = none → Q (.ref l) (upd H l (.lst ys))) := by
  subst h
  exact call_list_of
theorem putF_len {f : Str} {v : V} : ∀ {fs : List (Str × V)} {u : V}, fs.lookup f = some u → (putF f v fs).length = fs.length
  | [], u, h => by cases h
  | (g, x) :: r, u, h => by
    rw [List.lookup_cons] at h
    unfold putF
    by_cases e : g = f
    · rw [if_pos e]
      rfl
    · rw [if_neg e, List.length_cons, List.length_cons]
      have : (f == g) = false := by simpa using Ne.symm e
      rw [this] at h
      rw [putF_len h]
def maAttrs : List Str := ["habit", "program", "inputs", "asked", "holding", "hand", "at", "said"]
def maMets : List Str := ["is_done", "step", "next_input", "use", "be_moved"]
/-- what the walk asks of the class -/
structure MaC (K : PySem.W.Frag) (mg : Str → Option Value) (C : Addr) : Prop where
  cl : Cls K C
  no : ∀ f ∈ maAttrs, NoAttr K C f
  g : mg "Machine" = some (.ref C)
theorem MaC.at {K : PySem.W.Frag} {mg : Str → Option Value} {C : Addr} (M : MaC K mg C) (f : Str) (h : f ∈ maAttrs := by decide +kernel) : NoAttr K C f := M.no f h
/-- the machine's parts that never change -/
structure MaK where
  h : List (List Int)
  n : Nat
  pg : List Ins
  inp : List Int
  hv : V
  pv : V
  iv : V
/-- a machine at p, its books at hl, what it has said at sl -/
structure MaP (K : PySem.W.Frag) (C : Addr) (m : MaK) (H : Hp) (p hl sl dx : Addr) (fs : List (Str × V)) (b : Nat) (s : MS) : Prop where
  ob : H p = some (.ins C dx fs)
  l1 : fs.lookup ("habit" : Str) = some m.hv
  l2 : fs.lookup ("program" : Str) = some m.pv
  l3 : fs.lookup ("inputs" : Str) = some m.iv
  l4 : fs.lookup ("asked" : Str) = some (.int s.asked)
  l5 : fs.lookup ("holding" : Str) = some (.ref hl)
  l6 : fs.lookup ("hand" : Str) = some (.int s.hand)
  l7 : fs.lookup ("at" : Str) = some (.int s.pos)
  l8 : fs.lookup ("said" : Str) = some (.ref sl)
  no : ∀ f ∈ maMets, fs.lookup f = none
  few : fs.length < 100
  hd : H hl = some (.lst (s.hold.map V.int))
  sd : H sl = some (.lst (s.said.map V.int))
  ne : hl ≠ sl
  hT : TII K H m.hv m.h
  hb : Hb m.n m.h
  len : s.hold.length = m.n
  hp : RPg K H m.pv m.pg
  ok : ∀ i ∈ m.pg, okIns m.n m.pg.length i
  hi : TI K H m.iv m.inp
  ps : s.pos ≤ m.pg.length
  asl : s.asked ≤ m.inp.length
  sb : s.said.length ≤ b
  bb : b ≤ 200000
def MaS (K : PySem.W.Frag) (C : Addr) (m : MaK) (H : Hp) (p hl sl : Addr) (b : Nat) (s : MS) : Prop := ∃ dx fs, MaP K C m H p hl sl dx fs b s
/-- the rest stays -/
def Fr3 (p t l : Addr) (H H' : Hp) : Prop := ∀ b o, H b = some o → b ≠ p → b ≠ t → b ≠ l → H' b = some o
theorem Fr3.refl (p t l : Addr) (H : Hp) : Fr3 p t l H H := fun _ _ e _ _ _ => e
theorem Fr3.trans {p t l : Addr} {H H1 H2 : Hp} (a : Fr3 p t l H H1) (b : Fr3 p t l H1 H2) : Fr3 p t l H H2 := fun c o e n1 n2 n3 => b c o (a c o e n1 n2 n3) n1 n2 n3
theorem Fr3.same {p t l : Addr} {H H1 : Hp} (a : Same H H1) : Fr3 p t l H H1 := fun c o e _ _ _ => a c o e
theorem Fr3.p {p t l : Addr} {H : Hp} {o : HO} : Fr3 p t l H (upd H p o) := fun b u e n1 _ _ => by rw [upd_ne n1]; exact e
theorem Fr3.t {p t l : Addr} {H : Hp} {o : HO} : Fr3 p t l H (upd H t o) := fun b u e _ n2 _ => by rw [upd_ne n2]; exact e
theorem Fr3.l {p t l : Addr} {H : Hp} {o : HO} : Fr3 p t l H (upd H l o) := fun b u e _ _ n3 => by rw [upd_ne n3]; exact e
section
variable {K : PySem.W.Frag} {C : Addr} {m : MaK} {H H' : Hp} {p hl sl dx : Addr} {fs : List (Str × V)} {b : Nat} {s : MS}
theorem MaP.rd (S : MaP K C m H p hl sl dx fs b s) (f : Fr3 p hl sl H H') {a : Addr} {xs : List V} (e : Rd H a (.tup xs)) : Rd H' a (.tup xs) := by
  rcases e with e | ⟨ob, e⟩
  · exact .inl (f _ _ e (ne_of e S.ob (fun z => nomatch z)) (ne_of e S.hd (fun z => nomatch z)) (ne_of e S.sd (fun z => nomatch z)))
  · exact .inr ⟨ob, f _ _ e (ne_of e S.ob (fun z => nomatch z)) (ne_of e S.hd (fun z => nomatch z)) (ne_of e S.sd (fun z => nomatch z))⟩
theorem MaP.tups (S : MaP K C m H p hl sl dx fs b s) (f : Fr3 p hl sl H H') : Tups K H H' := fun a xs e => by
  rcases e with e | e
  · exact .inl (S.rd f e)
  · exact .inr e
theorem MaP.npl (S : MaP K C m H p hl sl dx fs b s) : p ≠ hl := ne_of S.ob S.hd (fun z => nomatch z)
theorem MaP.nps (S : MaP K C m H p hl sl dx fs b s) : p ≠ sl := ne_of S.ob S.sd (fun z => nomatch z)
/-- all that is told of it in a heap where the three stand so -/
theorem MaP.to (S : MaP K C m H p hl sl dx fs b s) (f : Fr3 p hl sl H H') {dx' : Addr} {fs' : List (Str × V)} {b' : Nat} {s' : MS} (ob : H' p = some (.ins C dx' fs')) (l1 : fs'.lookup ("habit" : Str) = some m.hv) (l2 : fs'.lookup ("program" : Str) = some m.pv) (l3 : fs'.lookup ("inputs" : Str) = some m.iv)
    (l4 : fs'.lookup ("asked" : Str) = some (.int s'.asked)) (l5 : fs'.lookup ("holding" : Str) = some (.ref hl)) (l6 : fs'.lookup ("hand" : Str) = some (.int s'.hand)) (l7 : fs'.lookup ("at" : Str) = some (.int s'.pos)) (l8 : fs'.lookup ("said" : Str) = some (.ref sl)) (no : ∀ f ∈ maMets, fs'.lookup f = none) (few : fs'.length < 100)
    (hd : H' hl = some (.lst (s'.hold.map V.int))) (sd : H' sl = some (.lst (s'.said.map V.int))) (len : s'.hold.length = m.n) (ps : s'.pos ≤ m.pg.length) (asl : s'.asked ≤ m.inp.length) (sb : s'.said.length ≤ b') (bb : b' ≤ 200000) : MaP K C m H' p hl sl dx' fs' b' s' :=
  ⟨ob, l1, l2, l3, l4, l5, l6, l7, l8, no, few, hd, sd, S.ne, S.hT.on (S.tups f), S.hb, len, S.hp.on (S.tups f), S.ok, S.hi.on (S.tups f), ps, asl, sb, bb⟩
theorem MaP.same (S : MaP K C m H p hl sl dx fs b s) (e : Same H H') : MaP K C m H' p hl sl dx fs b s :=
  S.to (Fr3.same e) (e _ _ S.ob) S.l1 S.l2 S.l3 S.l4 S.l5 S.l6 S.l7 S.l8 S.no S.few (e _ _ S.hd) (e _ _ S.sd) S.len S.ps S.asl S.sb S.bb
theorem MaP.more (S : MaP K C m H p hl sl dx fs b s) {b' : Nat} (h : b ≤ b') (hb : b' ≤ 200000) : MaP K C m H p hl sl dx fs b' s := { S with sb := Nat.le_trans S.sb h, bb := hb }
theorem MaP.put_hand (S : MaP K C m H p hl sl dx fs b s) (z : Int) : MaP K C m (upd H p (.ins C dx (putF "hand" (.int z) fs))) p hl sl dx (putF "hand" (.int z) fs) b { s with hand := z } := by
  refine S.to Fr3.p upd_same ?_ ?_ ?_ ?_ ?_ ?_ ?_ ?_ (fun f hf => ?_) ?_ ?_ ?_ S.len S.ps S.asl S.sb S.bb
  · rw [lookup_putF, if_neg (by decide +kernel)]
    exact S.l1
  · rw [lookup_putF, if_neg (by decide +kernel)]
    exact S.l2
  · rw [lookup_putF, if_neg (by decide +kernel)]
    exact S.l3
  · rw [lookup_putF, if_neg (by decide +kernel)]
    exact S.l4
  · rw [lookup_putF, if_neg (by decide +kernel)]
    exact S.l5
  · rw [lookup_putF, if_pos rfl]
  · rw [lookup_putF, if_neg (by decide +kernel)]
    exact S.l7
  · rw [lookup_putF, if_neg (by decide +kernel)]
    exact S.l8
  · rw [lookup_putF, if_neg (fun e => ?_)]
    · exact S.no f hf
    · subst e
      exact absurd hf (by decide +kernel)
  · rw [putF_len S.l6]
    exact S.few
  · rw [upd_ne (Ne.symm S.npl)]
    exact S.hd
  · rw [upd_ne (Ne.symm S.nps)]
    exact S.sd
theorem MaP.put_at (S : MaP K C m H p hl sl dx fs b s) (z : Nat) (hz : z ≤ m.pg.length) : MaP K C m (upd H p (.ins C dx (putF "at" (.int (z : Int)) fs))) p hl sl dx (putF "at" (.int (z : Int)) fs) b { s with pos := z } := by
  refine S.to Fr3.p upd_same ?_ ?_ ?_ ?_ ?_ ?_ ?_ ?_ (fun f hf => ?_) ?_ ?_ ?_ S.len hz S.asl S.sb S.bb
  · rw [lookup_putF, if_neg (by decide +kernel)]
    exact S.l1
  · rw [lookup_putF, if_neg (by decide +kernel)]
    exact S.l2
  · rw [lookup_putF, if_neg (by decide +kernel)]
    exact S.l3
  · rw [lookup_putF, if_neg (by decide +kernel)]
    exact S.l4
  · rw [lookup_putF, if_neg (by decide +kernel)]
    exact S.l5
  · rw [lookup_putF, if_neg (by decide +kernel)]
    exact S.l6
  · rw [lookup_putF, if_pos rfl]
  · rw [lookup_putF, if_neg (by decide +kernel)]
    exact S.l8
  · rw [lookup_putF, if_neg (fun e => ?_)]
    · exact S.no f hf
    · subst e
      exact absurd hf (by decide +kernel)
  · rw [putF_len S.l7]
    exact S.few
  · rw [upd_ne (Ne.symm S.npl)]
    exact S.hd
  · rw [upd_ne (Ne.symm S.nps)]
    exact S.sd
theorem MaP.put_asked (S : MaP K C m H p hl sl dx fs b s) (z : Nat) (hz : z ≤ m.inp.length) : MaP K C m (upd H p (.ins C dx (putF "asked" (.int (z : Int)) fs))) p hl sl dx (putF "asked" (.int (z : Int)) fs) b { s with asked := z } := by
  refine S.to Fr3.p upd_same ?_ ?_ ?_ ?_ ?_ ?_ ?_ ?_ (fun f hf => ?_) ?_ ?_ ?_ S.len S.ps hz S.sb S.bb
  · rw [lookup_putF, if_neg (by decide +kernel)]
    exact S.l1
  · rw [lookup_putF, if_neg (by decide +kernel)]
    exact S.l2
  · rw [lookup_putF, if_neg (by decide +kernel)]
    exact S.l3
  · rw [lookup_putF, if_pos rfl]
  · rw [lookup_putF, if_neg (by decide +kernel)]
    exact S.l5
  · rw [lookup_putF, if_neg (by decide +kernel)]
    exact S.l6
  · rw [lookup_putF, if_neg (by decide +kernel)]
    exact S.l7
  · rw [lookup_putF, if_neg (by decide +kernel)]
    exact S.l8
  · rw [lookup_putF, if_neg (fun e => ?_)]
    · exact S.no f hf
    · subst e
      exact absurd hf (by decide +kernel)
  · rw [putF_len S.l4]
    exact S.few
  · rw [upd_ne (Ne.symm S.npl)]
    exact S.hd
  · rw [upd_ne (Ne.symm S.nps)]
    exact S.sd
theorem MaP.put_hold (S : MaP K C m H p hl sl dx fs b s) (f : But hl H H') {ns : List Int} (e : H' hl = some (.lst (ns.map V.int))) (hn : ns.length = m.n) : MaP K C m H' p hl sl dx fs b { s with hold := ns } :=
  S.to (fun c o ec n1 n2 n3 => f c o ec n2) (f _ _ S.ob S.npl) S.l1 S.l2 S.l3 S.l4 S.l5 S.l6 S.l7 S.l8 S.no S.few e (f _ _ S.sd (Ne.symm S.ne)) hn S.ps S.asl S.sb S.bb
theorem MaP.put_said (S : MaP K C m H p hl sl dx fs b s) {z : Int} (hb : b + 1 ≤ 200000) : MaP K C m (upd H sl (.lst (s.said.map V.int ++ [.int z]))) p hl sl dx fs (b + 1) { s with said := s.said ++ [z] } := by
  refine S.to Fr3.l (by rw [upd_ne S.nps]; exact S.ob) S.l1 S.l2 S.l3 S.l4 S.l5 S.l6 S.l7 S.l8 S.no S.few (by rw [upd_ne S.ne]; exact S.hd) ?_ S.len S.ps S.asl ?_ hb
  · rw [upd_same, List.map_append]
    rfl
  · have := S.sb
    show (s.said ++ [z]).length ≤ b + 1
    rw [List.length_append]
    show s.said.length + 1 ≤ b + 1
    omega
end
/-- a method of the class that stands -/
structure DfM (K : PySem.W.Frag) (C : Addr) (m q : Str) (st : Stmt) (ps : List Str) : Prop where
  ex : ∃ (f : Addr) (fd : FuncData), Fun K m q st f fd ∧ Meth K C m f ∧ Binds K fd ps []
section
variable {P : Program} {w : World} {K : PySem.W.Frag} {mg : Str → Option Value} {base : Heap} {C : Addr}
theorem mkMetX {m q : Str} {st : Stmt} {N ps : List Str} {k : Nat} {sp : Sp} (F : DfM K C m q st ps) (S : FnScope N ps (defScope st)) (len : ∀ vs H Q E, sp vs H Q E → vs.length = ps.length)
    (hbody : ∀ (f : Addr) (cdv : Value) (A : Around) (outer : List Env) (s : Shared) (H : Hp) (vs : List V) (Q : VK) (E : XK), Room k (A.deeper (envOfC q (defScope st) s.heap.objs.size f cdv)) → sp vs H Q E →
      ∃ t, PSs (cxOf (L2.CX P w) P w K mg base N q (defScope st) f cdv A outer s H E) (defBody st) t ∧ t { nx := fun _ H' => Q .non H', rt := Q } (start N vs) H) : MetX P w K mg base (k + 1) C m sp := by
  obtain ⟨f, fd, F, g, b⟩ := F.ex
  exact ⟨f, fd, ps, F.okX S len (hbody f), g, b⟩
end
section
variable {X : Cx} {C : Addr} {m : Str} {sp : Sp} {E : XK} {k j : Nat} {pos apos : Pos} {o : Expr} {ta : TE}
/-- a method that takes nothing -/
theorem pm0 {pl : Sem Bool} (M : MetX X.prog X.w X.K X.mg X.base k C m sp) (c : Cls X.K C) (hx : Passes (L2.CX X.prog X.w) X E) (hr : Room j X.A) (he : PE X o ta) (hk : k ≤ j := by decide)
    (ht : eval (.Call (.Attribute o m apos) [] [] pos) X.env = (do
      let ov ← eval o X.env
      standAt apos.atName
      let (f, first) ← holding [ov] (getMethod ov m pl)
      callWith pos f first (backTo pos (starEach [] X.env)) (backToKw pos (keywordEach [] X.env))) := by rfl) : PE X (.Call (.Attribute o m apos) [] [] pos) (tMeth C m sp [] E ta tNil) := by
  obtain ⟨f, fd, ps, F, hm, b⟩ := M.ex
  exact pe_meth0 he c hm F (hr.mono hk) b .nil hx ht
end
end RH
set_option Elab.async false
set_option linter.all false
set_option maxRecDepth 100000
set_option maxHeartbeats 2000000
namespace RH
open PySem PySem.Spec PyProof.Rows L2
/-! ### its methods -/
/-- a statement's way on, as the reading tells it -/
theorem ps_cutM {X : Cx} {st : Stmt} {t : TS} (h : PS X st t) : PS X st (fun D σ H => ∃ G : L2.St → Hp → Prop, (∀ σ' H', G σ' H' → D.nx σ' H') ∧ t { D with nx := G } σ H) := by
  refine ⟨fun pins s σ H D I hw => ?_⟩
  obtain ⟨G, hG, hw⟩ := hw
  refine thn (h.run pins s σ H { D with nx := G } I hw) fun fl s1 q => ?_
  cases fl with
  | next =>
    obtain ⟨σ', H', I', q⟩ := q
    exact ⟨σ', H', I', hG _ _ q⟩
  | ret v => exact q
  | brk => exact q
  | cont => exact q
theorem perm_len5 {n : Nat} {L : List Int} (h : L.Perm (rg n)) : L.length = n := by
  have := h.length_eq
  rw [this]
  unfold rg
  rw [List.length_map, List.length_range]
/-- ahead of the books' move -/
def midM (i : Ins) (s : MS) : MS := match i with
  | .get k => { s with hand := s.hold.getD k 0 }
  | .plus k => { s with hand := s.hand + s.hold.getD k 0 }
  | .minus k => { s with hand := s.hand - s.hold.getD k 0 }
  | .set k => { s with hold := s.hold.set k s.hand }
  | _ => s
theorem use_mid {h : List (List Int)} {i : Ins} {k : Nat} {s : MS} (e : i.pl = some k) : useM h i s = MS.moved h k (midM i s) := by
  cases i <;> first | (cases e; rfl) | cases e
def bmI (m held : List Int) (j : Nat) : List Int := (List.range j).foldl (fun c i => c.set (m.getD i 0).toNat (held.getD i 0)) held
theorem bmI_len (m held : List Int) (j : Nat) : (bmI m held j).length = held.length := by
  unfold bmI
  suffices h : ∀ (l : List Nat) (c : List Int), (l.foldl (fun c i => c.set (m.getD i 0).toNat (held.getD i 0)) c).length = c.length from h _ held
  intro l
  induction l with
  | nil => intro c; rfl
  | cons x l ih =>
    intro c
    rw [List.foldl_cons, ih, List.length_set]
theorem bmI_succ (m held : List Int) (j : Nat) : bmI m held (j + 1) = (bmI m held j).set (m.getD j 0).toNat (held.getD j 0) := by
  unfold bmI
  rw [List.range_succ, List.foldl_append]
  rfl
section
variable {P : Program} {w : World} {K : PySem.W.Frag} {mg : Str → Option Value} {base : Heap} {C : Addr}
def spBeM (K : PySem.W.Frag) (C : Addr) : Sp := fun vs H Q _ => ∃ (m : MaK) (p hl sl dx : Addr) (fs : List (Str × V)) (b : Nat) (s : MS) (mv : V) (mm : List Int), vs = [.ref p, mv] ∧ MaP K C m H p hl sl dx fs b s ∧ TI K H mv mm ∧ mm.length = m.n ∧ (∀ i ∈ mm, InR m.n i) ∧ ∀ H', But hl H H' → H' hl = some (.lst ((bm mm s.hold).map V.int)) → Q .non H'
theorem ok_be_moved (F : DfM K C "be_moved" "Machine.be_moved" st_m_be_moved ["self", "moves"]) (B : Bu mg) (T : MaC K mg C) : MetX P w K mg base 1 C "be_moved" (spBeM K C) := by
  refine mkMetX F sc_m_be_moved (fun vs H Q E h => ?_) (fun f cdv A outer s H vs Q E hr h => ?_)
  · obtain ⟨m, p, hl, sl, dx, fs, b, s, mv, mm, rfl, _⟩ := h
    rfl
  · obtain ⟨m, p, hl, sl, dx, fs, b, s, mv, mm, rfl, S, ⟨am, rfl, hM⟩, hmm, hin, q⟩ := h
    refine ⟨_, pss_cons (ps_set (i := 2) sc_m_be_moved.nd rfl (.inl rfl) (pe_callTy (cl_listM K) (by rfl) B.list (by decide +kernel) (pa_cons (pe_fld (pv 0) rfl) pa_nil)))
      (pss_one (ps_for (passes_of rfl) rfl (pi_enumT (by rfl) B.enumerate (pa_cons (pv 1) pa_nil)) (pg_tup rfl (pgs_cons (pg_name (i := 3) sc_m_be_moved.nd rfl (.inl rfl)) (pgs_cons (pg_name (i := 4) sc_m_be_moved.nd rfl (.inl rfl)) pgs_nil)))
        (pss_one (ps_asg (pe_ix ix_list (pv 2) (pv 3) (fun _ _ => rfl)) (pg_sub (pe_fld (pv 0) rfl) (pv 4) set_list))))), ?_⟩
    refine ⟨_, rfl, p, C, dx, _, _, rfl, S.ob, T.cl, T.at "holding", S.l5, hl, _, rfl, .inl (lstAt S.hd), fun l hl' => ?_⟩
    have s1 := same_new (o := .lst (s.hold.map V.int)) hl'
    have S1 := S.same s1
    have nl : l ≠ hl := (ne_of_none S.hd hl').symm
    have nlp : l ≠ p := (ne_of_none S.ob hl').symm
    refine ⟨_, rfl, am, _, rfl, onT s1 hM, ?_⟩
    refine for_enumT (xs := mm.map V.int) (fun i σ H' => But hl (upd H l (.lst (s.hold.map V.int))) H' ∧ H' hl = some (.lst ((bmI mm s.hold i).map V.int)) ∧ ∃ y3 y4, σ = [some (.ref p), some (.ref am), some (.ref l), y3, y4]) ⟨fun _ _ e _ => e, S1.hd, none, none, rfl⟩ (fun i σ H' h' => ?_) (fun i x T' σ H' hx h' hT => ?_) (fun σ H' h' => ?_)
    · exact S1.tups (fun c o ec n1 n2 n3 => h'.1 c o ec n2) _ _ (onT s1 hM)
    · obtain ⟨bt, eh, y3, y4, rfl⟩ := h'
      obtain ⟨g, hg, rfl⟩ : ∃ g, mm[i]? = some g ∧ V.int g = x := by
        rw [List.getElem?_map] at hx
        cases e : mm[i]? with
        | none => rw [e] at hx; cases hx
        | some g => rw [e] at hx; exact ⟨g, rfl, Option.some.inj hx⟩
      have hi : i < mm.length := (List.getElem?_eq_some_iff.mp hg).1
      have hgr := hin g (List.mem_of_getElem? hg)
      have hlen := S.len
      have sT := same_new (o := .tup [.int (i : Nat), .int g]) hT
      obtain ⟨z, hz⟩ : ∃ z, s.hold[i]? = some z := ⟨_, List.getElem?_eq_getElem (by omega)⟩
      have el : H' l = some (.lst (s.hold.map V.int)) := bt _ _ upd_same nl
      have ep : H' p = some (.ins C dx fs) := bt _ _ (s1 _ _ S.ob) S.npl
      refine ⟨T', _, rfl, tupAt upd_same, rfl, _, _, rfl, _, _, rfl, rfl, ?_⟩
      refine ⟨_, rfl, _, rfl, l, s.hold.map V.int, (i : Int), .int z, rfl, rfl, lstAt (sT _ _ el), atI_nat (by rw [List.getElem?_map, hz]; rfl), ?_⟩
      refine ⟨_, rfl, p, C, dx, _, _, rfl, sT _ _ ep, T.cl, T.at "holding", S.l5, _, rfl, hl, _, g, g.toNat, rfl, rfl, sT _ _ eh, ?_, ?_, ?_, _, _, rfl⟩
      · have h0 := hgr.1
        have h1 := hgr.2
        have := ixN_int (n := ((bmI mm s.hold i).map V.int).length) (k := g) h0 (by rw [List.length_map, bmI_len]; omega)
        exact this
      · intro c o ec nc
        rw [upd_ne nc]
        exact sT _ _ (bt c o ec nc)
      · have ez : s.hold.getD i 0 = z := by rw [List.getD_eq_getElem?_getD, hz]; rfl
        have eg : mm.getD i 0 = g := by rw [List.getD_eq_getElem?_getD, hg]; rfl
        rw [upd_same, bmI_succ, eg, ez, List.map_set]
    · obtain ⟨bt, eh, _⟩ := h'
      rw [List.length_map] at eh
      exact q H' (fun c o ec nc => bt c o (s1 _ _ ec) nc) eh
/-- an access or a touch -/
def spUseM (K : PySem.W.Frag) (C : Addr) : Sp := fun vs H Q _ => ∃ (m : MaK) (p hl sl dx : Addr) (fs : List (Str × V)) (b : Nat) (s : MS) (i : Ins) (k : Nat), vs = [.ref p, .str i.word, .int (k : Int)] ∧ MaP K C m H p hl sl dx fs b s ∧ i.pl = some k ∧ k < m.n ∧ ∀ H', Fr3 p hl sl H H' → MaS K C m H' p hl sl b (useM m.h i s) → Q .non H'
theorem no_met {fs : List (Str × V)} (h : ∀ f ∈ maMets, fs.lookup f = none) (f : Str) (hf : f ∈ maMets := by decide +kernel) : fs.lookup f = none := h f hf
theorem ok_use (F : DfM K C "use" "Machine.use" st_m_use ["self", "word", "place"]) (T : MaC K mg C) (MB : MetX P w K mg base 1 C "be_moved" (spBeM K C)) : MetX P w K mg base 2 C "use" (spUseM K C) := by
  refine mkMetX F sc_m_use (fun vs H Q E h => ?_) (fun f cdv A outer s H vs Q E hr h => ?_)
  · obtain ⟨m, p, hl, sl, dx, fs, b, s, i, k, rfl, _⟩ := h
    rfl
  · obtain ⟨m, p, hl, sl, dx, fs, b, s, i, k, rfl, S, hpl, hk, q⟩ := h
    refine ⟨_, pss_cons (ps_cutM (ps_if (pt_cmpR op_eq (pv 1) pe_str (nomark _)) (pss_one (ps_fld (pv 0) (pe_ix ix_list (pe_fld (pv 0) rfl) (pv 2) (fun _ _ => rfl)) rfl))
        (pss_one (ps_if (pt_cmpR op_eq (pv 1) pe_str (nomark _)) (pss_one (ps_fldaug (pv 0) (pe_ix ix_list (pe_fld (pv 0) rfl) (pv 2) (fun _ _ => rfl)) in_add))
          (pss_one (ps_if (pt_cmpR op_eq (pv 1) pe_str (nomark _)) (pss_one (ps_fldaug (pv 0) (pe_ix ix_list (pe_fld (pv 0) rfl) (pv 2) (fun _ _ => rfl)) in_sub))
            (pss_one (ps_if (pt_cmpR op_eq (pv 1) pe_str (nomark _)) (pss_one (ps_asg (pe_fld (pv 0) rfl) (pg_sub (pe_fld (pv 0) rfl) (pv 2) set_list))) pss_nil))))))))
      (pss_one (ps_expr (pmX MB T.cl passE hr (pv 0) (pa_cons (pe_ix (ixT K) (pe_fld (pv 0) rfl) (pv 2) (fun _ _ => rfl)) pa_nil)))), ?_⟩
    have hkl : k < s.hold.length := by rw [S.len]; exact hk
    obtain ⟨z, hz⟩ : ∃ z, s.hold[k]? = some z := ⟨_, List.getElem?_eq_getElem hkl⟩
    have ez : s.hold.getD k 0 = z := by rw [List.getD_eq_getElem?_getD, hz]; rfl
    have rd : ∀ (Q : VK), Q (.int z) H → ∃ (o : Addr) (xs : List V) (kk : Int) (x : V), V.ref hl = .ref o ∧ V.int (k : Int) = .int kk ∧ SqL K H o xs ∧ atI xs kk = some x ∧ Q x H := fun Q q => ⟨hl, _, _, _, rfl, rfl, lstAt S.hd, atI_nat (by rw [List.getElem?_map, hz]; rfl), q⟩
    refine ⟨fun σ' H' => σ' = [some (.ref p), some (.str i.word), some (.int (k : Int))] ∧ Fr3 p hl sl H H' ∧ MaS K C m H' p hl sl b (midM i s), fun σ' H' g => ?_, ?_⟩
    · obtain ⟨rfl, f1, dx1, fs1, S1⟩ := g
      obtain ⟨am, xs, eh, hS, hE⟩ := S1.hT
      obtain ⟨ns, hns⟩ : ∃ ns, m.h[k]? = some ns := ⟨_, List.getElem?_eq_getElem (by rw [S.hb.len]; exact hk)⟩
      obtain ⟨x, hx, hTx⟩ := hE.of hns
      have hpm := S.hb.perm ns (List.mem_of_getElem? hns)
      refine ⟨_, rfl, p, dx1, fs1, rfl, S1.ob, no_met S1.no "be_moved", _, rfl, p, C, dx1, _, _, rfl, S1.ob, T.cl, T.at "habit", S1.l1, _, rfl, am, xs, (k : Int), x, eh, rfl, hS, atI_nat hx, m, p, hl, sl, dx1, fs1, b, midM i s, x, ns, rfl, S1, hTx, perm_len5 hpm, fun j hj => rg_mem.mp (hpm.mem_iff.mp hj), fun H2 bt e2 => ?_⟩
      refine q H2 (f1.trans fun c o ec n1 n2 n3 => bt c o ec n2) ⟨dx1, fs1, ?_⟩
      rw [use_mid hpl]
      have en : m.h.getD k [] = ns := by rw [List.getD_eq_getElem?_getD, hns]; rfl
      unfold MS.moved
      rw [en]
      exact S1.put_hold bt e2 (by rw [bm_len]; exact S1.len)
    · cases i with
      | get k' =>
        cases hpl
        refine ⟨_, rfl, rfl, _, rfl, ifT (by show decide (V.str "get" = V.str "get") = true; decide +kernel) ⟨_, rfl, p, C, dx, _, _, rfl, S.ob, T.cl, T.at "holding", S.l5, _, rfl, hl, _, _, _, rfl, rfl, lstAt S.hd, atI_nat (by rw [List.getElem?_map, hz]; rfl), _, rfl, p, C, dx, _, rfl, S.ob, T.cl, T.at "hand", by have := S.few; omega, rfl, Fr3.p, dx, putF "hand" (.int z) fs, ?_⟩⟩
        show MaP K C m _ p hl sl dx _ b { s with hand := s.hold.getD k 0 }
        rw [ez]
        exact S.put_hand _
      | plus k' =>
        cases hpl
        refine ⟨_, rfl, rfl, _, rfl, ifF (by show decide (V.str "plus" = V.str "get") = false; decide +kernel) ⟨_, rfl, rfl, _, rfl, ifT (by show decide (V.str "plus" = V.str "plus") = true; decide +kernel) ⟨_, rfl, p, C, dx, _, _, rfl, S.ob, T.cl, T.at "hand", S.l6, _, rfl, p, C, dx, _, _, rfl, S.ob, T.cl, T.at "holding", S.l5, _, rfl, hl, _, _, _, rfl, rfl, lstAt S.hd, atI_nat (by rw [List.getElem?_map, hz]; rfl), s.hand, z, rfl, rfl, dx, fs, S.ob, by have := S.few; omega, rfl, Fr3.p, dx, putF "hand" (.int (s.hand + z)) fs, ?_⟩⟩⟩
        show MaP K C m _ p hl sl dx _ b { s with hand := s.hand + s.hold.getD k 0 }
        rw [ez]
        exact S.put_hand _
      | minus k' =>
        cases hpl
        refine ⟨_, rfl, rfl, _, rfl, ifF (by show decide (V.str "minus" = V.str "get") = false; decide +kernel) ⟨_, rfl, rfl, _, rfl, ifF (by show decide (V.str "minus" = V.str "plus") = false; decide +kernel) ⟨_, rfl, rfl, _, rfl, ifT (by show decide (V.str "minus" = V.str "minus") = true; decide +kernel) ⟨_, rfl, p, C, dx, _, _, rfl, S.ob, T.cl, T.at "hand", S.l6, _, rfl, p, C, dx, _, _, rfl, S.ob, T.cl, T.at "holding", S.l5, _, rfl, hl, _, _, _, rfl, rfl, lstAt S.hd, atI_nat (by rw [List.getElem?_map, hz]; rfl), s.hand, z, rfl, rfl, dx, fs, S.ob, by have := S.few; omega, rfl, Fr3.p, dx, putF "hand" (.int (s.hand - z)) fs, ?_⟩⟩⟩⟩
        show MaP K C m _ p hl sl dx _ b { s with hand := s.hand - s.hold.getD k 0 }
        rw [ez]
        exact S.put_hand _
      | set k' =>
        cases hpl
        refine ⟨_, rfl, rfl, _, rfl, ifF (by show decide (V.str "set" = V.str "get") = false; decide +kernel) ⟨_, rfl, rfl, _, rfl, ifF (by show decide (V.str "set" = V.str "plus") = false; decide +kernel) ⟨_, rfl, rfl, _, rfl, ifF (by show decide (V.str "set" = V.str "minus") = false; decide +kernel) ⟨_, rfl, rfl, _, rfl, ifT (by show decide (V.str "set" = V.str "set") = true; decide +kernel) ⟨_, rfl, p, C, dx, _, _, rfl, S.ob, T.cl, T.at "hand", S.l6, _, rfl, p, C, dx, _, _, rfl, S.ob, T.cl, T.at "holding", S.l5, _, rfl, hl, _, (k : Int), k, rfl, rfl, S.hd, ?_, rfl, Fr3.t, dx, fs, ?_⟩⟩⟩⟩⟩
        · have := ixN_int (n := (s.hold.map V.int).length) (k := (k : Int)) (by omega) (by rw [List.length_map]; omega)
          exact this
        · exact S.put_hold (fun c o ec nc => by rw [upd_ne nc]; exact ec) (by rw [upd_same, List.map_set]) (by rw [List.length_set]; exact S.len)
      | touch k' =>
        cases hpl
        exact ⟨_, rfl, rfl, _, rfl, ifF (by show decide (V.str "touch" = V.str "get") = false; decide +kernel) ⟨_, rfl, rfl, _, rfl, ifF (by show decide (V.str "touch" = V.str "plus") = false; decide +kernel) ⟨_, rfl, rfl, _, rfl, ifF (by show decide (V.str "touch" = V.str "minus") = false; decide +kernel) ⟨_, rfl, rfl, _, rfl, ifF (by show decide (V.str "touch" = V.str "set") = false; decide +kernel) ⟨rfl, Fr3.refl _ _ _ _, dx, fs, S⟩⟩⟩⟩⟩
      | _ => cases hpl
end
end RH
set_option Elab.async false
set_option linter.all false
set_option maxRecDepth 100000
set_option maxHeartbeats 2000000
namespace RH
open PySem PySem.Spec PyProof.Rows L2
/-! ### a machine's step -/
theorem endM_lt {pg : List Ins} {pos : Nat} {i : Ins} (h : pg[pos]? = some i) : endM pg pos = decide (i = .stop) := by
  unfold endM
  rw [h]
theorem RPg.len {K : PySem.W.Frag} {H : Hp} {a : Addr} {xs : List V} {pg : List Ins} (hE : Each (RIns K H) xs pg) : xs.length = pg.length := hE.len
section
variable {P : Program} {w : World} {K : PySem.W.Frag} {mg : Str → Option Value} {base : Heap} {C : Addr}
def spEnded (K : PySem.W.Frag) : Sp := fun vs H Q _ => ∃ (v : V) (pg : List Ins) (pos : Nat), vs = [v, .int (pos : Int)] ∧ RPg K H v pg ∧ pos ≤ pg.length ∧ ∀ H', Same H H' → Q (.bl (endM pg pos)) H'
theorem ok_has_ended (F : Df K mg "has_ended" st_has_ended ["program", "at"]) (B : Bu mg) : Cal P w K mg base 1 "has_ended" (spEnded K) := by
  refine mkCal F sc_has_ended (fun vs H Q E h => ?_) (fun f cdv A outer s H vs Q E hr h => ?_)
  · obtain ⟨v, pg, pos, rfl, _⟩ := h
    rfl
  · obtain ⟨v, pg, pos, rfl, ⟨a, xs, rfl, hS, hE⟩, hps, q⟩ := h
    refine ⟨_, pss_one (ps_ret (pe_or (pe_cmpR op_eq (pv 1) (pe_callB (cl_len K) (by rfl) B.len PySem.boot_len (pa_cons (pv 0) pa_nil)) (nomark _)) (pe_one (pe_cmpR (op_eqD hr.units) (pe_ix (ixT K) (pv 0) (pv 1) (fun _ _ => rfl)) (pe_tup (pa_cons pe_str pa_nil)) (nomark _))))), ?_⟩
    have hl := hE.len
    refine ⟨_, rfl, _, rfl, a, xs, rfl, .inr hS, rfl, _, rfl, ?_⟩
    rw [hl, dec_int]
    by_cases e : pos = pg.length
    · have : ((pos : Int) == (pg.length : Int)) = true := by rw [e]; exact beq_self_eq_true _
      rw [this]
      refine ifT rfl ?_
      have q := q H (Same.refl H)
      unfold endM at q
      rw [List.getElem?_eq_none (by omega)] at q
      exact q
    · have : ((pos : Int) == (pg.length : Int)) = false := by
        rw [beq_eq_false_iff_ne]
        omega
      rw [this]
      obtain ⟨i, hi⟩ : ∃ i, pg[pos]? = some i := ⟨_, List.getElem?_eq_getElem (by omega)⟩
      obtain ⟨x, hx, r⟩ := hE.of hi
      refine ifF rfl ⟨_, rfl, _, rfl, a, xs, (pos : Int), x, rfl, rfl, hS, atI_nat hx, by show 1 ≤ sizeLine; decide, fun t ht => ?_⟩
      have s1 := same_new (o := .tup [.str "stop"]) ht
      refine ⟨i.data, .tuple [.str "stop"], (r.on (Same.tups s1)).dp, .tup (tupAt upd_same) (.cons (.str _) .nil), i.shaped, by decide +kernel, ?_⟩
      rw [i.stop_eq, ← endM_lt hi]
      exact q _ s1
def spDone (K : PySem.W.Frag) (C : Addr) : Sp := fun vs H Q _ => ∃ (m : MaK) (p hl sl dx : Addr) (fs : List (Str × V)) (b : Nat) (s : MS), vs = [.ref p] ∧ MaP K C m H p hl sl dx fs b s ∧ ∀ H', Same H H' → Q (.bl (endM m.pg s.pos)) H'
theorem ok_is_done (F : DfM K C "is_done" "Machine.is_done" st_m_is_done ["self"]) (T : MaC K mg C) (CE : Cal P w K mg base 1 "has_ended" (spEnded K)) : MetX P w K mg base 2 C "is_done" (spDone K C) := by
  refine mkMetX F sc_m_is_done (fun vs H Q E h => ?_) (fun f cdv A outer s H vs Q E hr h => ?_)
  · obtain ⟨m, p, hl, sl, dx, fs, b, s, rfl, _⟩ := h
    rfl
  · obtain ⟨m, p, hl, sl, dx, fs, b, s, rfl, S, q⟩ := h
    refine ⟨_, pss_one (ps_ret (pc CE hr (pa_cons (pe_fld (pv 0) rfl) (pa_cons (pe_fld (pv 0) rfl) pa_nil)))), ?_⟩
    exact ⟨_, rfl, p, C, dx, _, _, rfl, S.ob, T.cl, T.at "program", S.l2, _, rfl, p, C, dx, _, _, rfl, S.ob, T.cl, T.at "at", S.l7, m.pv, m.pg, s.pos, rfl, S.hp, S.ps, q⟩
/-- the next input -/
def askM (inp : List Int) (s : MS) : MS := if s.asked = inp.length then { s with hand := 0 } else { s with asked := s.asked + 1, hand := inp.getD s.asked 0 }
def spNext (K : PySem.W.Frag) (C : Addr) : Sp := fun vs H Q _ => ∃ (m : MaK) (p hl sl dx : Addr) (fs : List (Str × V)) (b : Nat) (s : MS), vs = [.ref p] ∧ MaP K C m H p hl sl dx fs b s ∧ ∀ H' dx' fs', Fr3 p hl sl H H' → MaP K C m H' p hl sl dx' fs' b { s with asked := (askM m.inp s).asked } → Q (.int (askM m.inp s).hand) H'
theorem ok_next_input (F : DfM K C "next_input" "Machine.next_input" st_m_next_input ["self"]) (B : Bu mg) (T : MaC K mg C) : MetX P w K mg base 1 C "next_input" (spNext K C) := by
  refine mkMetX F sc_m_next_input (fun vs H Q E h => ?_) (fun f cdv A outer s H vs Q E hr h => ?_)
  · obtain ⟨m, p, hl, sl, dx, fs, b, s, rfl, _⟩ := h
    rfl
  · obtain ⟨m, p, hl, sl, dx, fs, b, s, rfl, S, q⟩ := h
    refine ⟨_, pss_cons (ps_if (pt_cmpR op_eq (pe_fld (pv 0) rfl) (pe_callB (cl_len K) (by rfl) B.len PySem.boot_len (pa_cons (pe_fld (pv 0) rfl) pa_nil)) (nomark _)) (pss_one (ps_ret pe_int)) pss_nil)
      (pss_cons (ps_fldaug (pv 0) pe_int in_add)
      (pss_one (ps_ret (pe_ix (ixT K) (pe_fld (pv 0) rfl) (pe_op op_sub (pe_fld (pv 0) rfl) pe_int) (fun _ _ => rfl))))), ?_⟩
    obtain ⟨ai, ei, hI⟩ := S.hi
    refine ⟨_, rfl, p, C, dx, _, _, rfl, S.ob, T.cl, T.at "asked", S.l4, _, rfl, p, C, dx, _, _, rfl, S.ob, T.cl, T.at "inputs", S.l3, ai, m.inp.map V.int, by rw [ei], .inr hI, rfl, _, rfl, ?_⟩
    rw [List.length_map, dec_int]
    by_cases e : s.asked = m.inp.length
    · have : ((s.asked : Int) == (m.inp.length : Int)) = true := by rw [e]; exact beq_self_eq_true _
      rw [this]
      have q := q H dx fs (Fr3.refl _ _ _ _)
      unfold askM at q
      rw [if_pos e] at q
      exact ifT rfl (q S)
    · have : ((s.asked : Int) == (m.inp.length : Int)) = false := by
        rw [beq_eq_false_iff_ne]
        omega
      rw [this]
      have h2 := S.asl
      have q := fun H' dx' fs' => q H' dx' fs'
      unfold askM at q
      rw [if_neg e] at q
      have S1 := S.put_asked (s.asked + 1) (by omega)
      obtain ⟨z, hz⟩ : ∃ z, m.inp[s.asked]? = some z := ⟨_, List.getElem?_eq_getElem (by omega)⟩
      have ez : m.inp.getD s.asked 0 = z := by rw [List.getD_eq_getElem?_getD, hz]; rfl
      obtain ⟨ai', ei', hI'⟩ := S1.hi
      refine ifF rfl ⟨_, rfl, p, C, dx, _, _, rfl, S.ob, T.cl, T.at "asked", S.l4, s.asked, 1, rfl, rfl, dx, fs, S.ob, by have := S.few; omega, ?_⟩
      refine ⟨_, rfl, p, C, dx, _, _, rfl, S1.ob, T.cl, T.at "inputs", S1.l3, _, rfl, p, C, dx, _, _, rfl, S1.ob, T.cl, T.at "asked", S1.l4, ((s.asked + 1 : Nat) : Int), 1, rfl, rfl, ai', m.inp.map V.int, (s.asked : Int), .int z, ei', ?_, hI', atI_nat (by rw [List.getElem?_map, hz]; rfl), ?_⟩
      · show V.int (((s.asked + 1 : Nat) : Int) - 1) = V.int (s.asked : Int)
        exact congrArg V.int (by omega)
      · have q := q _ dx _ Fr3.p S1
        rw [ez] at q
        exact q
/-- an instruction is done -/
def spStepM (K : PySem.W.Frag) (C : Addr) : Sp := fun vs H Q _ => ∃ (m : MaK) (p hl sl dx : Addr) (fs : List (Str × V)) (b : Nat) (s : MS) (i : Ins), vs = [.ref p] ∧ MaP K C m H p hl sl dx fs b s ∧ m.pg[s.pos]? = some i ∧ i ≠ .stop ∧ b + 1 ≤ 200000 ∧ ∀ H', Fr3 p hl sl H H' → MaS K C m H' p hl sl (b + 1) (stepM m.h m.inp i s) → Q .non H'
theorem ok_step (F : DfM K C "step" "Machine.step" st_m_step ["self"]) (B : Bu mg) (T : MaC K mg C) (jump : CTup K mg "JUMPS" jumpZ) (MU : MetX P w K mg base 2 C "use" (spUseM K C)) (MN : MetX P w K mg base 1 C "next_input" (spNext K C)) : MetX P w K mg base 3 C "step" (spStepM K C) := by
  obtain ⟨aj, gj, hj⟩ := jump.at
  refine mkMetX F sc_m_step (fun vs H Q E h => ?_) (fun f cdv A outer s H vs Q E hr h => ?_)
  · obtain ⟨m, p, hl, sl, dx, fs, b, s, i, rfl, _⟩ := h
    rfl
  · obtain ⟨m, p, hl, sl, dx, fs, b, s, i, rfl, S, hi, hne, hb, q⟩ := h
    refine ⟨_, pss_cons (ps_set (i := 1) sc_m_step.nd rfl (.inl rfl) (pe_ix (ixT K) (pe_fld (pv 0) rfl) (pe_fld (pv 0) rfl) (fun _ _ => rfl)))
      (pss_cons (ps_set (i := 2) sc_m_step.nd rfl (.inl rfl) (pe_ix (ixT K) (pv 1) pe_int (fun _ _ => rfl)))
      (pss_cons (ps_fldaug (pv 0) pe_int in_add)
      (pss_one (ps_if (pt_cmpR (opIn K) (pv 2) (pe_glob (v := .ref aj) (by rfl) gj (by rfl)) rfl)
        (pss_one (ps_if (PW.pt (pw_or (pt_cmpR op_eq (pv 2) pe_str (nomark _)) (pw_or1 (pt_cmpR op_eq (pe_fld (pv 0) rfl) pe_int (nomark _))))) (pss_one (ps_fld (pv 0) (pe_ix (ixT K) (pv 1) pe_int (fun _ _ => rfl)) rfl)) pss_nil))
        (pss_one (ps_if (pt_cmpR op_eq (pv 2) pe_str (nomark _)) (pss_one (ps_fld (pv 0) (pe_ix (ixT K) (pv 1) pe_int (fun _ _ => rfl)) rfl))
          (pss_one (ps_if (pt_cmpR op_eq (pv 2) pe_str (nomark _)) (pss_one (ps_expr (pe_bm PySem.F.plainAttrs_list PySem.F.slot_list_append PySem.F.type_list_append mt_append (pe_fld (pv 0) rfl) (pa_cons (pe_fld (pv 0) rfl) pa_nil))))
            (pss_one (ps_if (pt_cmpR op_eq (pv 2) pe_str (nomark _)) (pss_one (ps_fld (pv 0) (pm0 MN T.cl passE hr (pv 0)) rfl))
              (pss_one (ps_expr (pmX MU T.cl passE hr (pv 0) (pa_cons (pv 2) (pa_cons (pe_ix (ixT K) (pv 1) pe_int (fun _ _ => rfl)) pa_nil))))))))))))))), ?_⟩
    obtain ⟨ap, xs, ep, hS, hE⟩ := S.hp
    obtain ⟨x, hx, ai, rfl, hI⟩ := hE.of hi
    have hok := S.ok i (List.mem_of_getElem? hi)
    have hlt := (List.getElem?_eq_some_iff.mp hi).1
    refine ⟨_, rfl, p, C, dx, _, _, rfl, S.ob, T.cl, T.at "program", S.l2, _, rfl, p, C, dx, _, _, rfl, S.ob, T.cl, T.at "at", S.l7, ap, xs, (s.pos : Int), .ref ai, ep, rfl, hS, atI_nat hx, ?_⟩
    refine ⟨_, rfl, ai, _, 0, .str i.word, rfl, rfl, hI, atI_nat (j := 0) rfl, ?_⟩
    refine ⟨_, rfl, p, C, dx, _, _, rfl, S.ob, T.cl, T.at "at", S.l7, s.pos, 1, rfl, rfl, dx, fs, S.ob, by have := S.few; omega, ?_⟩
    have S1 : MaP K C m (upd H p (.ins C dx (putF "at" (.int ((s.pos : Int) + 1)) fs))) p hl sl dx (putF "at" (.int ((s.pos : Int) + 1)) fs) b { s with pos := s.pos + 1 } := S.put_at (s.pos + 1) (by omega)
    have hI1 := S.tups Fr3.p _ _ hI (H' := upd H p (.ins C dx (putF "at" (.int ((s.pos : Int) + 1)) fs)))
    generalize he : upd H p (.ins C dx (putF "at" (.int ((s.pos : Int) + 1)) fs)) = H1 at S1 hI1 ⊢
    have f1 : Fr3 p hl sl H H1 := by rw [← he]; exact Fr3.p
    generalize hf : putF "at" (.int ((s.pos : Int) + 1)) fs = fs1 at S1 ⊢
    refine ⟨_, rfl, aj, _, rfl, .inr (hj _), rfl, by decide, _, rfl, ?_⟩
    have fin : ∀ {H' : Hp} {dx' : Addr} {fs' : List (Str × V)} {s' : MS}, Fr3 p hl sl H1 H' → MaP K C m H' p hl sl dx' fs' b s' → stepM m.h m.inp i s = s' → Q .non H' := fun f2 S2 e => q _ (f1.trans f2) ⟨_, _, by rw [e]; exact S2.more (Nat.le_succ b) hb⟩
    have few1 : fs1.length < 1000 := Nat.lt_of_lt_of_le S1.few (by decide)
    cases i with
    | stop => exact absurd rfl hne
    | go t =>
      refine ifT (by show inV (.str "go") (jumpZ.map V.str) = true; decide +kernel) ⟨_, rfl, rfl, _, rfl, ifT (by show decide (V.str "go" = V.str "go") = true; decide +kernel) (ifT rfl ⟨_, rfl, ai, _, 1, _, rfl, rfl, hI1, atI_nat (j := 1) rfl, _, rfl, p, C, dx, fs1, rfl, S1.ob, T.cl, T.at "at", few1, ?_⟩)⟩
      exact fin Fr3.p (S1.put_at t hok) rfl
    | zero t =>
      refine ifT (by show inV (.str "zero") (jumpZ.map V.str) = true; decide +kernel) ⟨_, rfl, rfl, _, rfl, ifF (by show decide (V.str "zero" = V.str "go") = false; decide +kernel) ⟨_, rfl, p, C, dx, fs1, _, rfl, S1.ob, T.cl, T.at "hand", S1.l6, rfl, _, rfl, ?_⟩⟩
      rw [dec_int]
      by_cases e : s.hand = 0
      · have : (s.hand == (0 : Int)) = true := by rw [e]; rfl
        rw [this]
        refine ifT rfl ⟨_, rfl, ai, _, 1, _, rfl, rfl, hI1, atI_nat (j := 1) rfl, _, rfl, p, C, dx, fs1, rfl, S1.ob, T.cl, T.at "at", few1, ?_⟩
        refine fin Fr3.p (S1.put_at t hok) ?_
        unfold stepM
        dsimp only
        rw [if_pos e]
      · have : (s.hand == (0 : Int)) = false := by rw [beq_eq_false_iff_ne]; exact e
        rw [this]
        refine ifF rfl (fin (Fr3.refl _ _ _ _) S1 ?_)
        unfold stepM
        dsimp only
        rw [if_neg e]
    | put c =>
      refine ifF (by show inV (.str "put") (jumpZ.map V.str) = false; decide +kernel) ⟨_, rfl, rfl, _, rfl, ifT (by show decide (V.str "put" = V.str "put") = true; decide +kernel) ⟨_, rfl, ai, _, 1, _, rfl, rfl, hI1, atI_nat (j := 1) rfl, _, rfl, p, C, dx, fs1, rfl, S1.ob, T.cl, T.at "hand", few1, ?_⟩⟩
      exact fin Fr3.p (S1.put_hand c) rfl
    | say =>
      refine ifF (by show inV (.str "say") (jumpZ.map V.str) = false; decide +kernel) ⟨_, rfl, rfl, _, rfl, ifF (by show decide (V.str "say" = V.str "put") = false; decide +kernel) ⟨_, rfl, rfl, _, rfl, ifT (by show decide (V.str "say" = V.str "say") = true; decide +kernel) ⟨_, rfl, p, C, dx, fs1, _, rfl, S1.ob, T.cl, T.at "said", S1.l8, .inl ⟨rfl, _, lstAt S1.sd⟩, _, rfl, p, C, dx, fs1, _, rfl, S1.ob, T.cl, T.at "hand", S1.l6, sl, _, _, rfl, rfl, S1.sd, ?_, ?_⟩⟩⟩
      · rw [List.length_map, sizeLine_eq]
        have h1 := S1.sb
        have h2 := S1.bb
        omega
      · exact q _ (f1.trans Fr3.l) ⟨_, _, S1.put_said hb⟩
    | ask =>
      refine ifF (by show inV (.str "ask") (jumpZ.map V.str) = false; decide +kernel) ⟨_, rfl, rfl, _, rfl, ifF (by show decide (V.str "ask" = V.str "put") = false; decide +kernel) ⟨_, rfl, rfl, _, rfl, ifF (by show decide (V.str "ask" = V.str "say") = false; decide +kernel) ⟨_, rfl, rfl, _, rfl, ifT (by show decide (V.str "ask" = V.str "ask") = true; decide +kernel) ?_⟩⟩⟩
      refine ⟨_, rfl, p, dx, fs1, rfl, S1.ob, no_met S1.no "next_input", m, p, hl, sl, dx, fs1, b, _, rfl, S1, fun H2 dx2 fs2 f2 S2 => ⟨_, rfl, p, C, dx2, fs2, rfl, S2.ob, T.cl, T.at "hand", Nat.lt_of_lt_of_le S2.few (by decide), ?_⟩⟩
      refine fin (f2.trans Fr3.p) (S2.put_hand _) ?_
      unfold stepM askM
      dsimp only
      split <;> rfl
    | get k =>
      refine ifF (by show inV (.str "get") (jumpZ.map V.str) = false; decide +kernel) ⟨_, rfl, rfl, _, rfl, ifF (by show decide (V.str "get" = V.str "put") = false; decide +kernel) ⟨_, rfl, rfl, _, rfl, ifF (by show decide (V.str "get" = V.str "say") = false; decide +kernel) ⟨_, rfl, rfl, _, rfl, ifF (by show decide (V.str "get" = V.str "ask") = false; decide +kernel) ?_⟩⟩⟩
      exact ⟨_, rfl, p, dx, fs1, rfl, S1.ob, no_met S1.no "use", _, rfl, _, rfl, ai, _, 1, _, rfl, rfl, hI1, atI_nat (j := 1) rfl, m, p, hl, sl, dx, fs1, b, _, .get k, k, rfl, S1, rfl, hok, fun H2 f2 S2 => (show Q .non H2 from by
        obtain ⟨dx2, fs2, S2⟩ := S2
        exact fin f2 S2 rfl)⟩
    | set k =>
      refine ifF (by show inV (.str "set") (jumpZ.map V.str) = false; decide +kernel) ⟨_, rfl, rfl, _, rfl, ifF (by show decide (V.str "set" = V.str "put") = false; decide +kernel) ⟨_, rfl, rfl, _, rfl, ifF (by show decide (V.str "set" = V.str "say") = false; decide +kernel) ⟨_, rfl, rfl, _, rfl, ifF (by show decide (V.str "set" = V.str "ask") = false; decide +kernel) ?_⟩⟩⟩
      exact ⟨_, rfl, p, dx, fs1, rfl, S1.ob, no_met S1.no "use", _, rfl, _, rfl, ai, _, 1, _, rfl, rfl, hI1, atI_nat (j := 1) rfl, m, p, hl, sl, dx, fs1, b, _, .set k, k, rfl, S1, rfl, hok, fun H2 f2 S2 => (show Q .non H2 from by
        obtain ⟨dx2, fs2, S2⟩ := S2
        exact fin f2 S2 rfl)⟩
    | plus k =>
      refine ifF (by show inV (.str "plus") (jumpZ.map V.str) = false; decide +kernel) ⟨_, rfl, rfl, _, rfl, ifF (by show decide (V.str "plus" = V.str "put") = false; decide +kernel) ⟨_, rfl, rfl, _, rfl, ifF (by show decide (V.str "plus" = V.str "say") = false; decide +kernel) ⟨_, rfl, rfl, _, rfl, ifF (by show decide (V.str "plus" = V.str "ask") = false; decide +kernel) ?_⟩⟩⟩
      exact ⟨_, rfl, p, dx, fs1, rfl, S1.ob, no_met S1.no "use", _, rfl, _, rfl, ai, _, 1, _, rfl, rfl, hI1, atI_nat (j := 1) rfl, m, p, hl, sl, dx, fs1, b, _, .plus k, k, rfl, S1, rfl, hok, fun H2 f2 S2 => (show Q .non H2 from by
        obtain ⟨dx2, fs2, S2⟩ := S2
        exact fin f2 S2 rfl)⟩
    | minus k =>
      refine ifF (by show inV (.str "minus") (jumpZ.map V.str) = false; decide +kernel) ⟨_, rfl, rfl, _, rfl, ifF (by show decide (V.str "minus" = V.str "put") = false; decide +kernel) ⟨_, rfl, rfl, _, rfl, ifF (by show decide (V.str "minus" = V.str "say") = false; decide +kernel) ⟨_, rfl, rfl, _, rfl, ifF (by show decide (V.str "minus" = V.str "ask") = false; decide +kernel) ?_⟩⟩⟩
      exact ⟨_, rfl, p, dx, fs1, rfl, S1.ob, no_met S1.no "use", _, rfl, _, rfl, ai, _, 1, _, rfl, rfl, hI1, atI_nat (j := 1) rfl, m, p, hl, sl, dx, fs1, b, _, .minus k, k, rfl, S1, rfl, hok, fun H2 f2 S2 => (show Q .non H2 from by
        obtain ⟨dx2, fs2, S2⟩ := S2
        exact fin f2 S2 rfl)⟩
    | touch k =>
      refine ifF (by show inV (.str "touch") (jumpZ.map V.str) = false; decide +kernel) ⟨_, rfl, rfl, _, rfl, ifF (by show decide (V.str "touch" = V.str "put") = false; decide +kernel) ⟨_, rfl, rfl, _, rfl, ifF (by show decide (V.str "touch" = V.str "say") = false; decide +kernel) ⟨_, rfl, rfl, _, rfl, ifF (by show decide (V.str "touch" = V.str "ask") = false; decide +kernel) ?_⟩⟩⟩
      exact ⟨_, rfl, p, dx, fs1, rfl, S1.ob, no_met S1.no "use", _, rfl, _, rfl, ai, _, 1, _, rfl, rfl, hI1, atI_nat (j := 1) rfl, m, p, hl, sl, dx, fs1, b, _, .touch k, k, rfl, S1, rfl, hok, fun H2 f2 S2 => (show Q .non H2 from by
        obtain ⟨dx2, fs2, S2⟩ := S2
        exact fin f2 S2 rfl)⟩
end
end RH
set_option Elab.async false
set_option linter.all false
set_option maxRecDepth 100000
set_option maxHeartbeats 2000000
namespace RH
open PySem PySem.Spec PyProof.Rows L2
/-! ### a machine is made, and runs -/
theorem putF_le {f : Str} {v : V} : ∀ fs : List (Str × V), (putF f v fs).length ≤ fs.length + 1
  | [] => Nat.le_refl _
  | (g, x) :: r => by
    unfold putF
    by_cases e : g = f
    · rw [if_pos e]
      exact Nat.le_succ _
    · rw [if_neg e]
      have := putF_le (f := f) (v := v) r
      rw [List.length_cons, List.length_cons]
      omega
section
variable {hv pv iv : V} {l t : Addr}
def FM (hv pv iv : V) (l t : Addr) : List (Str × V) := (putF "said" (.ref t) (putF "at" (.int 0) (putF "hand" (.int 0) (putF "holding" (.ref l) (putF "asked" (.int 0) (putF "inputs" iv (putF "program" pv (putF "habit" hv []))))))))
theorem FM_1 : (FM hv pv iv l t).lookup ("habit" : Str) = some hv := by
  unfold FM
  rw [lookup_putF, if_neg (by decide +kernel)]; rw [lookup_putF, if_neg (by decide +kernel)]; rw [lookup_putF, if_neg (by decide +kernel)]; rw [lookup_putF, if_neg (by decide +kernel)]; rw [lookup_putF, if_neg (by decide +kernel)]; rw [lookup_putF, if_neg (by decide +kernel)]; rw [lookup_putF, if_neg (by decide +kernel)]; rw [lookup_putF, if_pos rfl]
theorem FM_2 : (FM hv pv iv l t).lookup ("program" : Str) = some pv := by
  unfold FM
  rw [lookup_putF, if_neg (by decide +kernel)]; rw [lookup_putF, if_neg (by decide +kernel)]; rw [lookup_putF, if_neg (by decide +kernel)]; rw [lookup_putF, if_neg (by decide +kernel)]; rw [lookup_putF, if_neg (by decide +kernel)]; rw [lookup_putF, if_neg (by decide +kernel)]; rw [lookup_putF, if_pos rfl]
theorem FM_3 : (FM hv pv iv l t).lookup ("inputs" : Str) = some iv := by
  unfold FM
  rw [lookup_putF, if_neg (by decide +kernel)]; rw [lookup_putF, if_neg (by decide +kernel)]; rw [lookup_putF, if_neg (by decide +kernel)]; rw [lookup_putF, if_neg (by decide +kernel)]; rw [lookup_putF, if_neg (by decide +kernel)]; rw [lookup_putF, if_pos rfl]
theorem FM_4 : (FM hv pv iv l t).lookup ("asked" : Str) = some (.int 0) := by
  unfold FM
  rw [lookup_putF, if_neg (by decide +kernel)]; rw [lookup_putF, if_neg (by decide +kernel)]; rw [lookup_putF, if_neg (by decide +kernel)]; rw [lookup_putF, if_neg (by decide +kernel)]; rw [lookup_putF, if_pos rfl]
theorem FM_5 : (FM hv pv iv l t).lookup ("holding" : Str) = some (.ref l) := by
  unfold FM
  rw [lookup_putF, if_neg (by decide +kernel)]; rw [lookup_putF, if_neg (by decide +kernel)]; rw [lookup_putF, if_neg (by decide +kernel)]; rw [lookup_putF, if_pos rfl]
theorem FM_6 : (FM hv pv iv l t).lookup ("hand" : Str) = some (.int 0) := by
  unfold FM
  rw [lookup_putF, if_neg (by decide +kernel)]; rw [lookup_putF, if_neg (by decide +kernel)]; rw [lookup_putF, if_pos rfl]
theorem FM_7 : (FM hv pv iv l t).lookup ("at" : Str) = some (.int 0) := by
  unfold FM
  rw [lookup_putF, if_neg (by decide +kernel)]; rw [lookup_putF, if_pos rfl]
theorem FM_8 : (FM hv pv iv l t).lookup ("said" : Str) = some (.ref t) := by
  unfold FM
  rw [lookup_putF, if_pos rfl]
theorem FM_no : ∀ f ∈ maMets, (FM hv pv iv l t).lookup f = none := fun f hf => by
  have ne : ∀ f ∈ maMets, ∀ a ∈ maAttrs, ¬ f = a := by decide +kernel
  have n := ne f hf
  unfold FM
  rw [lookup_putF, if_neg (n "said" (by decide +kernel))]
  rw [lookup_putF, if_neg (n "at" (by decide +kernel))]
  rw [lookup_putF, if_neg (n "hand" (by decide +kernel))]
  rw [lookup_putF, if_neg (n "holding" (by decide +kernel))]
  rw [lookup_putF, if_neg (n "asked" (by decide +kernel))]
  rw [lookup_putF, if_neg (n "inputs" (by decide +kernel))]
  rw [lookup_putF, if_neg (n "program" (by decide +kernel))]
  rw [lookup_putF, if_neg (n "habit" (by decide +kernel))]
  rfl
theorem FM_len : (FM hv pv iv l t).length < 100 := by
  unfold FM
  have h0 := putF_le (f := "habit") (v := hv) []
  have h1 := putF_le (f := "program") (v := pv) (putF "habit" hv [])
  have h2 := putF_le (f := "inputs") (v := iv) (putF "program" pv (putF "habit" hv []))
  have h3 := putF_le (f := "asked") (v := (.int 0)) (putF "inputs" iv (putF "program" pv (putF "habit" hv [])))
  have h4 := putF_le (f := "holding") (v := (.ref l)) (putF "asked" (.int 0) (putF "inputs" iv (putF "program" pv (putF "habit" hv []))))
  have h5 := putF_le (f := "hand") (v := (.int 0)) (putF "holding" (.ref l) (putF "asked" (.int 0) (putF "inputs" iv (putF "program" pv (putF "habit" hv [])))))
  have h6 := putF_le (f := "at") (v := (.int 0)) (putF "hand" (.int 0) (putF "holding" (.ref l) (putF "asked" (.int 0) (putF "inputs" iv (putF "program" pv (putF "habit" hv []))))))
  have h7 := putF_le (f := "said") (v := (.ref t)) (putF "at" (.int 0) (putF "hand" (.int 0) (putF "holding" (.ref l) (putF "asked" (.int 0) (putF "inputs" iv (putF "program" pv (putF "habit" hv [])))))))
  have e : ([] : List (Str × V)).length = 0 := rfl
  omega
end
section
variable {hv pv iv : V} {l t : Addr}
theorem chl0 (hv pv iv : V) (l t : Addr) : ([] : List (Str × V)).length ≤ 0 := by
  have e : ([] : List (Str × V)).length = 0 := rfl
  omega
theorem chl1 (hv pv iv : V) (l t : Addr) : ((putF "habit" hv []) : List (Str × V)).length ≤ 1 := by
  have h0 := putF_le (f := "habit") (v := hv) []
  have e : ([] : List (Str × V)).length = 0 := rfl
  omega
theorem chl2 (hv pv iv : V) (l t : Addr) : ((putF "program" pv (putF "habit" hv [])) : List (Str × V)).length ≤ 2 := by
  have h0 := putF_le (f := "habit") (v := hv) []
  have h1 := putF_le (f := "program") (v := pv) (putF "habit" hv [])
  have e : ([] : List (Str × V)).length = 0 := rfl
  omega
theorem chl3 (hv pv iv : V) (l t : Addr) : ((putF "inputs" iv (putF "program" pv (putF "habit" hv []))) : List (Str × V)).length ≤ 3 := by
  have h0 := putF_le (f := "habit") (v := hv) []
  have h1 := putF_le (f := "program") (v := pv) (putF "habit" hv [])
  have h2 := putF_le (f := "inputs") (v := iv) (putF "program" pv (putF "habit" hv []))
  have e : ([] : List (Str × V)).length = 0 := rfl
  omega
theorem chl4 (hv pv iv : V) (l t : Addr) : ((putF "asked" (.int 0) (putF "inputs" iv (putF "program" pv (putF "habit" hv [])))) : List (Str × V)).length ≤ 4 := by
  have h0 := putF_le (f := "habit") (v := hv) []
  have h1 := putF_le (f := "program") (v := pv) (putF "habit" hv [])
  have h2 := putF_le (f := "inputs") (v := iv) (putF "program" pv (putF "habit" hv []))
  have h3 := putF_le (f := "asked") (v := (.int 0)) (putF "inputs" iv (putF "program" pv (putF "habit" hv [])))
  have e : ([] : List (Str × V)).length = 0 := rfl
  omega
theorem chl5 (hv pv iv : V) (l t : Addr) : ((putF "holding" (.ref l) (putF "asked" (.int 0) (putF "inputs" iv (putF "program" pv (putF "habit" hv []))))) : List (Str × V)).length ≤ 5 := by
  have h0 := putF_le (f := "habit") (v := hv) []
  have h1 := putF_le (f := "program") (v := pv) (putF "habit" hv [])
  have h2 := putF_le (f := "inputs") (v := iv) (putF "program" pv (putF "habit" hv []))
  have h3 := putF_le (f := "asked") (v := (.int 0)) (putF "inputs" iv (putF "program" pv (putF "habit" hv [])))
  have h4 := putF_le (f := "holding") (v := (.ref l)) (putF "asked" (.int 0) (putF "inputs" iv (putF "program" pv (putF "habit" hv []))))
  have e : ([] : List (Str × V)).length = 0 := rfl
  omega
theorem chl6 (hv pv iv : V) (l t : Addr) : ((putF "hand" (.int 0) (putF "holding" (.ref l) (putF "asked" (.int 0) (putF "inputs" iv (putF "program" pv (putF "habit" hv [])))))) : List (Str × V)).length ≤ 6 := by
  have h0 := putF_le (f := "habit") (v := hv) []
  have h1 := putF_le (f := "program") (v := pv) (putF "habit" hv [])
  have h2 := putF_le (f := "inputs") (v := iv) (putF "program" pv (putF "habit" hv []))
  have h3 := putF_le (f := "asked") (v := (.int 0)) (putF "inputs" iv (putF "program" pv (putF "habit" hv [])))
  have h4 := putF_le (f := "holding") (v := (.ref l)) (putF "asked" (.int 0) (putF "inputs" iv (putF "program" pv (putF "habit" hv []))))
  have h5 := putF_le (f := "hand") (v := (.int 0)) (putF "holding" (.ref l) (putF "asked" (.int 0) (putF "inputs" iv (putF "program" pv (putF "habit" hv [])))))
  have e : ([] : List (Str × V)).length = 0 := rfl
  omega
theorem chl7 (hv pv iv : V) (l t : Addr) : ((putF "at" (.int 0) (putF "hand" (.int 0) (putF "holding" (.ref l) (putF "asked" (.int 0) (putF "inputs" iv (putF "program" pv (putF "habit" hv []))))))) : List (Str × V)).length ≤ 7 := by
  have h0 := putF_le (f := "habit") (v := hv) []
  have h1 := putF_le (f := "program") (v := pv) (putF "habit" hv [])
  have h2 := putF_le (f := "inputs") (v := iv) (putF "program" pv (putF "habit" hv []))
  have h3 := putF_le (f := "asked") (v := (.int 0)) (putF "inputs" iv (putF "program" pv (putF "habit" hv [])))
  have h4 := putF_le (f := "holding") (v := (.ref l)) (putF "asked" (.int 0) (putF "inputs" iv (putF "program" pv (putF "habit" hv []))))
  have h5 := putF_le (f := "hand") (v := (.int 0)) (putF "holding" (.ref l) (putF "asked" (.int 0) (putF "inputs" iv (putF "program" pv (putF "habit" hv [])))))
  have h6 := putF_le (f := "at") (v := (.int 0)) (putF "hand" (.int 0) (putF "holding" (.ref l) (putF "asked" (.int 0) (putF "inputs" iv (putF "program" pv (putF "habit" hv []))))))
  have e : ([] : List (Str × V)).length = 0 := rfl
  omega
end
/-- C(..) by its __init__ -/
structure MkX (P : Program) (w : World) (K : PySem.W.Frag) (mg : Str → Option Value) (base : Heap) (k : Nat) (C : Addr) (sp : Sp) : Prop where
  ex : ∃ (f : Addr) (fd : FuncData) (ps : List Str), FnOk P w K mg base CX0 k f fd ps sp ∧ Mk K C f ∧ Binds K fd ps []
structure DfI (K : PySem.W.Frag) (C : Addr) (q : Str) (st : Stmt) (ps : List Str) : Prop where
  ex : ∃ (f : Addr) (fd : FuncData), Fun K "__init__" q st f fd ∧ Mk K C f ∧ Binds K fd ps []
section
variable {X : Cx} {C : Addr} {x : Str} {sp : Sp} {k j : Nat} {p pos : Pos} {e : Expr} {es : List Expr} {t : TA}
theorem pmk (M : MkX X.prog X.w X.K X.mg X.base k C sp) (hm : X.mg x = some (.ref C)) (hr : Room j X.A) (ha : PA X (e :: es) t) (hk : k + 1 ≤ j := by decide) (hg : Gl X x := by rfl)
    (hdb : (x == ("__debug__" : Str)) = false := by decide) (he : starEach (e :: es) X.env = (false, eval e X.env) :: starEach es X.env := by rfl) (hpl : (backTo pos (starEach es X.env)).any (·.1) = false := by rfl) :
    PE X (.Call (.Name x p) (e :: es) [] pos) (tMake C sp [] E0 t) := by
  obtain ⟨f, fd, ps, F, M, b⟩ := M.ex
  exact pe_make M F (hr.mono hk) hg hm b .nil pass0 ha hdb he hpl
end
theorem rep_ints (n : Nat) : (List.replicate n [V.int 0]).flatten = (List.replicate n (0 : Int)).map V.int := by
  induction n with
  | zero => rfl
  | succ n ih =>
    rw [List.replicate_succ, List.flatten_cons, ih, List.replicate_succ, List.map_cons]
    rfl
section
variable {P : Program} {w : World} {K : PySem.W.Frag} {mg : Str → Option Value} {base : Heap} {C : Addr}
def spInitM (K : PySem.W.Frag) (C : Addr) : Sp := fun vs H Q _ => ∃ (p dx : Addr) (hv pv iv : V) (h : List (List Int)) (n : Nat) (pg : List Ins) (inp : List Int), vs = [.ref p, hv, pv, iv] ∧ H p = some (.ins C dx []) ∧ TII K H hv h ∧ Hb n h ∧ RPg K H pv pg ∧ (∀ i ∈ pg, okIns n pg.length i) ∧ TI K H iv inp ∧
  ∀ H' hl sl dx' fs, H hl = none → H sl = none → (∀ b o, H b = some o → b ≠ p → H' b = some o) → MaP K C ⟨h, n, pg, inp, hv, pv, iv⟩ H' p hl sl dx' fs 0 (startM n) → Q .non H'
theorem tups_ins {H H' : Hp} {p dx : Addr} {fs : List (Str × V)} (hp : H p = some (.ins C dx fs)) (f : ∀ b o, H b = some o → b ≠ p → H' b = some o) : Tups K H H' := fun b xs e => by
  rcases e with (e | ⟨ob, e⟩) | e
  · exact .inl (.inl (f _ _ e (ne_of e hp (fun z => nomatch z))))
  · exact .inl (.inr ⟨ob, f _ _ e (ne_of e hp (fun z => nomatch z))⟩)
  · exact .inr e
theorem ok_initM (F : DfI K C "Machine.__init__" st_m___init__ ["self", "habit", "program", "inputs"]) (B : Bu mg) (T : MaC K mg C) : MkX P w K mg base 1 C (spInitM K C) := by
  obtain ⟨f, fd, F, g, b⟩ := F.ex
  refine ⟨f, fd, _, F.ok sc_m___init__ (fun vs H Q E h => ?_) (fun cdv A outer s H vs Q E hr h => ?_), g, b⟩
  · obtain ⟨p, dx, hv, pv, iv, h, n, pg, inp, rfl, _⟩ := h
    rfl
  · obtain ⟨p, dx, hv, pv', iv, h, n, pg, inp, rfl, hp, hT, hb, hPg, hok, hI, q⟩ := h
    refine ⟨_, PSs.nox (pss_cons (ps_cutM (ps_fld (pv 0) (pv 1) rfl))
      (pss_cons (ps_cutM (ps_fld (pv 0) (pv 2) rfl))
      (pss_cons (ps_cutM (ps_fld (pv 0) (pv 3) rfl))
      (pss_cons (ps_cutM (ps_fld (pv 0) pe_int rfl))
      (pss_cons (ps_cutM (ps_fld (pv 0) (pe_op op_rep (pe_lst (pa_cons pe_int pa_nil)) (pe_callB (cl_len K) (by rfl) B.len PySem.boot_len (pa_cons (pv 1) pa_nil))) rfl))
      (pss_cons (ps_cutM (ps_fld (pv 0) pe_int rfl))
      (pss_cons (ps_cutM (ps_fld (pv 0) pe_int rfl))
      (pss_one (ps_fld (pv 0) (pe_lst pa_nil) rfl))))))))), ?_⟩
    have kp : ∀ {H1 : Hp} {o : HO}, (∀ b o, H b = some o → b ≠ p → H1 b = some o) → ∀ b u, H b = some u → b ≠ p → (upd H1 p o) b = some u := fun f b u e n => by
      rw [upd_ne n]
      exact f b u e n
    have sm : ∀ {k : Nat}, k < 20 → k < 1000 := fun h => by omega
    refine ⟨fun σ H' => σ = [some (.ref p), some hv, some pv', some iv] ∧ (∀ b o, H b = some o → b ≠ p → H' b = some o) ∧ H' p = some (.ins C dx (putF "habit" hv [])), fun σ0 H0 g0 => ?_, ?_⟩
    case refine_2 =>
      exact ⟨_, rfl, _, rfl, p, C, dx, _, rfl, hp, T.cl, T.at "habit", Nat.lt_of_le_of_lt (chl0 hv pv' iv 0 0) (by decide), rfl, kp (fun b o e _ => e), upd_same⟩
    obtain ⟨rfl, f1, p1⟩ := g0
    refine ⟨fun σ H' => σ = [some (.ref p), some hv, some pv', some iv] ∧ (∀ b o, H b = some o → b ≠ p → H' b = some o) ∧ H' p = some (.ins C dx (putF "program" pv' (putF "habit" hv []))), fun σ1 H1 g1 => ?_, ?_⟩
    case refine_2 =>
      exact ⟨_, rfl, _, rfl, p, C, dx, _, rfl, p1, T.cl, T.at "program", Nat.lt_of_le_of_lt (chl1 hv pv' iv 0 0) (by decide), rfl, kp (f1), upd_same⟩
    obtain ⟨rfl, f2, p2⟩ := g1
    refine ⟨fun σ H' => σ = [some (.ref p), some hv, some pv', some iv] ∧ (∀ b o, H b = some o → b ≠ p → H' b = some o) ∧ H' p = some (.ins C dx (putF "inputs" iv (putF "program" pv' (putF "habit" hv [])))), fun σ2 H2 g2 => ?_, ?_⟩
    case refine_2 =>
      exact ⟨_, rfl, _, rfl, p, C, dx, _, rfl, p2, T.cl, T.at "inputs", Nat.lt_of_le_of_lt (chl2 hv pv' iv 0 0) (by decide), rfl, kp (f2), upd_same⟩
    obtain ⟨rfl, f3, p3⟩ := g2
    refine ⟨fun σ H' => σ = [some (.ref p), some hv, some pv', some iv] ∧ (∀ b o, H b = some o → b ≠ p → H' b = some o) ∧ H' p = some (.ins C dx (putF "asked" (.int 0) (putF "inputs" iv (putF "program" pv' (putF "habit" hv []))))), fun σ3 H3 g3 => ?_, ?_⟩
    case refine_2 =>
      exact ⟨_, rfl, p, C, dx, _, rfl, p3, T.cl, T.at "asked", Nat.lt_of_le_of_lt (chl3 hv pv' iv 0 0) (by decide), rfl, kp (f3), upd_same⟩
    obtain ⟨rfl, f4, p4⟩ := g3
    refine ⟨fun σ H' => σ = [some (.ref p), some hv, some pv', some iv] ∧ (∀ b o, H b = some o → b ≠ p → H' b = some o) ∧ ∃ l, H l = none ∧ H' l = some (.lst ((List.replicate n (0 : Int)).map V.int)) ∧ H' p = some (.ins C dx (putF "holding" (.ref l) (putF "asked" (.int 0) (putF "inputs" iv (putF "program" pv' (putF "habit" hv [])))))), fun σ4 H4 g4 => ?_, ?_⟩
    case refine_2 =>
      have hT1 := hT.on (tups_ins hp f4)
      obtain ⟨ah, xs, rfl, hS, hE⟩ := hT1
      have hxl : xs.length = n := hE.len.trans hb.len
      have n5 := hb.hi
      refine ⟨by show 1 ≤ sizeLine; decide, fun z hz => ⟨_, rfl, ah, xs, rfl, .inr (onT (same_new hz) hS), z, (xs.length : Int), [.int 0], rfl, rfl, upd_same, by omega, by omega, ?_, fun l hl => ?_⟩⟩
      · rw [Int.toNat_natCast, hxl]
        exact Nat.le_of_lt (small1000 (by show 1 * n ≤ 1000; omega))
      rw [Int.toNat_natCast, hxl, rep_ints]
      have s1 := same_new (o := .lst [.int 0]) hz
      have s2 := s1.trans (same_new (o := .lst ((List.replicate n (0 : Int)).map V.int)) hl)
      have pl2 := s2 _ _ p4
      have npl : l ≠ p := fun e => by
        rw [e] at hl
        have := s1 _ _ p4
        rw [hl] at this
        cases this
      have hl0 : H l = none := by
        cases e : H l with
        | none => rfl
        | some u =>
          have := s1 _ _ (f4 _ _ e npl)
          rw [hl] at this
          cases this
      exact ⟨_, rfl, p, C, dx, _, rfl, pl2, T.cl, T.at "holding", Nat.lt_of_le_of_lt (chl4 (.ref ah) pv' iv 0 0) (by decide), rfl, kp (fun b u e n => s2 _ _ (f4 _ _ e n)), l, hl0, by rw [upd_ne npl, upd_same], upd_same⟩
    obtain ⟨rfl, f5, l, hl0, el5, p5⟩ := g4
    have npl : l ≠ p := ne_of el5 p5 (fun z => nomatch z)
    refine ⟨fun σ H' => σ = [some (.ref p), some hv, some pv', some iv] ∧ (∀ b o, H b = some o → b ≠ p → H' b = some o) ∧ ∃ l, H l = none ∧ H' l = some (.lst ((List.replicate n (0 : Int)).map V.int)) ∧ H' p = some (.ins C dx (putF "hand" (.int 0) (putF "holding" (.ref l) (putF "asked" (.int 0) (putF "inputs" iv (putF "program" pv' (putF "habit" hv []))))))), fun σ5 H5 g5 => ?_, ?_⟩
    case refine_2 =>
      exact ⟨_, rfl, p, C, dx, _, rfl, p5, T.cl, T.at "hand", Nat.lt_of_le_of_lt (chl5 hv pv' iv l 0) (by decide), rfl, kp f5, l, hl0, by rw [upd_ne npl]; exact el5, upd_same⟩
    obtain ⟨rfl, f6, l, hl0, el6, p6⟩ := g5
    have npl : l ≠ p := ne_of el6 p6 (fun z => nomatch z)
    refine ⟨fun σ H' => σ = [some (.ref p), some hv, some pv', some iv] ∧ (∀ b o, H b = some o → b ≠ p → H' b = some o) ∧ ∃ l, H l = none ∧ H' l = some (.lst ((List.replicate n (0 : Int)).map V.int)) ∧ H' p = some (.ins C dx (putF "at" (.int 0) (putF "hand" (.int 0) (putF "holding" (.ref l) (putF "asked" (.int 0) (putF "inputs" iv (putF "program" pv' (putF "habit" hv [])))))))), fun σ6 H6 g6 => ?_, ?_⟩
    case refine_2 =>
      exact ⟨_, rfl, p, C, dx, _, rfl, p6, T.cl, T.at "at", Nat.lt_of_le_of_lt (chl6 hv pv' iv l 0) (by decide), rfl, kp f6, l, hl0, by rw [upd_ne npl]; exact el6, upd_same⟩
    obtain ⟨rfl, f7, l, hl0, el7, p7⟩ := g6
    have npl : l ≠ p := ne_of el7 p7 (fun z => nomatch z)
    refine ⟨Nat.zero_le _, fun t ht => ?_⟩
    have s1 := same_new (o := .lst []) ht
    have npt : t ≠ p := (ne_of_none p7 ht).symm
    have nlt : l ≠ t := ne_of_none el7 ht
    have ht0 : H t = none := by
      cases e : H t with
      | none => rfl
      | some u =>
        have := f7 _ _ e npt
        rw [ht] at this
        cases this
    refine ⟨_, rfl, p, C, dx, _, rfl, s1 _ _ p7, T.cl, T.at "said", Nat.lt_of_le_of_lt (chl7 hv pv' iv l 0) (by decide), ?_⟩
    have ff : ∀ b o, H b = some o → b ≠ p → (upd (upd H6 t (.lst [])) p (.ins C dx (FM hv pv' iv l t))) b = some o := kp (fun b u e n => s1 _ _ (f7 _ _ e n))
    have tu := tups_ins (K := K) hp ff
    exact q _ l t dx (FM hv pv' iv l t) hl0 ht0 ff ⟨upd_same, FM_1, FM_2, FM_3, FM_4, FM_5, FM_6, FM_7, FM_8, FM_no, FM_len, by rw [upd_ne npl]; exact s1 _ _ el7, by rw [upd_ne npt, upd_same]; rfl, nlt, hT.on tu, hb, List.length_replicate, hPg.on tu, hok, hI.on tu, Nat.zero_le _, Nat.zero_le _, Nat.le_refl _, Nat.zero_le _⟩
end
end RH
set_option Elab.async false
set_option linter.all false
set_option maxRecDepth 100000
set_option maxHeartbeats 2000000
namespace RH
open PySem PySem.Spec PyProof.Rows L2
/-! ### a run -/
section
variable {h : List (List Int)} {inp : List Int} {pg : List Ins}
theorem runM_succ : ∀ (m : Nat) (s : MS), runM h inp pg (m + 1) s = match pg[(runM h inp pg m s).pos]? with
    | none => runM h inp pg m s
    | some i => if i = .stop then runM h inp pg m s else stepM h inp i (runM h inp pg m s)
  | 0, s => by
    unfold runM
    rfl
  | m + 1, s => by
    have ih := fun s => runM_succ m s
    rw [show runM h inp pg (m + 1 + 1) s = (match pg[s.pos]? with
      | none => s
      | some i => if i = .stop then s else runM h inp pg (m + 1) (stepM h inp i s)) from rfl]
    rw [show runM h inp pg (m + 1) s = (match pg[s.pos]? with
      | none => s
      | some i => if i = .stop then s else runM h inp pg m (stepM h inp i s)) from rfl]
    cases e : pg[s.pos]? with
    | none => rw [e]
    | some i =>
      dsimp only
      by_cases hi : i = .stop
      · rw [if_pos hi, if_pos hi, e]
        dsimp only
        rw [if_pos hi]
      · rw [if_neg hi, if_neg hi]
        exact ih _
theorem runM_stop {m : Nat} {s : MS} (e : endM pg (runM h inp pg m s).pos = true) : ∀ j, runM h inp pg (m + j) s = runM h inp pg m s
  | 0 => rfl
  | j + 1 => by
    rw [show m + (j + 1) = (m + j) + 1 from rfl, runM_succ, runM_stop e j]
    unfold endM at e
    cases q : pg[(runM h inp pg m s).pos]? with
    | none => rfl
    | some i =>
      rw [q] at e
      have : i = .stop := of_decide_eq_true e
      dsimp only
      rw [if_pos this]
theorem runM_go {m : Nat} {s : MS} (e : endM pg (runM h inp pg m s).pos = false) : ∃ i, pg[(runM h inp pg m s).pos]? = some i ∧ i ≠ .stop ∧ runM h inp pg (m + 1) s = stepM h inp i (runM h inp pg m s) := by
  unfold endM at e
  cases q : pg[(runM h inp pg m s).pos]? with
  | none =>
    rw [q] at e
    cases e
  | some i =>
    rw [q] at e
    have ne : i ≠ .stop := of_decide_eq_false e
    refine ⟨i, rfl, ne, ?_⟩
    rw [runM_succ, q]
    dsimp only
    rw [if_neg ne]
end
theorem none_ofM {H H' : Hp} (s : Same H H') {b : Addr} (e : H' b = none) : H b = none := by
  cases q : H b with
  | none => rfl
  | some o =>
    have := s _ _ q
    rw [e] at this
    cases this
def endW (pg : List Ins) (s : MS) : Str := if endM pg s.pos = true then "stopped" else "running"
section
variable {P : Program} {w : World} {K : PySem.W.Frag} {mg : Str → Option Value} {base : Heap} {C : Addr}
/-- a machine's run: habit, program, inputs, so many instructions -/
structure RunA (K : PySem.W.Frag) (H : Hp) (hv pv iv : V) (h : List (List Int)) (n : Nat) (pg : List Ins) (inp : List Int) : Prop where
  hT : TII K H hv h
  hb : Hb n h
  hp : RPg K H pv pg
  ok : ∀ i ∈ pg, okIns n pg.length i
  hi : TI K H iv inp
theorem RunA.on {H H' : Hp} {hv pv iv : V} {h : List (List Int)} {n : Nat} {pg : List Ins} {inp : List Int} (e : Same H H') (r : RunA K H hv pv iv h n pg inp) : RunA K H' hv pv iv h n pg inp := ⟨r.hT.on (Same.tups e), r.hb, r.hp.on (Same.tups e), r.ok, r.hi.on (Same.tups e)⟩
def spRunM (K : PySem.W.Frag) : Sp := fun vs H Q _ => ∃ (hv pv iv : V) (h : List (List Int)) (n : Nat) (pg : List Ins) (inp : List Int) (k : Nat), vs = [hv, pv, iv, .int (k : Int)] ∧ RunA K H hv pv iv h n pg inp ∧ k ≤ 100000 ∧
  ∀ H' t sa, Same H H' → H' t = some (.tup [.ref sa, .str (endW pg (runM h inp pg k (startM n)))]) → H' sa = some (.tup ((runM h inp pg k (startM n)).said.map V.int)) → Q (.ref t) H'
theorem ok_run (F : Df K mg "run" st_run ["habit", "program", "inputs", "most"]) (B : Bu mg) (T : MaC K mg C) (MI : MkX P w K mg base 1 C (spInitM K C)) (MD : MetX P w K mg base 2 C "is_done" (spDone K C)) (MS : MetX P w K mg base 3 C "step" (spStepM K C)) : CalX P w K mg base 4 "run" (spRunM K) := by
  refine mkCalX F sc_run (fun vs H Q E h => ?_) (fun f cdv A outer s H vs Q E hr h => ?_)
  · obtain ⟨hv, pv, iv, h, n, pg, inp, k, rfl, _⟩ := h
    rfl
  · obtain ⟨hv, pv', iv, h, n, pg, inp, k, rfl, R, hk, q⟩ := h
    refine ⟨_, pss_cons (ps_cutM (ps_set (i := 4) sc_run.nd rfl (.inl rfl) (pmk MI T.g hr (pa_cons (pv 0) (pa_cons (pv 1) (pa_cons (pv 2) pa_nil))))))
      (pss_cons (ps_cutM (ps_for (passes_of rfl) rfl (pi_range1 (by rfl) B.range (pa_cons (pv 3) pa_nil)) (pg_name (i := 5) sc_run.nd rfl (.inl rfl))
        (pss_cons (ps_if (pt_val (pm0 MD T.cl passE hr (pv 4))) (pss_one ps_break) pss_nil) (pss_one (ps_expr (pm0 MS T.cl passE hr (pv 4)))))))
      (pss_cons (ps_set (i := 6) sc_run.nd rfl (.inl rfl) (pe_ifExp (pt_val (pm0 MD T.cl passE hr (pv 4))) pe_str pe_str))
      (pss_one (ps_ret (pe_tup (pa_cons (pe_tupleOf (by rfl) B.tuple (pe_fld (pv 4) rfl)) (pa_cons (pv 6) pa_nil))))))), ?_⟩
    let m : MaK := ⟨h, n, pg, inp, hv, pv', iv⟩
    refine ⟨fun σ' H' => ∃ p hl sl, σ' = [some hv, some pv', some iv, some (.int (k : Int)), some (.ref p), none, none] ∧ Same H H' ∧ H p = none ∧ H hl = none ∧ H sl = none ∧ MaS K C m H' p hl sl 0 (startM n), fun σ' H1 g1 => ?_, ?_⟩
    case refine_2 =>
      refine ⟨_, rfl, _, rfl, _, rfl, fun p dx hp hdx ne => ?_⟩
      have s1 := same_new (o := .own p) hdx
      have hp1 : (upd H dx (.own p)) p = none := by rw [upd_ne (Ne.symm ne)]; exact hp
      have s2 := s1.trans (same_new (o := .ins C dx []) hp1)
      have R2 := R.on s2
      refine ⟨p, dx, hv, pv', iv, h, n, pg, inp, rfl, upd_same, R2.hT, R2.hb, R2.hp, R2.ok, R2.hi, fun H1 hl sl dx' fs e1 e2 fr S => ⟨rfl, p, hl, sl, rfl, fun b o e => fr b o (s2 _ _ e) (ne_of_none e hp), hp, ?_, ?_, dx', fs, S⟩⟩
      · exact none_ofM s2 e1
      · exact none_ofM s2 e2
    obtain ⟨p, hl, sl, rfl, sm, hp0, hl0, sl0, S0⟩ := g1
    have same3 : ∀ {H2 H3 : Hp}, Same H H2 → Fr3 p hl sl H2 H3 → Same H H3 := fun a f b o e => f b o (a b o e) (ne_of_none e hp0) (ne_of_none e hl0) (ne_of_none e sl0)
    refine ⟨fun σ' H' => ∃ y5, σ' = [some hv, some pv', some iv, some (.int (k : Int)), some (.ref p), y5, none] ∧ Same H H' ∧ MaS K C m H' p hl sl 100000 (runM h inp pg k (startM n)), fun σ' H2 g2 => ?_, ?_⟩
    case refine_2 =>
      refine ⟨_, rfl, (k : Int), rfl, by omega, by omega, ?_⟩
      rw [Int.toNat_natCast]
      refine for_range (lo := 0) (n := k) (fun i σ H' => ∃ y5, σ = [some hv, some pv', some iv, some (.int (k : Int)), some (.ref p), y5, none] ∧ Same H H' ∧ MaS K C m H' p hl sl i (runM h inp pg i (startM n))) ⟨none, rfl, sm, S0⟩ (fun i σ H' hi h' => ?_) (fun σ H' h' => ?_)
      · obtain ⟨y5, rfl, sm1, dx1, fs1, S1⟩ := h'
        refine ⟨_, rfl, p, dx1, fs1, rfl, S1.ob, no_met S1.no "is_done", m, p, hl, sl, dx1, fs1, _, _, rfl, S1, fun H2 s2 => ⟨_, rfl, ?_⟩⟩
        have S2 := S1.same s2
        cases e : endM m.pg (runM h inp pg i (startM n)).pos with
        | true =>
          refine ifT rfl ⟨_, rfl, sm1.trans s2, dx1, fs1, ?_⟩
          have : k = i + (k - i) := by omega
          rw [this, runM_stop e]
          exact S2.more (by omega) (by decide)
        | false =>
          obtain ⟨ins, hin, hne, er⟩ := runM_go e
          refine ifF rfl ⟨_, rfl, p, dx1, fs1, rfl, S2.ob, no_met S2.no "step", m, p, hl, sl, dx1, fs1, i, _, ins, rfl, S2, hin, hne, by omega, fun H3 f3 S3 => ⟨_, rfl, same3 (sm1.trans s2) f3, ?_⟩⟩
          rw [er]
          exact S3
      · obtain ⟨y5, rfl, sm1, dx1, fs1, S1⟩ := h'
        exact ⟨_, rfl, sm1, dx1, fs1, S1.more hk (by decide)⟩
    obtain ⟨y5, rfl, sm2, dx, fs, S⟩ := g2
    refine ⟨_, rfl, p, dx, fs, rfl, S.ob, no_met S.no "is_done", m, p, hl, sl, dx, fs, _, _, rfl, S, fun H3 s3 => ⟨_, rfl, ?_⟩⟩
    have S3 := S.same s3
    have fin : ∀ z : Str, z = endW pg (runM h inp pg k (startM n)) → tRet (tTup (tCons (tThen (tFld K (tVar 4) "said") (kTup K)) (tCons (tVar 6) tNil))) { nx := fun _ H' => Q .non H', rt := Q } [some hv, some pv', some iv, some (.int (k : Int)), some (.ref p), y5, some (.str z)] H3 := fun z ez => by
      refine ⟨_, rfl, p, C, dx, fs, _, rfl, S3.ob, T.cl, T.at "said", S3.l8, .inl ⟨sl, _, rfl, lstAt S3.sd, fun sa hsa => ⟨_, rfl, by show 2 ≤ sizeLine; decide, fun t ht => ?_⟩⟩⟩
      have s4 := same_new (o := .tup ((runM h inp pg k (startM n)).said.map V.int)) hsa
      have s5 := same_new (o := .tup [.ref sa, .str z]) ht
      refine q _ t sa (sm2.trans (s3.trans (s4.trans s5))) ?_ (s5 _ _ upd_same)
      rw [upd_same, ez]
    cases e : endM m.pg (runM h inp pg k (startM n)).pos with
    | true => exact ifT rfl (fin "stopped" (by unfold endW; rw [if_pos (show endM pg _ = true from e)]))
    | false => exact ifF rfl (fin "running" (by unfold endW; rw [if_neg (by rw [show endM pg _ = false from e]; decide)]))
end
end RH
set_option Elab.async false
set_option linter.all false
set_option maxRecDepth 100000
set_option maxHeartbeats 2000000
namespace RH
open PySem PySem.Spec PyProof.Rows L2
/-! ### runs and flows, where they refuse -/
/-- are they inputs? -/
def inpW : Option (List V) → Bool
  | some xs => decide (xs.length ≤ 50) && xs.all (inV2 (-1000000) 1000000)
  | none => false
section
variable {P : Program} {w : World} {K : PySem.W.Frag} {mg : Str → Option Value} {base : Heap} {C Cb Cn Cg Ci : Addr}
def spCheckInp (K : PySem.W.Frag) (Ci : Addr) : Sp := fun vs H Q E => ∃ (v : V) (wo : Option (List V)), vs = [v] ∧ Wd K H v wo ∧ (inpW wo = true → ∀ H', Same H H' → Q .non H') ∧ (inpW wo = false → noE Ci H E)
theorem ok_check_inputsX (F : Df K mg "check_inputs" st_check_inputs ["inputs"]) (B : Bu mg) (c50 : ∃ t, mg "MOST_INPUTS" = some (.int 50 t)) (great : ∃ t, mg "GREATEST" = some (.int 1000000 t)) (Xi : ExO K mg "BadInputs" Ci) (C1 : Cal P w K mg base 1 "is_row" (spIsRowW K)) (C2 : Cal P w K mg base 2 "is_number" (spIsNumberW K)) : CalX P w K mg base 3 "check_inputs" (spCheckInp K Ci) := by
  refine mkCalX F sc_check_inputs (fun vs H Q E h => ?_) (fun f cdv A outer s H vs Q E hr h => ?_)
  · obtain ⟨v, wo, rfl, _⟩ := h
    rfl
  · obtain ⟨v, wo, rfl, hw, q1, q2⟩ := h
    refine ⟨_, pss_cons (ps_if (pt_not (pt_val (pc C1 hr (pa_cons (pv 0) (pa_cons pe_int (pa_cons (pk c50) pa_nil)))))) (pss_one (ps_raise rfl takesE (pmk_own PySem.F.excBase_ValueError Xi.q Xi.g Xi.k (raises_own Xi.b Xi.t) rfl))) pss_nil)
      (pss_one (ps_if (pt_not (pt_val (pe_callB (cr_all rfl) (by rfl) B.all (by decide +kernel) (pa_cons (pe_lc (own := [("number", 1)]) (g := gName 1) (tt := tYes) rfl sc_check_inputs.nd (pi_tup (pv 0)) (blkOk_by (N := ["inputs", "number"]) (sc := defScope st_check_inputs) (by decide +kernel))
        (fun _ _ _ _ _ => pg_name (i := 1) sc_check_inputs.nd rfl (Or.inl rfl)) (fun _ _ _ _ _ => pts_nil) (fun _ _ _ _ _ => pc C2 hr (pa_cons (pv 1) (pa_cons (pe_un un_neg (pk great)) (pa_cons (pk great) pa_nil))))) pa_nil)))) (pss_one (ps_raise rfl takesE (pmk_own PySem.F.excBase_ValueError Xi.q Xi.g Xi.k (raises_own Xi.b Xi.t) rfl))) pss_nil)), ?_⟩
    refine ⟨_, rfl, v, wo, 0, 50, rfl, hw.t, _, rfl, ?_⟩
    cases er : rowW 0 50 wo with
    | false =>
      refine ifT rfl (q2 ?_ H (Same.refl H))
      cases wo with
      | none => rfl
      | some xs =>
        have er : (decide ((0 : Int) ≤ (xs.length : Int)) && decide ((xs.length : Int) ≤ 50)) = false := er
        rw [decide_eq_true (by omega), Bool.true_and] at er
        have := of_decide_eq_false er
        show (decide (xs.length ≤ 50) && _) = false
        rw [decide_eq_false (by omega), Bool.false_and]
    | true =>
      refine ifF rfl ?_
      obtain ⟨ht, hsw, hlen⟩ := hw
      cases ht with
      | @tup a xs hS =>
        have hl := hlen xs rfl
        have hx := hsw xs rfl
        have er : (decide ((0 : Int) ≤ (xs.length : Int)) && decide ((xs.length : Int) ≤ 50)) = true := er
        rw [Bool.and_eq_true, decide_eq_true_iff, decide_eq_true_iff] at er
        have e0 : inpW (some xs) = xs.all (inV2 (-1000000) 1000000) := by
          show (decide (xs.length ≤ 50) && _) = _
          rw [decide_eq_true (by omega), Bool.true_and]
        refine ⟨_, rfl, a, rfl, ⟨_, hS⟩, fun D hD => ?_⟩
        refine lc_tup (xs := xs) (fun i H' => Same H H' ∧ H' D = some (.lst (((xs.take i).map (inV2 (-1000000) 1000000)).map V.bl))) ⟨same_new hD, upd_same⟩ (fun i H' _ h' => onT h'.1 hS) (fun i x H' hi h' => ?_) (fun H' h' => ?_)
        · obtain ⟨sm, eD⟩ := h'
          refine ⟨rfl, _, rfl, 1000000, rfl, x, -1000000, 1000000, rfl, (hx x (List.mem_of_getElem? hi)).on sm, _, eD, ?_, ?_, ?_⟩
          · rw [List.length_map, List.length_map, List.length_take]
            exact small1000 (by omega)
          · intro b o e
            rw [upd_ne (ne_of_none e hD)]
            exact sm b o e
          · rw [upd_same, all_snoc _ hi, List.map_append]
            rfl
        · obtain ⟨sm, eD⟩ := h'
          rw [List.take_length] at eD
          refine ⟨D, _, rfl, lstAt eD, _, rfl, ?_⟩
          have e : ((xs.map (inV2 (-1000000) 1000000)).all id) = inpW (some xs) := by
            rw [e0, List.all_map]
            rfl
          rw [e]
          cases ei : inpW (some xs) with
          | true => exact ifF rfl (q1 ei H' sm)
          | false => exact ifT rfl (q2 ei H' sm)
      | _ => cases er
def spCheckNumS (K : PySem.W.Frag) (C : Addr) : Sp := fun vs H Q E => ∃ v : V, vs = [v, .int 0, .int 5000] ∧ Sw K H v ∧ (inV2 0 5000 v = true → Q .non H) ∧ (inV2 0 5000 v = false → E (.ref C) none H)
theorem ok_check_numberS {C : Addr} (F : Df K mg "check_number" st_check_number ["value", "low", "high"]) (Xn : ExO K mg "BadNumber" C) (C2 : Cal P w K mg base 2 "is_number" (spIsNumberW K)) : CalX P w K mg base 3 "check_number" (spCheckNumS K C) := by
  refine mkCalX F sc_check_number (fun vs H Q E h => ?_) (fun f cdv A outer s H vs Q E hr h => ?_)
  · obtain ⟨v, rfl, _⟩ := h
    rfl
  · obtain ⟨v, rfl, hv, q1, q2⟩ := h
    refine ⟨_, pss_one (ps_if (pt_not (pt_val (pc C2 hr (pa_cons (pv 0) (pa_cons (pv 1) (pa_cons (pv 2) pa_nil)))))) (pss_one (ps_raise rfl takesE (SkE.pmk_own1 PySem.F.excBase_ValueError Xn.q Xn.g Xn.k (raises_own Xn.b Xn.t) rfl
      (pe_joined (.cons pe_str (.cons (pe_fmt (pv 1)) (.cons pe_str (.cons (pe_fmt (pv 2)) .nil)))))))) pss_nil), ?_⟩
    refine ⟨_, rfl, _, rfl, _, rfl, v, 0, 5000, rfl, hv, _, rfl, ?_⟩
    cases el : inV2 0 5000 v with
    | true => exact ifF rfl (q1 el)
    | false =>
      refine ifT rfl ?_
      refine ⟨_, rfl, ?_, _, rfl, .inr ⟨0, rfl, by decide +kernel, _, rfl, ?_, _, rfl, ?_, _, rfl, .inr ⟨5000, rfl, by decide +kernel, _, rfl, ?_, q2 el⟩⟩⟩ <;> (rw [sizeLine_eq]; decide +kernel)
def spCheckNumR (K : PySem.W.Frag) (C : Addr) : Sp := fun vs H Q E => ∃ v : V, vs = [v, .int 0, .int 100000] ∧ Sw K H v ∧ (inV2 0 100000 v = true → Q .non H) ∧ (inV2 0 100000 v = false → E (.ref C) none H)
theorem ok_check_numberR {C : Addr} (F : Df K mg "check_number" st_check_number ["value", "low", "high"]) (Xn : ExO K mg "BadNumber" C) (C2 : Cal P w K mg base 2 "is_number" (spIsNumberW K)) : CalX P w K mg base 3 "check_number" (spCheckNumR K C) := by
  refine mkCalX F sc_check_number (fun vs H Q E h => ?_) (fun f cdv A outer s H vs Q E hr h => ?_)
  · obtain ⟨v, rfl, _⟩ := h
    rfl
  · obtain ⟨v, rfl, hv, q1, q2⟩ := h
    refine ⟨_, pss_one (ps_if (pt_not (pt_val (pc C2 hr (pa_cons (pv 0) (pa_cons (pv 1) (pa_cons (pv 2) pa_nil)))))) (pss_one (ps_raise rfl takesE (SkE.pmk_own1 PySem.F.excBase_ValueError Xn.q Xn.g Xn.k (raises_own Xn.b Xn.t) rfl
      (pe_joined (.cons pe_str (.cons (pe_fmt (pv 1)) (.cons pe_str (.cons (pe_fmt (pv 2)) .nil)))))))) pss_nil), ?_⟩
    refine ⟨_, rfl, _, rfl, _, rfl, v, 0, 100000, rfl, hv, _, rfl, ?_⟩
    cases el : inV2 0 100000 v with
    | true => exact ifF rfl (q1 el)
    | false =>
      refine ifT rfl ?_
      refine ⟨_, rfl, ?_, _, rfl, .inr ⟨0, rfl, by decide +kernel, _, rfl, ?_, _, rfl, ?_, _, rfl, .inr ⟨100000, rfl, by decide +kernel, _, rfl, ?_, q2 el⟩⟩⟩ <;> (rw [sizeLine_eq]; decide +kernel)
theorem ok_flowX (F : Df K mg "flow" st_flow ["places", "program"]) (CP : CalX P w K mg base 4 "check_places" (spCheckPlacesX K Cn)) (CG : CalX P w K mg base 6 "check_still" (spCheckPg2 K Cg 200 false)) : CalX P w K mg base 7 "flow" (spPg K Cn Cg 200 false) := by
  refine mkCalX F sc_flow (fun vs H Q E h => ?_) (fun f cdv A outer s H vs Q E hr h => ?_)
  · obtain ⟨v1, v2, rfl, _⟩ := h
    rfl
  · obtain ⟨v1, v2, rfl, hv, h⟩ := h
    refine ⟨_, pss_cons (ps_expr (pcX CP passE hr (pa_cons (pv 0) pa_nil))) (pss_cons (ps_expr (pcX CG passE hr (pa_cons (pv 1) (pa_cons (pv 0) pa_nil)))) (pss_one ps_no)), _, rfl, v1, rfl, hv, fun e => ?_, fun e => ?_⟩
    · rcases h with ⟨bad, _⟩ | ⟨n, ho, pl, rfl, _, hk, hp, hv, he⟩
      · rw [e] at bad
        cases bad
      · exact ⟨_, rfl, _, rfl, v2, ho, n, rfl, hk, fun z => (by rw [hp] at z; cases z), fun pl' z => by rw [hp] at z; cases z; exact ⟨hv, he⟩⟩
    · rcases h with ⟨_, he⟩ | ⟨n, ho, pl, rfl, good, _⟩
      · exact he H (Same.refl H)
      · rw [e] at good
        cases good
theorem ok_reachedX (F : Df K mg "reached" st_reached ["places", "program"]) (CP : CalX P w K mg base 4 "check_places" (spCheckPlacesX K Cn)) (CG : CalX P w K mg base 6 "check_still" (spCheckPg2 K Cg 200 false)) : CalX P w K mg base 7 "reached" (spPg K Cn Cg 200 false) := by
  refine mkCalX F sc_reached (fun vs H Q E h => ?_) (fun f cdv A outer s H vs Q E hr h => ?_)
  · obtain ⟨v1, v2, rfl, _⟩ := h
    rfl
  · obtain ⟨v1, v2, rfl, hv, h⟩ := h
    refine ⟨_, pss_cons (ps_expr (pcX CP passE hr (pa_cons (pv 0) pa_nil))) (pss_cons (ps_expr (pcX CG passE hr (pa_cons (pv 1) (pa_cons (pv 0) pa_nil)))) (pss_one ps_no)), _, rfl, v1, rfl, hv, fun e => ?_, fun e => ?_⟩
    · rcases h with ⟨bad, _⟩ | ⟨n, ho, pl, rfl, _, hk, hp, hv, he⟩
      · rw [e] at bad
        cases bad
      · exact ⟨_, rfl, _, rfl, v2, ho, n, rfl, hk, fun z => (by rw [hp] at z; cases z), fun pl' z => by rw [hp] at z; cases z; exact ⟨hv, he⟩⟩
    · rcases h with ⟨_, he⟩ | ⟨n, ho, pl, rfl, good, _⟩
      · exact he H (Same.refl H)
      · rw [e] at good
        cases good
theorem ok_usedX (F : Df K mg "used" st_used ["places", "program"]) (CP : CalX P w K mg base 4 "check_places" (spCheckPlacesX K Cn)) (CG : CalX P w K mg base 6 "check_still" (spCheckPg2 K Cg 200 false)) : CalX P w K mg base 7 "used" (spPg K Cn Cg 200 false) := by
  refine mkCalX F sc_used (fun vs H Q E h => ?_) (fun f cdv A outer s H vs Q E hr h => ?_)
  · obtain ⟨v1, v2, rfl, _⟩ := h
    rfl
  · obtain ⟨v1, v2, rfl, hv, h⟩ := h
    refine ⟨_, pss_cons (ps_expr (pcX CP passE hr (pa_cons (pv 0) pa_nil))) (pss_cons (ps_expr (pcX CG passE hr (pa_cons (pv 1) (pa_cons (pv 0) pa_nil)))) (pss_one ps_no)), _, rfl, v1, rfl, hv, fun e => ?_, fun e => ?_⟩
    · rcases h with ⟨bad, _⟩ | ⟨n, ho, pl, rfl, _, hk, hp, hv, he⟩
      · rw [e] at bad
        cases bad
      · exact ⟨_, rfl, _, rfl, v2, ho, n, rfl, hk, fun z => (by rw [hp] at z; cases z), fun pl' z => by rw [hp] at z; cases z; exact ⟨hv, he⟩⟩
    · rcases h with ⟨_, he⟩ | ⟨n, ho, pl, rfl, good, _⟩
      · exact he H (Same.refl H)
      · rw [e] at good
        cases good
/-- no program; or no inputs, or what is asked of the number -/
def badRun (K : PySem.W.Frag) (Cg Ci : Addr) (n most : Int) (rl : Bool) (H : Hp) (v2 v3 : V) (E : XK) (R : Prop) : Prop := ∃ ho : Option (List (Option (List V))), Hk K H v2 ho ∧ ((∃ pl, pgBad n most rl ho = some pl ∧ plV pl ∧ bhE Cg "index" pl H E) ∨
  (pgBad n most rl ho = none ∧ ∃ wo, Wd K H v3 wo ∧ ((inpW wo = false ∧ noE Ci H E) ∨ (inpW wo = true ∧ R))))
def spStillX (K : PySem.W.Frag) (Cn Cg Ci : Addr) : Sp := fun vs H Q E => ∃ v1 v2 v3 v4, vs = [v1, v2, v3, v4] ∧ Sw K H v1 ∧ ((inV2 2 5 v1 = false ∧ noE Cn H E) ∨ ∃ n : Int, v1 = .int n ∧ inV2 2 5 v1 = true ∧ badRun K Cg Ci n 200 false H v2 v3 E (Sw K H v4 ∧ inV2 0 5000 v4 = false ∧ noE Cn H E))
theorem ok_run_stillX (F : Df K mg "run_still" st_run_still ["places", "program", "inputs", "most"]) (c5000 : ∃ t, mg "MOST_STILL_STEPS" = some (.int 5000 t)) (CP : CalX P w K mg base 4 "check_places" (spCheckPlacesX K Cn)) (CG : CalX P w K mg base 6 "check_still" (spCheckPg2 K Cg 200 false)) (CI : CalX P w K mg base 3 "check_inputs" (spCheckInp K Ci)) (CN : CalX P w K mg base 3 "check_number" (spCheckNumS K Cn)) :
    CalX P w K mg base 7 "run_still" (spStillX K Cn Cg Ci) := by
  refine mkCalX F sc_run_still (fun vs H Q E h => ?_) (fun f cdv A outer s H vs Q E hr h => ?_)
  · obtain ⟨v1, v2, v3, v4, rfl, _⟩ := h
    rfl
  · obtain ⟨v1, v2, v3, v4, rfl, hv, h⟩ := h
    refine ⟨_, pss_cons (ps_expr (pcX CP passE hr (pa_cons (pv 0) pa_nil))) (pss_cons (ps_expr (pcX CG passE hr (pa_cons (pv 1) (pa_cons (pv 0) pa_nil)))) (pss_cons (ps_expr (pcX CI passE hr (pa_cons (pv 2) pa_nil))) (pss_cons (ps_expr (pcX CN passE hr (pa_cons (pv 3) (pa_cons pe_int (pa_cons (pk c5000) pa_nil))))) (pss_cons ps_no (pss_one ps_no))))), _, rfl, v1, rfl, hv, fun e => ?_, fun e => ?_⟩
    · rcases h with ⟨bad, _⟩ | ⟨n, rfl, _, ho, hk, h⟩
      · rw [e] at bad
        cases bad
      · rcases h with ⟨pl, hp, hpl, he⟩ | ⟨hg, wo, hw, h⟩
        · exact ⟨_, rfl, _, rfl, v2, ho, n, rfl, hk, fun z => (by rw [hp] at z; cases z), fun pl' z => by rw [hp] at z; cases z; exact ⟨hpl, he⟩⟩
        · refine ⟨_, rfl, _, rfl, v2, ho, n, rfl, hk, fun _ H1 s1 => ?_, fun pl' z => (by rw [hg] at z; cases z)⟩
          rcases h with ⟨hi, he⟩ | ⟨hi, h4, hn, he⟩
          · exact ⟨_, rfl, v3, wo, rfl, hw.on s1, fun z => (by rw [hi] at z; cases z), fun _ => he.on s1⟩
          · refine ⟨_, rfl, v3, wo, rfl, hw.on s1, fun _ H2 s2 => ?_, fun z => (by rw [hi] at z; cases z)⟩
            exact ⟨_, rfl, v4, rfl, h4.on (s1.trans s2), fun z => (by rw [hn] at z; cases z), fun _ => he H2 (s1.trans s2)⟩
    · rcases h with ⟨_, he⟩ | ⟨n, rfl, good, _⟩
      · exact he H (Same.refl H)
      · rw [e] at good
        cases good
def spRestX (K : PySem.W.Frag) (Cb Cn Cg Ci : Addr) : Sp := fun vs H Q E => ∃ v1 v2 v3 v4, vs = [v1, v2, v3, v4] ∧ ((∃ ho pl, Hk K H v1 ho ∧ hbBad ho = some pl ∧ bhE Cb "place" pl H E) ∨ ∃ wos, Hk K H v1 (some wos) ∧ hbBad (some wos) = none ∧ badRun K Cg Ci wos.length 4000 true H v2 v3 E
  (Sw K H v4 ∧ ((inV2 0 100000 v4 = false ∧ noE Cn H E) ∨ ∃ (k : Nat) (h : List (List Int)) (n : Nat) (pg : List Ins) (inp : List Int), v4 = .int (k : Int) ∧ k ≤ 100000 ∧ RunA K H v1 v2 v3 h n pg inp ∧
    ∀ H' t sa, Same H H' → H' t = some (.tup [.ref sa, .str (endW pg (runM h inp pg k (startM n)))]) → H' sa = some (.tup ((runM h inp pg k (startM n)).said.map V.int)) → Q (.ref t) H')))
theorem ok_run_restlessX (F : Df K mg "run_restless" st_run_restless ["habit", "program", "inputs", "most"]) (B : Bu mg) (cmost : ∃ t, mg "MOST_RESTLESS_STEPS" = some (.int 100000 t)) (CH : CalX P w K mg base 6 "check_habit" (spCheckHabitX K Cb)) (CG : CalX P w K mg base 6 "check_restless" (spCheckPg2 K Cg 4000 true)) (CI : CalX P w K mg base 3 "check_inputs" (spCheckInp K Ci)) (CN : CalX P w K mg base 3 "check_number" (spCheckNumR K Cn))
    (CR : CalX P w K mg base 4 "run" (spRunM K)) : CalX P w K mg base 7 "run_restless" (spRestX K Cb Cn Cg Ci) := by
  refine mkCalX F sc_run_restless (fun vs H Q E h => ?_) (fun f cdv A outer s H vs Q E hr h => ?_)
  · obtain ⟨v1, v2, v3, v4, rfl, _⟩ := h
    rfl
  · obtain ⟨v1, v2, v3, v4, rfl, h⟩ := h
    refine ⟨_, pss_cons (ps_expr (pcX CH passE hr (pa_cons (pv 0) pa_nil))) (pss_cons (ps_expr (pcX CG passE hr (pa_cons (pv 1) (pa_cons (pe_callB (cl_len K) (by rfl) B.len PySem.boot_len (pa_cons (pv 0) pa_nil)) pa_nil)))) (pss_cons (ps_expr (pcX CI passE hr (pa_cons (pv 2) pa_nil))) (pss_cons (ps_expr (pcX CN passE hr (pa_cons (pv 3) (pa_cons pe_int (pa_cons (pk cmost) pa_nil)))))
      (pss_one (ps_ret (pcX CR passE hr (pa_cons (pv 0) (pa_cons (pv 1) (pa_cons (pv 2) (pa_cons (pv 3) pa_nil))))))))))  , ?_⟩
    rcases h with ⟨ho, pl, hk, hp, he⟩ | ⟨wos, hk, hb, ho, hk2, h⟩
    · exact ⟨_, rfl, v1, ho, rfl, hk, fun e => (by rw [hp] at e; cases e), fun pl' e => by rw [hp] at e; cases e; exact he⟩
    · obtain ⟨a, xs, rfl, hS, hlen⟩ := (show ∃ a xs, v1 = .ref a ∧ SqT K H a xs ∧ xs.length = wos.length from by
        cases hk with
        | tup hA hx => exact ⟨_, _, rfl, hA, hx.len⟩)
      refine ⟨_, rfl, _, some wos, rfl, hk, fun _ H1 s1 => ?_, fun pl e => (by rw [hb] at e; cases e)⟩
      rcases h with ⟨pl, hp, hpl, he⟩ | ⟨hg, wo, hw, h⟩
      · exact ⟨_, rfl, _, rfl, a, xs, rfl, .inr (onT s1 hS), v2, ho, (wos.length : Int), by rw [hlen]; rfl, hk2.on s1, fun z => (by rw [hp] at z; cases z), fun pl' z => by rw [hp] at z; cases z; exact ⟨hpl, he.on s1⟩⟩
      · refine ⟨_, rfl, _, rfl, a, xs, rfl, .inr (onT s1 hS), v2, ho, (wos.length : Int), by rw [hlen]; rfl, hk2.on s1, fun _ H2 s2 => ?_, fun pl' z => (by rw [hg] at z; cases z)⟩
        have s12 := s1.trans s2
        rcases h with ⟨hi, he⟩ | ⟨hi, h4, h⟩
        · exact ⟨_, rfl, v3, wo, rfl, hw.on s12, fun z => (by rw [hi] at z; cases z), fun _ => he.on s12⟩
        · refine ⟨_, rfl, v3, wo, rfl, hw.on s12, fun _ H3 s3 => ?_, fun z => (by rw [hi] at z; cases z)⟩
          have s13 := s12.trans s3
          rcases h with ⟨hn, he⟩ | ⟨k, h, n, pg, inp, rfl, hk1, R, q⟩
          · exact ⟨_, rfl, v4, rfl, h4.on s13, fun z => (by rw [hn] at z; cases z), fun _ => he H3 s13⟩
          · refine ⟨_, rfl, .int (k : Int), rfl, .int _, fun _ => ?_, fun z => ?_⟩
            · exact ⟨_, rfl, _, rfl, _, rfl, _, rfl, .ref a, v2, v3, h, n, pg, inp, k, rfl, R.on s13, hk1, fun H4 t sa s4 => q H4 t sa (s13.trans s4)⟩
            · have : (decide ((0 : Int) ≤ (k : Int)) && decide ((k : Int) ≤ 100000)) = false := z
              rw [decide_eq_true (by omega), decide_eq_true (by omega)] at this
              cases this
end
end RH
set_option Elab.async false
set_option linter.all false
set_option maxRecDepth 100000
set_option maxHeartbeats 2000000
namespace RH
open PySem PySem.Spec PyProof.Rows L2
open NdefX (NScope CellsAt Caps slotAt slotAt_of cells_of startF ncx)
open LamX (Tabs TabS TabB ExtN CodeO codeO_ne)
/-! ### the lambdas that the law makes -/
def lamP : Expr → Arguments
  | .Lambda p _ _ _ => p
  | _ => defArgs st_law
def lamB : Expr → Expr
  | .Lambda _ b _ _ => b
  | e => e
def lamS : Expr → Scope
  | .Lambda _ _ sc _ => sc
  | _ => defScope st_law
def lamO : Expr → Pos
  | .Lambda _ _ _ p => p
  | _ => ⟨0, 0, 0, 0⟩
/-- a def of the text with its code object -/
structure DfC (K : PySem.W.Frag) (mg : Str → Option Value) (x : Str) (st : Stmt) (ps : List Str) (c : Addr) : Prop where
  ex : ∃ (f : Addr) (oc : Value) (od : Option Addr) (kV doc pm : Value) (an : Option Addr) (ct : Value) (osl : Array (Option Value)), K.lookup f = some ⟨oc, od, .func (PySem.W.fnOf x x (defArgs st) (defBody st) (defScope st) .none kV doc pm an (.ref c) ct), osl⟩ ∧
    PySem.W.codeIn K (.ref c) x = true ∧ PySem.W.keepIn K (.ref f) = true ∧ mg x = some (.ref f) ∧ Binds K (PySem.W.fnOf x x (defArgs st) (defBody st) (defScope st) .none kV doc pm an (.ref c) ct) ps []
/-- the first argument of a call that stands alone -/
def argOf : Stmt → Expr
  | .Expr (.Call _ as _ _) _ => as.getD 0 (.Constant .none 0 ⟨0, 0, 0, 0⟩)
  | _ => .Constant .none 0 ⟨0, 0, 0, 0⟩
section
variable {P : Program} {w : World} {K : PySem.W.Frag} {mg : Str → Option Value} {base : Heap}
theorem passN {N : List Str} {F : NdefX.NF} {f : Addr} {A : Around} {outer : List Env} {s : Shared} {H : Hp} {E : XK} : Passes (L2.CX P w) (ncx (L2.CX P w) P w K mg base N F f A outer s H E) E :=
  passes_call (W := fun cls d _ H => E cls d H) (takes_of rfl rfl rfl rfl) (fun _ _ _ _ h => h)
def spW (sp : Sp) (g : List V → List V) : List (Option V) → Sp := fun ws vs H Q E => ∃ us : List V, ws = us.map some ∧ vs = [] ∧ sp (g us) H Q E
/-- a lambda of the law's stands with what it caught -/
structure LamAt (lam : Expr) (fr : List Str) (ws : List V) (l : CL) (f : Addr) (H : Hp) : Prop where
  ex : ∃ q cl c, LiveK f ⟨q, lamP lam, lamB lam, lamS lam, cl, c⟩ l H ∧ Cap ⟨q, lamP lam, lamB lam, lamS lam, cl, c⟩ fr ws l
def lamQ (x : Str) : Str := (envOfC x (defScope st__law_works) 0 0 .none).qual ++ "<lambda>"
theorem cells_kind {y : Str} {c : Addr} : ∀ (names : List (Str × NameKind)) (n : Nat) (acc : List (Str × Addr)), (PySem.cellsFrom n names acc).lookup y = some c → (y, NameKind.cell) ∈ names ∨ acc.lookup y = some c
  | [], _, _, h => .inr h
  | (x, k) :: r, n, acc, h => by
    unfold PySem.cellsFrom at h
    split at h
    · rename_i hk
      have hk : k = .cell := by simpa using hk
      rcases cells_kind r _ _ h with z | z
      · exact .inl (List.mem_cons_of_mem _ z)
      · rw [List.lookup_cons] at z
        split at z
        · rename_i e
          have e : y = x := by simpa using e
          rw [e, hk]
          exact .inl (List.mem_cons_self ..)
        · exact .inr z
    · rcases cells_kind r _ _ h with z | z
      · exact .inl (List.mem_cons_of_mem _ z)
      · exact .inr z
theorem extN_upd {H H' : Hp} {p : Addr} {o : HO} (e : ExtN H H') (h : H p = none) : ExtN H (upd H' p o) := fun b u q n => by
  rw [upd_ne (ne_of_none q h)]
  exact e b u q n
theorem tabs_lst {T : List (Addr × Str)} {H : Hp} {p : Addr} {xs : List V} {o : HO} (t : Tabs T H) (h : H p = some (.lst xs)) : Tabs T (upd H p o) := fun q hq => by
  obtain ⟨ps, h1, h2, h3⟩ := t q hq
  refine ⟨ps, by rw [upd_ne (ne_of h1 h (fun z => nomatch z))]; exact h1, h2, fun pos cv hc => ?_⟩
  obtain ⟨c, e1, e2⟩ := h3 pos cv hc
  exact ⟨c, e1, by rw [upd_ne (ne_of e2 h (fun z => by unfold CodeO at z; cases z))]; exact e2⟩
/-- the first lambdas are in the list -/
def WSt (mk : Nat → Addr → LF) (T : List (Addr × Str)) (H : Hp) (lst : Addr) (fcs : List (Addr × Addr)) (H' : Hp) : Prop := ExtN H H' ∧ Tabs T H' ∧ H lst = none ∧ H' lst = some (.lst (fcs.map fun x => .ref x.1)) ∧
  ∀ i x, fcs[i]? = some x → H' x.1 = some (FnL x.1 (mk (i + 1) x.2)) ∧ H' x.2 = some (CodeO x.2 (mk (i + 1) x.2).qual)
theorem WSt.step {mk : Nat → Addr → LF} {T : List (Addr × Str)} {H : Hp} {lst : Addr} {fcs : List (Addr × Addr)} {H0 H1 : Hp} {f c : Addr} (s : WSt mk T H lst fcs H0) (ex : ExtN H0 H1) (t1 : Tabs T H1) (e1 : H1 f = some (FnL f (mk (fcs.length + 1) c))) (e2 : H1 c = some (CodeO c (mk (fcs.length + 1) c).qual)) :
    H1 lst = some (.lst (fcs.map fun x => .ref x.1)) ∧ WSt mk T H lst (fcs ++ [(f, c)]) (upd H1 lst (.lst ((fcs.map fun x => V.ref x.1) ++ [.ref f]))) := by
  obtain ⟨x0, t0, hn, el, hx⟩ := s
  have el1 : H1 lst = some (.lst (fcs.map fun x => .ref x.1)) := ex _ _ el (fun ps z => nomatch z)
  have nf : ∀ b F, H1 b = some (FnL b F) → b ≠ lst := fun b F e => ne_of e el1 (fun z => by unfold FnL at z; cases z)
  have nc : ∀ b q, H1 b = some (CodeO b q) → b ≠ lst := fun b q e => ne_of e el1 (fun z => by unfold CodeO at z; cases z)
  refine ⟨el1, extN_upd (x0.trans ex) hn, tabs_lst t1 el1, hn, ?_, fun i x hi => ?_⟩
  · rw [upd_same, List.map_append]
    rfl
  · rcases Nat.lt_or_ge i fcs.length with z | z
    · rw [List.getElem?_append_left z] at hi
      obtain ⟨a1, a2⟩ := hx i x hi
      have b1 := ex _ _ a1 (fun ps => fnL_ne ps)
      have b2 := ex _ _ a2 (fun ps => codeO_ne ps)
      exact ⟨by rw [upd_ne (nf _ _ b1)]; exact b1, by rw [upd_ne (nc _ _ b2)]; exact b2⟩
    · rw [List.getElem?_append_right z] at hi
      have hz : i = fcs.length := by
        have := (List.getElem?_eq_some_iff.mp hi).1
        rw [List.length_singleton] at this
        omega
      subst hz
      rw [Nat.sub_self] at hi
      obtain rfl : (f, c) = x := Option.some.inj hi
      exact ⟨by rw [upd_ne (nf _ _ e1)]; exact e1, by rw [upd_ne (nc _ _ e2)]; exact e2⟩
theorem mem_lk : ∀ {l : CL} {b : Addr} {y : V}, l.lookup b = some y → (b, y) ∈ l
  | [], _, _, h => by cases h
  | (a, v) :: l, b, y, h => by
    rw [List.lookup_cons] at h
    split at h
    · rename_i e
      have e : b = a := by simpa using e
      rw [e, ← Option.some.inj h]
      exact List.mem_cons_self ..
    · exact List.mem_cons_of_mem _ (mem_lk h)
end
/-! ### the lambdas of _law_works -/
abbrev lamW (i : Nat) : Expr := argOf ((defBody st__law_works).getD i (.Pass ⟨0, 0, 0, 0⟩))
theorem nsW1 : NScope ["one", "other"] [] ["one", "other"] (lamS (lamW 1)) := NdefX.nscope_by (by decide +kernel)
theorem nsW2 : NScope ["one", "other"] [] ["one", "other"] (lamS (lamW 2)) := NdefX.nscope_by (by decide +kernel)
theorem nsW3 : NScope ["one", "other"] [] ["one", "other"] (lamS (lamW 3)) := NdefX.nscope_by (by decide +kernel)
theorem nsW4 : NScope ["one", "other", "third", "fourth"] [] ["one", "other", "third", "fourth"] (lamS (lamW 4)) := NdefX.nscope_by (by decide +kernel)
theorem nsW5 : NScope ["one", "other", "third", "fourth"] [] ["one", "other", "third", "fourth"] (lamS (lamW 5)) := NdefX.nscope_by (by decide +kernel)
section
variable {P : Program} {w : World} {K : PySem.W.Frag} {mg : Str → Option Value} {base : Heap}
theorem lokW1 {sp : Sp} (M : CalX P w K mg base 7 "flow" sp) (q : Str) (cl : List (Str × Addr)) (c f : Addr) : LOk P w K mg base (L2.CX P w) 9 f ⟨q, lamP (lamW 1), lamB (lamW 1), lamS (lamW 1), cl, c⟩ [] ["one", "other"] (spW sp id) := by
  refine lok_of nsW1 (fun pm ctv us hl => ?_) (fun ws vs H Q E hq => ?_) (fun A outer s H vs ws Q E hr hwl hsp => ?_)
  · match us, hl with
    | [], _ => rfl
  · obtain ⟨us, _, rfl, _⟩ := hq
    rfl
  · obtain ⟨us, rfl, rfl, hsp⟩ := hsp
    rw [List.length_map] at hwl
    match us, hwl, hsp with
    | [u1, u2], _, hsp => exact ⟨_, pcX M passN hr (pa_cons (pv 0) (pa_cons (pv 1) pa_nil)), _, rfl, _, rfl, hsp⟩
theorem lokW2 {sp : Sp} (M : CalX P w K mg base 7 "reached" sp) (q : Str) (cl : List (Str × Addr)) (c f : Addr) : LOk P w K mg base (L2.CX P w) 9 f ⟨q, lamP (lamW 2), lamB (lamW 2), lamS (lamW 2), cl, c⟩ [] ["one", "other"] (spW sp id) := by
  refine lok_of nsW2 (fun pm ctv us hl => ?_) (fun ws vs H Q E hq => ?_) (fun A outer s H vs ws Q E hr hwl hsp => ?_)
  · match us, hl with
    | [], _ => rfl
  · obtain ⟨us, _, rfl, _⟩ := hq
    rfl
  · obtain ⟨us, rfl, rfl, hsp⟩ := hsp
    rw [List.length_map] at hwl
    match us, hwl, hsp with
    | [u1, u2], _, hsp => exact ⟨_, pcX M passN hr (pa_cons (pv 0) (pa_cons (pv 1) pa_nil)), _, rfl, _, rfl, hsp⟩
theorem lokW3 {sp : Sp} (M : CalX P w K mg base 7 "used" sp) (q : Str) (cl : List (Str × Addr)) (c f : Addr) : LOk P w K mg base (L2.CX P w) 9 f ⟨q, lamP (lamW 3), lamB (lamW 3), lamS (lamW 3), cl, c⟩ [] ["one", "other"] (spW sp id) := by
  refine lok_of nsW3 (fun pm ctv us hl => ?_) (fun ws vs H Q E hq => ?_) (fun A outer s H vs ws Q E hr hwl hsp => ?_)
  · match us, hl with
    | [], _ => rfl
  · obtain ⟨us, _, rfl, _⟩ := hq
    rfl
  · obtain ⟨us, rfl, rfl, hsp⟩ := hsp
    rw [List.length_map] at hwl
    match us, hwl, hsp with
    | [u1, u2], _, hsp => exact ⟨_, pcX M passN hr (pa_cons (pv 0) (pa_cons (pv 1) pa_nil)), _, rfl, _, rfl, hsp⟩
theorem lokW4 {sp : Sp} (M : CalX P w K mg base 7 "run_still" sp) (q : Str) (cl : List (Str × Addr)) (c f : Addr) : LOk P w K mg base (L2.CX P w) 9 f ⟨q, lamP (lamW 4), lamB (lamW 4), lamS (lamW 4), cl, c⟩ [] ["one", "other", "third", "fourth"] (spW sp id) := by
  refine lok_of nsW4 (fun pm ctv us hl => ?_) (fun ws vs H Q E hq => ?_) (fun A outer s H vs ws Q E hr hwl hsp => ?_)
  · match us, hl with
    | [], _ => rfl
  · obtain ⟨us, _, rfl, _⟩ := hq
    rfl
  · obtain ⟨us, rfl, rfl, hsp⟩ := hsp
    rw [List.length_map] at hwl
    match us, hwl, hsp with
    | [u1, u2, u3, u4], _, hsp => exact ⟨_, pcX M passN hr (pa_cons (pv 0) (pa_cons (pv 1) (pa_cons (pv 2) (pa_cons (pv 3) pa_nil)))), _, rfl, _, rfl, _, rfl, _, rfl, hsp⟩
theorem lokW5 {sp : Sp} (M : CalX P w K mg base 7 "run_restless" sp) (q : Str) (cl : List (Str × Addr)) (c f : Addr) : LOk P w K mg base (L2.CX P w) 9 f ⟨q, lamP (lamW 5), lamB (lamW 5), lamS (lamW 5), cl, c⟩ [] ["one", "other", "third", "fourth"] (spW sp id) := by
  refine lok_of nsW5 (fun pm ctv us hl => ?_) (fun ws vs H Q E hq => ?_) (fun A outer s H vs ws Q E hr hwl hsp => ?_)
  · match us, hl with
    | [], _ => rfl
  · obtain ⟨us, _, rfl, _⟩ := hq
    rfl
  · obtain ⟨us, rfl, rfl, hsp⟩ := hsp
    rw [List.length_map] at hwl
    match us, hwl, hsp with
    | [u1, u2, u3, u4], _, hsp => exact ⟨_, pcX M passN hr (pa_cons (pv 0) (pa_cons (pv 1) (pa_cons (pv 2) (pa_cons (pv 3) pa_nil)))), _, rfl, _, rfl, _, rfl, _, rfl, hsp⟩
def spWorks (T : List (Addr × Str)) : Sp := fun vs H Q _ => ∃ (v1 v2 v3 v4 : V), vs = [v1, v2, v3, v4] ∧ Tabs T H ∧ ∀ (lst f1 f2 f3 f4 f5 : Addr) (l : CL) (H' : Hp), ExtN H H' → Tabs T H' → H' lst = some (.lst [.ref f1, .ref f2, .ref f3, .ref f4, .ref f5]) → Stand l H' →
  LamAt (lamW 1) ["one", "other"] [v1, v2] l f1 H' → LamAt (lamW 2) ["one", "other"] [v1, v2] l f2 H' → LamAt (lamW 3) ["one", "other"] [v1, v2] l f3 H' → LamAt (lamW 4) ["one", "other", "third", "fourth"] [v1, v2, v3, v4] l f4 H' → LamAt (lamW 5) ["one", "other", "third", "fourth"] [v1, v2, v3, v4] l f5 H' → Q (.ref lst) H'
theorem of_W {a1 a2 a3 a4 : Addr} {v1 v2 v3 v4 : V} {b : Addr} {y : V} (h : ([(a1, v1), (a2, v2), (a3, v3), (a4, v4)] : CL).lookup b = some y) : (b = a1 ∧ y = v1) ∨ (b = a2 ∧ y = v2) ∨ (b = a3 ∧ y = v3) ∨ (b = a4 ∧ y = v4) := by
  have := mem_lk h
  simpa using this
theorem ok_works {c P1 : Addr} {T : List (Addr × Str)} (hmT : (P1, lamQ "_law_works") ∈ T) (huT0 : ∀ p ∈ T, p.1 = P1 → p.2 = lamQ "_law_works") (F : DfC K mg "_law_works" st__law_works ["one", "other", "third", "fourth"] c) (TB : TabB base mg c P1) : Cal P w K mg base 1 "_law_works" (spWorks T) := by
  obtain ⟨f, oc, od, kV, doc, pm, an, ct, osl, lk, hcd, kp, g, b⟩ := F.ex
  refine ⟨f, _, _, fnR_of lk hcd sc__law_works (fun vs H Q E h => ?_) (fun A outer s H vs Q E hr h => ?_), g, kp, b⟩
  · obtain ⟨v1, v2, v3, v4, rfl, _⟩ := h
    rfl
  · obtain ⟨v1, v2, v3, v4, rfl, hT, q⟩ := h
    let X : Cx := cxOf CX0 P w K mg base ["one", "other", "third", "fourth", "works"] "_law_works" (defScope st__law_works) f (.ref c) A outer s H E
    have h1 : ∀ y ∈ (lamS (lamW 1)).names, y.2 = .free → X.env.scope.names.lookup y.1 = some .cell ∨ X.env.scope.names.lookup y.1 = some .free := by
      have : ∀ y ∈ (lamS (lamW 1)).names, y.2 = .free → (defScope st__law_works).names.lookup y.1 = some .cell ∨ (defScope st__law_works).names.lookup y.1 = some .free := by decide +kernel
      exact this
    have h2 : ∀ y ∈ (lamS (lamW 2)).names, y.2 = .free → X.env.scope.names.lookup y.1 = some .cell ∨ X.env.scope.names.lookup y.1 = some .free := by
      have : ∀ y ∈ (lamS (lamW 2)).names, y.2 = .free → (defScope st__law_works).names.lookup y.1 = some .cell ∨ (defScope st__law_works).names.lookup y.1 = some .free := by decide +kernel
      exact this
    have h3 : ∀ y ∈ (lamS (lamW 3)).names, y.2 = .free → X.env.scope.names.lookup y.1 = some .cell ∨ X.env.scope.names.lookup y.1 = some .free := by
      have : ∀ y ∈ (lamS (lamW 3)).names, y.2 = .free → (defScope st__law_works).names.lookup y.1 = some .cell ∨ (defScope st__law_works).names.lookup y.1 = some .free := by decide +kernel
      exact this
    have h4 : ∀ y ∈ (lamS (lamW 4)).names, y.2 = .free → X.env.scope.names.lookup y.1 = some .cell ∨ X.env.scope.names.lookup y.1 = some .free := by
      have : ∀ y ∈ (lamS (lamW 4)).names, y.2 = .free → (defScope st__law_works).names.lookup y.1 = some .cell ∨ (defScope st__law_works).names.lookup y.1 = some .free := by decide +kernel
      exact this
    have h5 : ∀ y ∈ (lamS (lamW 5)).names, y.2 = .free → X.env.scope.names.lookup y.1 = some .cell ∨ X.env.scope.names.lookup y.1 = some .free := by
      have : ∀ y ∈ (lamS (lamW 5)).names, y.2 = .free → (defScope st__law_works).names.lookup y.1 = some .cell ∨ (defScope st__law_works).names.lookup y.1 = some .free := by decide +kernel
      exact this
    let mk : Nat → Addr → LF := fun i c' => ⟨X.env.qual ++ "<lambda>", lamP (lamW i), lamB (lamW i), lamS (lamW i), cloFrom X.env.cells (lamS (lamW i)).names [], c'⟩
    have huT : ∀ p ∈ T, p.1 = P1 → p.2 = X.env.qual ++ "<lambda>" := fun p hp e => huT0 p hp e
    refine ⟨fun r σ' H' => ∃ lst fcs, r = .ref lst ∧ σ' = [some v1, some v2, some v3, some v4, some (.ref lst)] ∧ fcs.length = 5 ∧ WSt mk T H lst fcs H', _, psr_cons (ps_set (i := 4) sc__law_works.nd rfl (.inl rfl) (pe_lst pa_nil))
      (psr_cons (ps_expr (pe_bm PySem.F.plainAttrs_list PySem.F.slot_list_append PySem.F.type_list_append mt_append (pv 4) (pa_cons (pe_lam (T := T) (params := lamP (lamW 1)) (body := lamB (lamW 1)) (scope := lamS (lamW 1)) (pos := lamO (lamW 1)) TB rfl (by exact hmT) huT rfl h1) pa_nil)))
      (psr_cons (ps_expr (pe_bm PySem.F.plainAttrs_list PySem.F.slot_list_append PySem.F.type_list_append mt_append (pv 4) (pa_cons (pe_lam (T := T) (params := lamP (lamW 2)) (body := lamB (lamW 2)) (scope := lamS (lamW 2)) (pos := lamO (lamW 2)) TB rfl (by exact hmT) huT rfl h2) pa_nil)))
      (psr_cons (ps_expr (pe_bm PySem.F.plainAttrs_list PySem.F.slot_list_append PySem.F.type_list_append mt_append (pv 4) (pa_cons (pe_lam (T := T) (params := lamP (lamW 3)) (body := lamB (lamW 3)) (scope := lamS (lamW 3)) (pos := lamO (lamW 3)) TB rfl (by exact hmT) huT rfl h3) pa_nil)))
      (psr_cons (ps_expr (pe_bm PySem.F.plainAttrs_list PySem.F.slot_list_append PySem.F.type_list_append mt_append (pv 4) (pa_cons (pe_lam (T := T) (params := lamP (lamW 4)) (body := lamB (lamW 4)) (scope := lamS (lamW 4)) (pos := lamO (lamW 4)) TB rfl (by exact hmT) huT rfl h4) pa_nil)))
      (psr_cons (ps_expr (pe_bm PySem.F.plainAttrs_list PySem.F.slot_list_append PySem.F.type_list_append mt_append (pv 4) (pa_cons (pe_lam (T := T) (params := lamP (lamW 5)) (body := lamB (lamW 5)) (scope := lamS (lamW 5)) (pos := lamO (lamW 5)) TB rfl (by exact hmT) huT rfl h5) pa_nil)))
      (psr_ret (pv 4))))))), ?_, fun s' σ' H' r ur J rv hR => ?_⟩
    · refine ⟨Nat.zero_le _, fun lst hl => ?_⟩
      have W0 : WSt mk T H lst [] (upd H lst (.lst [])) := ⟨extN_upd (ExtN.refl H) hl, hT.ext fun bb o e => same_new hl bb o e, hl, upd_same, fun i x hi => by simp at hi⟩
      refine ⟨_, rfl, .inl ⟨rfl, _, lstAt W0.2.2.2.1⟩, W0.2.1, fun f1 c1 G1 x1 nn1 t1 nf1 a1 b1 => ?_⟩
      obtain ⟨l1, W1⟩ := W0.step (f := f1) (c := c1) x1 t1 a1 b1
      refine ⟨lst, _, _, rfl, rfl, l1, by show 0 < sizeLine; decide +kernel, ?_⟩
      refine ⟨_, rfl, .inl ⟨rfl, _, lstAt W1.2.2.2.1⟩, W1.2.1, fun f2 c2 G2 x2 nn2 t2 nf2 a2 b2 => ?_⟩
      obtain ⟨l2, W2⟩ := W1.step (f := f2) (c := c2) x2 t2 a2 b2
      refine ⟨lst, _, _, rfl, rfl, l2, by show 1 < sizeLine; decide +kernel, ?_⟩
      refine ⟨_, rfl, .inl ⟨rfl, _, lstAt W2.2.2.2.1⟩, W2.2.1, fun f3 c3 G3 x3 nn3 t3 nf3 a3 b3 => ?_⟩
      obtain ⟨l3, W3⟩ := W2.step (f := f3) (c := c3) x3 t3 a3 b3
      refine ⟨lst, _, _, rfl, rfl, l3, by show 2 < sizeLine; decide +kernel, ?_⟩
      refine ⟨_, rfl, .inl ⟨rfl, _, lstAt W3.2.2.2.1⟩, W3.2.1, fun f4 c4 G4 x4 nn4 t4 nf4 a4 b4 => ?_⟩
      obtain ⟨l4, W4⟩ := W3.step (f := f4) (c := c4) x4 t4 a4 b4
      refine ⟨lst, _, _, rfl, rfl, l4, by show 3 < sizeLine; decide +kernel, ?_⟩
      refine ⟨_, rfl, .inl ⟨rfl, _, lstAt W4.2.2.2.1⟩, W4.2.1, fun f5 c5 G5 x5 nn5 t5 nf5 a5 b5 => ?_⟩
      obtain ⟨l5, W5⟩ := W4.step (f := f5) (c := c5) x5 t5 a5 b5
      refine ⟨lst, _, _, rfl, rfl, l5, by show 4 < sizeLine; decide +kernel, ?_⟩
      exact ⟨_, rfl, lst, _, rfl, rfl, rfl, W5⟩
    · obtain ⟨lst, fcs, rfl, rfl, hl5, ex, T1, _, el, hx⟩ := hR
      match fcs, hl5, el, hx with
      | [x1, x2, x3, x4, x5], _, el, hx =>
      have k1 : (defScope st__law_works).names.lookup ("one" : Str) = some NameKind.cell := by decide +kernel
      have k2 : (defScope st__law_works).names.lookup ("other" : Str) = some NameKind.cell := by decide +kernel
      have k3 : (defScope st__law_works).names.lookup ("third" : Str) = some NameKind.cell := by decide +kernel
      have k4 : (defScope st__law_works).names.lookup ("fourth" : Str) = some NameKind.cell := by decide +kernel
      have only : ∀ y ∈ (defScope st__law_works).names, y.2 = NameKind.cell → y.1 = ("one" : Str) ∨ y.1 = ("other" : Str) ∨ y.1 = ("third" : Str) ∨ y.1 = ("fourth" : Str) := by decide +kernel
      obtain ⟨a1, ha1⟩ := J.ok.has "one" (.inl k1)
      obtain ⟨a2, ha2⟩ := J.ok.has "other" (.inl k2)
      obtain ⟨a3, ha3⟩ := J.ok.has "third" (.inl k3)
      obtain ⟨a4, ha4⟩ := J.ok.has "fourth" (.inl k4)
      have n12 : a1 ≠ a2 := fun z => by
        have := J.ok.inj "one" "other" a1 ha1 (by rw [z]; exact ha2)
        exact absurd this (by decide)
      have n13 : a1 ≠ a3 := fun z => by
        have := J.ok.inj "one" "third" a1 ha1 (by rw [z]; exact ha3)
        exact absurd this (by decide)
      have n14 : a1 ≠ a4 := fun z => by
        have := J.ok.inj "one" "fourth" a1 ha1 (by rw [z]; exact ha4)
        exact absurd this (by decide)
      have n23 : a2 ≠ a3 := fun z => by
        have := J.ok.inj "other" "third" a2 ha2 (by rw [z]; exact ha3)
        exact absurd this (by decide)
      have n24 : a2 ≠ a4 := fun z => by
        have := J.ok.inj "other" "fourth" a2 ha2 (by rw [z]; exact ha4)
        exact absurd this (by decide)
      have n34 : a3 ≠ a4 := fun z => by
        have := J.ok.inj "third" "fourth" a3 ha3 (by rw [z]; exact ha4)
        exact absurd this (by decide)
      have l1 : ([(a1, v1), (a2, v2), (a3, v3), (a4, v4)] : CL).lookup a1 = some v1 := by
        rw [List.lookup_cons]
        simp
      have l2 : ([(a1, v1), (a2, v2), (a3, v3), (a4, v4)] : CL).lookup a2 = some v2 := by
        rw [List.lookup_cons]
        rw [show (a2 == a1) = false from by simpa using Ne.symm n12, List.lookup_cons]
        simp
      have l3 : ([(a1, v1), (a2, v2), (a3, v3), (a4, v4)] : CL).lookup a3 = some v3 := by
        rw [List.lookup_cons]
        rw [show (a3 == a1) = false from by simpa using Ne.symm n13, List.lookup_cons]
        rw [show (a3 == a2) = false from by simpa using Ne.symm n23, List.lookup_cons]
        simp
      have l4 : ([(a1, v1), (a2, v2), (a3, v3), (a4, v4)] : CL).lookup a4 = some v4 := by
        rw [List.lookup_cons]
        rw [show (a4 == a1) = false from by simpa using Ne.symm n14, List.lookup_cons]
        rw [show (a4 == a2) = false from by simpa using Ne.symm n24, List.lookup_cons]
        rw [show (a4 == a3) = false from by simpa using Ne.symm n34, List.lookup_cons]
        simp
      have up : ∀ b o, H' b = some o → lay [(a1, v1), (a2, v2), (a3, v3), (a4, v4)] H' b = some o := fun b o e => by
        cases z : ([(a1, v1), (a2, v2), (a3, v3), (a4, v4)] : CL).lookup b with
        | none => exact (lay_no z).trans e
        | some y =>
          exfalso
          rcases of_W z with ⟨rfl, _⟩ | ⟨rfl, _⟩ | ⟨rfl, _⟩ | ⟨rfl, _⟩
          · rw [J.freeC "one" _ ha1] at e
            cases e
          · rw [J.freeC "other" _ ha2] at e
            cases e
          · rw [J.freeC "third" _ ha3] at e
            cases e
          · rw [J.freeC "fourth" _ ha4] at e
            cases e
      have cap : ∀ (i : Nat) (fr : List Str) (ws : List V) (c' : Addr), (∀ y ∈ (lamS (lamW i)).names, y.2 = .free → X.env.scope.names.lookup y.1 = some .cell ∨ X.env.scope.names.lookup y.1 = some .free) → ws.length = fr.length →
          (∀ (j : Nat) (y : Str), fr[j]? = some y → (y, NameKind.free) ∈ (lamS (lamW i)).names ∧ ∃ (a : Addr) (v : V), X.env.cells.lookup y = some a ∧ ([(a1, v1), (a2, v2), (a3, v3), (a4, v4)] : CL).lookup a = some v ∧ ws[j]? = some v) → Cap (mk i c') fr ws [(a1, v1), (a2, v2), (a3, v3), (a4, v4)] := fun i fr ws c' hf hl hj => by
        have hfm : ∀ y ∈ (lamS (lamW i)).names, y.2 = .free → ∃ c, X.env.cells.lookup y.1 = some c := fun y hy e => (hf y hy e).elim (fun z => J.ok.has _ (.inl z)) fun z => J.ok.has _ (.inr z)
        refine ⟨hl, fun y c e => ?_, fun x y c ex1 ey1 => J.ok.inj x y c (NdefX.clo_cm hfm ex1) (NdefX.clo_cm hfm ey1), fun j y e => ?_⟩
        · have h1 := NdefX.clo_cm hfm e
          have h2 : (PySem.cellsFrom (s.heap.objs.size + 1) (defScope st__law_works).names []).lookup y = some c := h1
          rcases cells_kind _ _ _ h2 with z | z
          · rcases only _ z rfl with w1 | w1 | w1 | w1
            · have w1 : y = ("one" : Str) := w1
              subst w1
              have := ha1.symm.trans h1
              rw [← Option.some.inj this]
              exact ⟨_, l1⟩
            · have w1 : y = ("other" : Str) := w1
              subst w1
              have := ha2.symm.trans h1
              rw [← Option.some.inj this]
              exact ⟨_, l2⟩
            · have w1 : y = ("third" : Str) := w1
              subst w1
              have := ha3.symm.trans h1
              rw [← Option.some.inj this]
              exact ⟨_, l3⟩
            · have w1 : y = ("fourth" : Str) := w1
              subst w1
              have := ha4.symm.trans h1
              rw [← Option.some.inj this]
              exact ⟨_, l4⟩
          · cases z
        · obtain ⟨m, a, v, e1, e2, e3⟩ := hj j y e
          exact ⟨a, NdefX.clo_has hfm m e1, fun v' ev => by
            rw [e3] at ev
            rw [← Option.some.inj ev]
            exact e2⟩
      have sl : Stand [(a1, v1), (a2, v2), (a3, v3), (a4, v4)] (lay [(a1, v1), (a2, v2), (a3, v3), (a4, v4)] H') := Stand.lay _ _
      have liv : ∀ (i : Nat) (x : Addr × Addr), H' x.1 = some (FnL x.1 (mk i x.2)) → H' x.2 = some (CodeO x.2 (mk i x.2).qual) → LiveK x.1 (mk i x.2) [(a1, v1), (a2, v2), (a3, v3), (a4, v4)] (lay [(a1, v1), (a2, v2), (a3, v3), (a4, v4)] H') := fun i x e1 e2 => ⟨up _ _ e1, up _ _ e2, sl⟩
      have m1 : LamAt (lamW 1) ["one", "other"] [v1, v2] [(a1, v1), (a2, v2), (a3, v3), (a4, v4)] x1.1 (lay [(a1, v1), (a2, v2), (a3, v3), (a4, v4)] H') := by
        obtain ⟨e1, e2⟩ := hx 0 x1 rfl
        refine ⟨_, _, _, liv 1 x1 e1 e2, cap 1 _ _ _ h1 rfl fun j y e => ?_⟩
        match j, e with
        | 0, e =>
          cases Option.some.inj e
          exact ⟨by decide +kernel, a1, v1, ha1, l1, rfl⟩
        | 1, e =>
          cases Option.some.inj e
          exact ⟨by decide +kernel, a2, v2, ha2, l2, rfl⟩
        | j + 2, e => simp at e
      have m2 : LamAt (lamW 2) ["one", "other"] [v1, v2] [(a1, v1), (a2, v2), (a3, v3), (a4, v4)] x2.1 (lay [(a1, v1), (a2, v2), (a3, v3), (a4, v4)] H') := by
        obtain ⟨e1, e2⟩ := hx 1 x2 rfl
        refine ⟨_, _, _, liv 2 x2 e1 e2, cap 2 _ _ _ h2 rfl fun j y e => ?_⟩
        match j, e with
        | 0, e =>
          cases Option.some.inj e
          exact ⟨by decide +kernel, a1, v1, ha1, l1, rfl⟩
        | 1, e =>
          cases Option.some.inj e
          exact ⟨by decide +kernel, a2, v2, ha2, l2, rfl⟩
        | j + 2, e => simp at e
      have m3 : LamAt (lamW 3) ["one", "other"] [v1, v2] [(a1, v1), (a2, v2), (a3, v3), (a4, v4)] x3.1 (lay [(a1, v1), (a2, v2), (a3, v3), (a4, v4)] H') := by
        obtain ⟨e1, e2⟩ := hx 2 x3 rfl
        refine ⟨_, _, _, liv 3 x3 e1 e2, cap 3 _ _ _ h3 rfl fun j y e => ?_⟩
        match j, e with
        | 0, e =>
          cases Option.some.inj e
          exact ⟨by decide +kernel, a1, v1, ha1, l1, rfl⟩
        | 1, e =>
          cases Option.some.inj e
          exact ⟨by decide +kernel, a2, v2, ha2, l2, rfl⟩
        | j + 2, e => simp at e
      have m4 : LamAt (lamW 4) ["one", "other", "third", "fourth"] [v1, v2, v3, v4] [(a1, v1), (a2, v2), (a3, v3), (a4, v4)] x4.1 (lay [(a1, v1), (a2, v2), (a3, v3), (a4, v4)] H') := by
        obtain ⟨e1, e2⟩ := hx 3 x4 rfl
        refine ⟨_, _, _, liv 4 x4 e1 e2, cap 4 _ _ _ h4 rfl fun j y e => ?_⟩
        match j, e with
        | 0, e =>
          cases Option.some.inj e
          exact ⟨by decide +kernel, a1, v1, ha1, l1, rfl⟩
        | 1, e =>
          cases Option.some.inj e
          exact ⟨by decide +kernel, a2, v2, ha2, l2, rfl⟩
        | 2, e =>
          cases Option.some.inj e
          exact ⟨by decide +kernel, a3, v3, ha3, l3, rfl⟩
        | 3, e =>
          cases Option.some.inj e
          exact ⟨by decide +kernel, a4, v4, ha4, l4, rfl⟩
        | j + 4, e => simp at e
      have m5 : LamAt (lamW 5) ["one", "other", "third", "fourth"] [v1, v2, v3, v4] [(a1, v1), (a2, v2), (a3, v3), (a4, v4)] x5.1 (lay [(a1, v1), (a2, v2), (a3, v3), (a4, v4)] H') := by
        obtain ⟨e1, e2⟩ := hx 4 x5 rfl
        refine ⟨_, _, _, liv 5 x5 e1 e2, cap 5 _ _ _ h5 rfl fun j y e => ?_⟩
        match j, e with
        | 0, e =>
          cases Option.some.inj e
          exact ⟨by decide +kernel, a1, v1, ha1, l1, rfl⟩
        | 1, e =>
          cases Option.some.inj e
          exact ⟨by decide +kernel, a2, v2, ha2, l2, rfl⟩
        | 2, e =>
          cases Option.some.inj e
          exact ⟨by decide +kernel, a3, v3, ha3, l3, rfl⟩
        | 3, e =>
          cases Option.some.inj e
          exact ⟨by decide +kernel, a4, v4, ha4, l4, rfl⟩
        | j + 4, e => simp at e
      refine ce_lay (X := X) (l := [(a1, v1), (a2, v2), (a3, v3), (a4, v4)]) (fun _ => rfl) J rfl rfl (fun b y e => ?_) rv (q lst x1.1 x2.1 x3.1 x4.1 x5.1 [(a1, v1), (a2, v2), (a3, v3), (a4, v4)] _ (fun b o e n => up _ _ (ex b o e n)) (T1.ext up) (up _ _ el) sl m1 m2 m3 m4 m5)
      rcases of_W e with ⟨rfl, rfl⟩ | ⟨rfl, rfl⟩ | ⟨rfl, rfl⟩ | ⟨rfl, rfl⟩
      · exact ⟨"one", 0, ha1, rfl, rfl, k1⟩
      · exact ⟨"other", 1, ha2, rfl, rfl, k2⟩
      · exact ⟨"third", 2, ha3, rfl, rfl, k3⟩
      · exact ⟨"fourth", 3, ha4, rfl, rfl, k4⟩
end
open NdefX (NScope CellsAt Caps slotAt slotAt_of cells_of startF ncx)
open LamX (Tabs TabS TabB ExtN CodeO codeO_ne)
/-! ### the lambdas are ready -/
theorem era_tups {K : PySem.W.Frag} {l : CL} {H : Hp} (s : Stand l H) : Tups K H (era l H) := fun a xs hs => by
  rcases hs with hs | hs
  · exact .inl (s.rd hs)
  · exact .inr hs
theorem era_keep {l : CL} {H : Hp} (s : Stand l H) {b : Addr} {o : HO} (e : H b = some o) (ne : ∀ v, o ≠ CellO b v) : era l H b = some o := by
  rcases s.cases e with ⟨v, _, z⟩ | ⟨_, z⟩
  · exact absurd z (ne v)
  · exact z
theorem lay_same {l : CL} {H H' : Hp} (s : Stand l H) (e : Same (era l H) H') : Same H (lay l H') := fun b o h => by
  rcases s.cases h with ⟨v, q, z⟩ | ⟨q, z⟩
  · rw [lay_in q, z]
  · rw [lay_no q]
    exact e b o z
theorem era_lst {K : PySem.W.Frag} {l : CL} {H : Hp} (s : Stand l H) {a : Addr} {xs : List V} (h : SqL K H a xs) : SqL K (era l H) a xs := by
  rcases h with (h | ⟨o, h⟩) | h
  · exact .inl (.inl (era_keep s h (fun v z => by unfold CellO at z; cases z)))
  · exact .inl (.inr ⟨o, era_keep s h (fun v z => by unfold CellO at z; cases z)⟩)
  · exact .inr h
section
variable {P : Program} {w : World} {K : PySem.W.Frag} {mg : Str → Option Value} {base : Heap}
section
variable {l : CL} {H : Hp} {v v1 v2 v3 : V} {wo : Option (List V)}
theorem Sw.era (s : Stand l H) (h : Sw K H v) : Sw K (era l H) v := by
  cases h with
  | int i => exact .int i
  | bl b => exact .bl b
  | non => exact .non
  | str z => exact .str z
  | tup h => exact .tup (era_tups s _ _ h)
  | lst h => exact .lst (era_lst s h)
theorem Tk.era (s : Stand l H) (h : Tk K H v wo) : Tk K (era l H) v wo := by
  cases h with
  | int i => exact .int i
  | bl b => exact .bl b
  | non => exact .non
  | str z => exact .str z
  | tup h => exact .tup (era_tups s _ _ h)
  | lst h => exact .lst (era_lst s h)
  | dct h => exact .dct (era_keep s h (fun v z => by unfold CellO at z; cases z))
theorem Wd.era (s : Stand l H) (h : Wd K H v wo) : Wd K (era l H) v wo := ⟨h.t.era s, fun xs z x hm => (h.s xs z x hm).era s, h.l⟩
theorem Hk.era {ho : Option (List (Option (List V)))} (s : Stand l H) (h : Hk K H v ho) : Hk K (era l H) v ho := by
  cases h with
  | tup h hx => exact .tup (era_tups s _ _ h) (hx.imp fun v d z => z.era s)
  | no h => exact .no (h.era s)
end
section
variable {H : Hp} {cl : CL} {f C : Addr} {lam : Expr} {fr : List Str} {us : List V} {sp : Sp} {g : List V → List V} {fn : Str}
/-- the lambda will end with an error that keeps pl -/
def okB (Cb : Addr) (fn : Str) (pl : V) (H : Hp) : Hp → VK → XK → Prop := fun H' _ E => H' = H ∧ bhE Cb fn pl H E
/-- the lambda will end with the error C -/
def okN (C : Addr) (H : Hp) : Hp → VK → XK → Prop := fun H' _ E => H' = H ∧ noE C H E
theorem rdyB {pl : V} (L : ∀ (q : Str) (cl : List (Str × Addr)) (c f : Addr), LOk P w K mg base (L2.CX P w) 9 f ⟨q, lamP lam, lamB lam, lamS lam, cl, c⟩ [] fr (spW sp g)) (La : LamAt lam fr us cl f H) (hsp : ∀ Q E, bhE C fn pl (era cl H) E → sp (g us) (era cl H) Q E) :
    Ready P w K mg base 9 f H (okB C fn pl H) := by
  obtain ⟨q, cl', c, live, cap⟩ := La.ex
  refine ⟨_, _, _, _, _, L q cl' c f, cap, live, fun Q E hE => ⟨us, rfl, rfl, hsp _ _ fun d H' s e gone => ?_⟩⟩
  refine hE.2 d (lay cl H') (lay_same live.st s) ?_
  have : cl.lookup d = none := by
    cases q : cl.lookup d with
    | none => rfl
    | some y =>
      rw [gone d y q] at e
      cases e
  rw [lay_no this]
  exact e
theorem rdyN (L : ∀ (q : Str) (cl : List (Str × Addr)) (c f : Addr), LOk P w K mg base (L2.CX P w) 9 f ⟨q, lamP lam, lamB lam, lamS lam, cl, c⟩ [] fr (spW sp g)) (La : LamAt lam fr us cl f H) (hsp : ∀ Q E, noE C (era cl H) E → sp (g us) (era cl H) Q E) :
    Ready P w K mg base 9 f H (okN C H) := by
  obtain ⟨q, cl', c, live, cap⟩ := La.ex
  exact ⟨_, _, _, _, _, L q cl' c f, cap, live, fun Q E hE => ⟨us, rfl, rfl, hsp _ _ fun H' s gone => hE.2 (lay cl H') (lay_same live.st s)⟩⟩
/-- the lambda will hand something back -/
def okR (H : Hp) : Hp → VK → XK → Prop := fun H' Q _ => H' = H ∧ ∀ H2 v, Same H H2 → Q v H2
theorem rdyR (L : ∀ (q : Str) (cl : List (Str × Addr)) (c f : Addr), LOk P w K mg base (L2.CX P w) 9 f ⟨q, lamP lam, lamB lam, lamS lam, cl, c⟩ [] fr (spW sp g)) (La : LamAt lam fr us cl f H) (hsp : ∀ Q E, (∀ H2 v, Same (era cl H) H2 → Q v H2) → sp (g us) (era cl H) Q E) :
    Ready P w K mg base 9 f H (okR H) := by
  obtain ⟨q, cl', c, live, cap⟩ := La.ex
  exact ⟨_, _, _, _, _, L q cl' c f, cap, live, fun Q E hE => ⟨us, rfl, rfl, hsp _ _ fun H2 v s gone => hE.2 (lay cl H2) v (lay_same live.st s)⟩⟩
end
end
end RH
set_option Elab.async false
set_option linter.all false
set_option maxRecDepth 100000
set_option maxHeartbeats 2000000
namespace RH
open PySem PySem.Spec PyProof.Rows L2
open NdefX (NScope CellsAt Caps slotAt slotAt_of cells_of startF ncx)
open LamX (Tabs TabS TabB ExtN CodeO codeO_ne)
/-! ### what an error tells -/
/-- the word of a class, and the name of what it keeps -/
def wordAt : Nat → Str
  | 0 => "habit"
  | 1 => "number"
  | 2 => "program"
  | _ => "inputs"
def fldAt : Nat → Option Str
  | 0 => some "place"
  | 2 => some "index"
  | _ => none
structure Knd (K : PySem.W.Frag) (mg : Str → Option Value) (E : Addr) (b : Nat) : Prop where
  few : b < 4
  ex : ExcC K E
  sup : ∃ S, mg "ShelfError" = some (.ref S) ∧ PySem.W.exmOne K (.ref E) (.ref S) = some true
  k0 : ∃ c, mg "BadHabit" = some (.ref c) ∧ PySem.W.kitOne K (.ref E) (.ref c) = some (decide (b = 0))
  k1 : ∃ c, mg "BadNumber" = some (.ref c) ∧ PySem.W.kitOne K (.ref E) (.ref c) = some (decide (b = 1))
  k2 : ∃ c, mg "BadProgram" = some (.ref c) ∧ PySem.W.kitOne K (.ref E) (.ref c) = some (decide (b = 2))
  k3 : ∃ c, mg "BadInputs" = some (.ref c) ∧ PySem.W.kitOne K (.ref E) (.ref c) = some (decide (b = 3))
/-- the classes that the law names -/
structure Five (mg : Str → Option Value) (S c0 c1 c2 c3 : Addr) : Prop where
  s : mg "ShelfError" = some (.ref S)
  h0 : mg "BadHabit" = some (.ref c0)
  h1 : mg "BadNumber" = some (.ref c1)
  h2 : mg "BadProgram" = some (.ref c2)
  h3 : mg "BadInputs" = some (.ref c3)
/-- the class itself, if it keeps something -/
def clsAt (mg : Str → Option Value) (E : Addr) : Nat → Prop
  | 0 => mg "BadHabit" = some (.ref E)
  | 2 => mg "BadProgram" = some (.ref E)
  | _ => True
theorem pl_data {K : PySem.W.Frag} {pl : V} (h : plV pl) : ∃ d : PyData, (∀ H, Dp K H pl d) ∧ (d = .none ∨ ∃ i : Nat, i < 16 ∧ d = .int (i : Int)) := by
  rcases h with rfl | ⟨i, hi, rfl⟩
  · exact ⟨.none, fun H => .non, .inl rfl⟩
  · exact ⟨.int (i : Int), fun H => .int _, .inr ⟨i, hi, rfl⟩⟩
theorem shp0 {d : PyData} (h : d = .none ∨ ∃ i : Nat, i < 16 ∧ d = .int (i : Int)) : SeqAt.shaped (.tuple [.str "habit", d]) = true := by
  rcases h with rfl | ⟨i, hi, rfl⟩
  · decide +kernel
  · rcases few_of hi with rfl | rfl | rfl | rfl | rfl | rfl | rfl | rfl | rfl | rfl | rfl | rfl | rfl | rfl | rfl | rfl <;> decide +kernel
theorem run_ex {X : Cx} {st : List Stmt} {pins : List (Addr × Obj)} {s : Shared} {σ : L2.St} {H : Hp} {D : Ends} (I : Inv X pins σ H s) (h : ∃ t, PSs X st t ∧ t D σ H) : wpAny (model X.prog X.w) X.A (execs st X.env) (SP X pins D) X.xe s := let ⟨_, ht, hq⟩ := h; ht.run pins s σ H D I hq
def RS (K : PySem.W.Frag) (mg : Str → Option Value) (a : Addr) (cls : Value) (d : Option Addr) : TS := fun D σ H => ∃ (v : V) (E : Addr) (b : Nat), σ = [some v, some .non, some (.ref a), none, none] ∧ cls = .ref E ∧ Knd K mg E b ∧
  ((fldAt b = none ∧ d = none ∧ ∀ H3 k1 k2, Same H H3 → D.nx [some v, some (.str (wordAt b)), some (.ref a), some (.ref k1), some (.ref k2)] H3) ∨
    (clsAt mg E b ∧ ∃ (fn : Str) (dd : Addr) (pl : V), fldAt b = some fn ∧ plV pl ∧ d = some dd ∧ H dd = some (.xd [(fn, pl)]) ∧ ∀ H3 k1 k2 t, Same H H3 → H3 t = some (.tup [.str (wordAt b), pl]) → D.nx [some v, some (.ref t), some (.ref a), some (.ref k1), some (.ref k2)] H3))
section
variable {P : Program} {w : World} {K : PySem.W.Frag} {mg : Str → Option Value} {base : Heap}
/-- a lambda that ends with an error: what is told of it -/
def spRefused (P : Program) (w : World) (K : PySem.W.Frag) (mg : Str → Option Value) (base : Heap) : Sp := fun vs H Q _ => ∃ (f E : Addr) (b : Nat), vs = [.ref f] ∧ Knd K mg E b ∧
  ((fldAt b = none ∧ Ready P w K mg base 9 f H (okN E H) ∧ ∀ H3, Same H H3 → Q (.str (wordAt b)) H3) ∨ (clsAt mg E b ∧ ∃ fn pl, fldAt b = some fn ∧ plV pl ∧ Ready P w K mg base 9 f H (okB E fn pl H) ∧ ∀ H3 t, Same H H3 → H3 t = some (.tup [.str (wordAt b), pl]) → Q (.ref t) H3) ∨ (Ready P w K mg base 9 f H (okR H) ∧ ∀ H3, Same H H3 → Q .non H3))
theorem ok_refused {S c0 c1 c2 c3 : Addr} (F : Df K mg "_law_refused" st__law_refused ["work"]) (B : Bu mg) (Fv : Five mg S c0 c1 c2 c3) (ex0 : ExcC K c0) (no0 : PySem.W.findIn K (.ref c0) "place" = some none) (ex2 : ExcC K c2) (no2 : PySem.W.findIn K (.ref c2) "index" = some none) : Cal P w K mg base 10 "_law_refused" (spRefused P w K mg base) := by
  refine mkCal F sc__law_refused (fun vs H Q E h => ?_) (fun f cdv A outer s H vs Q E hr h => ?_)
  · obtain ⟨f, Er, b, rfl, _⟩ := h
    rfl
  · obtain ⟨fw, E0, b0, rfl, Kn0, q⟩ := h
    refine ⟨_, pss_cons (ps_set (i := 1) sc__law_refused.nd rfl (.inl rfl) pe_non)
      (pss_cons (ps_try_as (i := 2) (c := .ref S) (tb := fun W => tDrop (tCall0K P w K mg base 9 0 (WE W))) (ts := fun a cls d => RS K mg a cls d) (Wout := fun _ _ _ _ => False) rfl rfl sc__law_refused.nd rfl rfl ⟨rfl, by decide, .inl Fv.s⟩ takes0
        (fun W pn xe tk _ => by exact pss_one (ps_expr (pe_call0K hr (by decide) (fun σ => passAt tk σ) rfl (.inl rfl))))
        (fun a oe cls d pn hz hf => ⟨fun pins s2 σ H2 D I h2 => ?_⟩))
      (pss_one (ps_ret (pv 1)))), ?_⟩
    · obtain ⟨v, Er, b, rfl, rfl, Kn, q2⟩ := h2
      refine run_ex I ⟨_, pss_cons (ps_set (i := 3) sc__law_refused.nd rfl (.inl rfl) (pe_lst pa_nil))
          (pss_cons (ps_expr (pe_bm PySem.F.plainAttrs_list PySem.F.slot_list_append PySem.F.type_list_append mt_append (pv 3) (pa_cons (pe_callB (call_isY (X := (cxOf CX0 P w K mg base ["work", "found", "e", "kinds", "names"] "_law_refused" (defScope st__law_refused) f cdv A outer s H E).nox) (a := a) (pn := pn) hz hf) (by rfl) B.isi (by decide +kernel) (pa_cons (pv 2) (pa_cons (pe_glob (v := .ref c0) (by rfl) Fv.h0 (by rfl)) pa_nil))) pa_nil)))
          (pss_cons (ps_expr (pe_bm PySem.F.plainAttrs_list PySem.F.slot_list_append PySem.F.type_list_append mt_append (pv 3) (pa_cons (pe_callB (call_isY (X := (cxOf CX0 P w K mg base ["work", "found", "e", "kinds", "names"] "_law_refused" (defScope st__law_refused) f cdv A outer s H E).nox) (a := a) (pn := pn) hz hf) (by rfl) B.isi (by decide +kernel) (pa_cons (pv 2) (pa_cons (pe_glob (v := .ref c1) (by rfl) Fv.h1 (by rfl)) pa_nil))) pa_nil)))
          (pss_cons (ps_expr (pe_bm PySem.F.plainAttrs_list PySem.F.slot_list_append PySem.F.type_list_append mt_append (pv 3) (pa_cons (pe_callB (call_isY (X := (cxOf CX0 P w K mg base ["work", "found", "e", "kinds", "names"] "_law_refused" (defScope st__law_refused) f cdv A outer s H E).nox) (a := a) (pn := pn) hz hf) (by rfl) B.isi (by decide +kernel) (pa_cons (pv 2) (pa_cons (pe_glob (v := .ref c2) (by rfl) Fv.h2 (by rfl)) pa_nil))) pa_nil)))
          (pss_cons (ps_expr (pe_bm PySem.F.plainAttrs_list PySem.F.slot_list_append PySem.F.type_list_append mt_append (pv 3) (pa_cons (pe_callB (call_isY (X := (cxOf CX0 P w K mg base ["work", "found", "e", "kinds", "names"] "_law_refused" (defScope st__law_refused) f cdv A outer s H E).nox) (a := a) (pn := pn) hz hf) (by rfl) B.isi (by decide +kernel) (pa_cons (pv 2) (pa_cons (pe_glob (v := .ref c3) (by rfl) Fv.h3 (by rfl)) pa_nil))) pa_nil)))
          (pss_cons (ps_set (i := 4) sc__law_refused.nd rfl (.inl rfl) (pe_lst (pa_cons pe_str (pa_cons pe_str (pa_cons pe_str (pa_cons pe_str pa_nil))))))
          (pss_cons (ps_set (i := 1) sc__law_refused.nd rfl (.inl rfl) (pe_ifExp (pt_cmpR op_eq (pe_bm PySem.F.plainAttrs_list PySem.F.slot_list_count PySem.F.type_list_count mt_countF (pv 3) (pa_cons pe_bl pa_nil)) pe_int (nomark _))
            (pe_ix ix_list (pv 4) (pe_bm PySem.F.plainAttrs_list PySem.F.slot_list_index PySem.F.type_list_index mt_index (pv 3) (pa_cons pe_bl pa_nil)) (fun _ _ => rfl)) pe_str))
          (pss_cons (ps_set (i := 1) sc__law_refused.nd rfl (.inl rfl) (pe_ifExp (pt_cmpR op_eq (pv 1) pe_str (nomark _)) (pe_tup (pa_cons pe_str (pa_cons (pe_xf (X := (cxOf CX0 P w K mg base ["work", "found", "e", "kinds", "names"] "_law_refused" (defScope st__law_refused) f cdv A outer s H E).nox) (a := a) (pn := pn) ⟨ex0.hg, ex0.hk, ex0.hs, ex0.hd⟩ no0 hz hf (pv 2)) pa_nil))) (pv 1)))
          (pss_one (ps_set (i := 1) sc__law_refused.nd rfl (.inl rfl) (pe_ifExp (pt_cmpR (op_eqD hr.units) (pv 1) pe_str (nomark _)) (pe_tup (pa_cons pe_str (pa_cons (pe_xf (X := (cxOf CX0 P w K mg base ["work", "found", "e", "kinds", "names"] "_law_refused" (defScope st__law_refused) f cdv A outer s H E).nox) (a := a) (pn := pn) ⟨ex2.hg, ex2.hk, ex2.hs, ex2.hd⟩ no2 hz hf (pv 2)) pa_nil))) (pv 1))))))))))), ?_⟩
      obtain ⟨few, ex, _, ⟨e0, m0, k0⟩, ⟨e1, m1, k1⟩, ⟨e2, m2, k2⟩, ⟨e3, m3, k3⟩⟩ := Kn
      obtain rfl : e0 = c0 := Value.ref.inj (Option.some.inj (m0.symm.trans Fv.h0))
      obtain rfl : e1 = c1 := Value.ref.inj (Option.some.inj (m1.symm.trans Fv.h1))
      obtain rfl : e2 = c2 := Value.ref.inj (Option.some.inj (m2.symm.trans Fv.h2))
      obtain rfl : e3 = c3 := Value.ref.inj (Option.some.inj (m3.symm.trans Fv.h3))
      have dk : d = none ∨ ∃ (dd : Addr) (fs : List (Str × V)), d = some dd ∧ H2 dd = some (.xd fs) := by
        rcases q2 with ⟨_, e, _⟩ | ⟨_, fn, dd, pl, _, _, e, e2, _⟩
        · exact .inl e
        · exact .inr ⟨dd, _, e, e2⟩
      refine ⟨Nat.zero_le _, fun kl hkl => ?_⟩
      have dks : ∀ H' : Hp, (∀ bb, bb ≠ kl → H' bb = H2 bb) → (d = none ∨ ∃ (dd : Addr) (fs : List (Str × V)), d = some dd ∧ H' dd = some (.xd fs)) := fun H' hh => by
        rcases dk with e | ⟨dd, fs, e, e2⟩
        · exact .inl e
        · exact .inr ⟨dd, fs, e, (hh dd (ne_of_none e2 hkl)).trans e2⟩
      refine ⟨_, rfl, .inl ⟨rfl, _, lstAt upd_same⟩, _, rfl, Er, e0, _, rfl, dks _ (fun bb nb => by rw [upd_ne nb]), ex, rfl, k0, kl, _, _, rfl, rfl, upd_same, by show 0 < sizeLine; decide +kernel, ?_⟩
      refine ⟨_, rfl, .inl ⟨rfl, _, lstAt upd_same⟩, _, rfl, Er, e1, _, rfl, dks _ (fun bb nb => by rw [upd_ne nb]; rw [upd_ne nb]), ex, rfl, k1, kl, _, _, rfl, rfl, upd_same, by show 1 < sizeLine; decide +kernel, ?_⟩
      refine ⟨_, rfl, .inl ⟨rfl, _, lstAt upd_same⟩, _, rfl, Er, e2, _, rfl, dks _ (fun bb nb => by rw [upd_ne nb]; rw [upd_ne nb]; rw [upd_ne nb]), ex, rfl, k2, kl, _, _, rfl, rfl, upd_same, by show 2 < sizeLine; decide +kernel, ?_⟩
      refine ⟨_, rfl, .inl ⟨rfl, _, lstAt upd_same⟩, _, rfl, Er, e3, _, rfl, dks _ (fun bb nb => by rw [upd_ne nb]; rw [upd_ne nb]; rw [upd_ne nb]; rw [upd_ne nb]), ex, rfl, k3, kl, _, _, rfl, rfl, upd_same, by show 3 < sizeLine; decide +kernel, ?_⟩
      refine ⟨by decide +kernel, fun nl hnl => ?_⟩
      have sn : Same H2 _ := fun bb o e => same_new (o := .lst [.str "habit", .str "number", .str "program", .str "inputs"]) hnl bb o (by
        have nb : bb ≠ kl := ne_of_none e hkl
        rw [upd_ne nb, upd_ne nb, upd_ne nb, upd_ne nb, upd_ne nb]
        exact e)
      have nkn : kl ≠ nl := ne_of_none upd_same hnl
      refine ⟨_, rfl, .inl ⟨rfl, _, lstAt (by rw [upd_ne nkn]; exact upd_same)⟩, kl, _, .bl true, rfl, rfl, lstAt (by rw [upd_ne nkn]; exact upd_same), rfl, rfl, rfl, _, rfl, ?_⟩
      have two : b = 0 ∨ b = 1 ∨ b = 2 ∨ b = 3 := by omega
      rcases two with rfl | rfl | rfl | rfl
      · refine ifT (by decide +kernel) ⟨_, rfl, _, rfl, .inl ⟨rfl, _, lstAt (by rw [upd_ne nkn]; exact upd_same)⟩, kl, _, .bl true, 0, .bl true, rfl, rfl, lstAt (by rw [upd_ne nkn]; exact upd_same), rfl, rfl, rfl, rfl, fun m z' hm hz' => ?_, nl, _, _, _, rfl, rfl, lstAt upd_same, rfl, ?_⟩
        · exact absurd hm (Nat.not_lt_zero _)
        · rcases q2 with ⟨z, _⟩ | ⟨mE, fn, dd, pl, hfn, hpl, rfl, hd, q2⟩
          · cases z
          cases hfn
          have mE : mg "BadHabit" = some (.ref Er) := mE
          obtain rfl : Er = e0 := Value.ref.inj (Option.some.inj (mE.symm.trans m0))
          refine ⟨_, rfl, rfl, _, rfl, ifT (by decide +kernel) ⟨_, rfl, rfl, rfl, dd, _, pl, rfl, sn _ _ hd, rfl, by show 2 ≤ sizeLine; decide +kernel, fun t ht => ?_⟩⟩
          obtain ⟨dp, hdp, hds⟩ := pl_data (K := K) hpl
          refine ⟨_, rfl, .tuple [.str "habit", dp], .str "program", .tup (tupAt upd_same) (.cons (.str _) (.cons (hdp _) .nil)), .str _, shp0 hds, by decide +kernel, _, rfl, ifF (by rfl) ⟨_, rfl, ?_⟩⟩
          exact q2 _ kl nl t (sn.trans (same_new ht)) upd_same
      · refine ifT (by decide +kernel) ⟨_, rfl, _, rfl, .inl ⟨rfl, _, lstAt (by rw [upd_ne nkn]; exact upd_same)⟩, kl, _, .bl true, 1, .bl true, rfl, rfl, lstAt (by rw [upd_ne nkn]; exact upd_same), rfl, rfl, rfl, rfl, fun m z' hm hz' => ?_, nl, _, _, _, rfl, rfl, lstAt upd_same, rfl, ?_⟩
        · match m, hm with
          | 0, _ => cases Option.some.inj hz'; rfl
        · rcases q2 with ⟨_, _, q2⟩ | ⟨_, fn, dd, pl, z, _⟩
          · refine ⟨_, rfl, rfl, _, rfl, ifF (by decide +kernel) ⟨_, rfl, ?_⟩⟩
            refine ⟨_, rfl, .str "number", .str "program", .str _, .str _, by decide +kernel, by decide +kernel, _, rfl, ifF (by decide +kernel) ⟨_, rfl, ?_⟩⟩
            exact q2 _ kl nl sn
          · cases z
      · refine ifT (by decide +kernel) ⟨_, rfl, _, rfl, .inl ⟨rfl, _, lstAt (by rw [upd_ne nkn]; exact upd_same)⟩, kl, _, .bl true, 2, .bl true, rfl, rfl, lstAt (by rw [upd_ne nkn]; exact upd_same), rfl, rfl, rfl, rfl, fun m z' hm hz' => ?_, nl, _, _, _, rfl, rfl, lstAt upd_same, rfl, ?_⟩
        · match m, hm with
          | 0, _ => cases Option.some.inj hz'; rfl
          | 1, _ => cases Option.some.inj hz'; rfl
        · rcases q2 with ⟨z, _⟩ | ⟨mE, fn, dd, pl, hfn, hpl, rfl, hd, q2⟩
          · cases z
          cases hfn
          have mE : mg "BadProgram" = some (.ref Er) := mE
          obtain rfl : Er = e2 := Value.ref.inj (Option.some.inj (mE.symm.trans m2))
          refine ⟨_, rfl, rfl, _, rfl, ifF (by decide +kernel) ⟨_, rfl, ?_⟩⟩
          refine ⟨_, rfl, .str "program", .str "program", .str _, .str _, by decide +kernel, by decide +kernel, _, rfl, ifT (by decide +kernel) ⟨_, rfl, rfl, rfl, dd, _, pl, rfl, sn _ _ hd, rfl, by show 2 ≤ sizeLine; decide +kernel, fun t ht => ?_⟩⟩
          exact q2 _ kl nl t (sn.trans (same_new ht)) upd_same
      · refine ifT (by decide +kernel) ⟨_, rfl, _, rfl, .inl ⟨rfl, _, lstAt (by rw [upd_ne nkn]; exact upd_same)⟩, kl, _, .bl true, 3, .bl true, rfl, rfl, lstAt (by rw [upd_ne nkn]; exact upd_same), rfl, rfl, rfl, rfl, fun m z' hm hz' => ?_, nl, _, _, _, rfl, rfl, lstAt upd_same, rfl, ?_⟩
        · match m, hm with
          | 0, _ => cases Option.some.inj hz'; rfl
          | 1, _ => cases Option.some.inj hz'; rfl
          | 2, _ => cases Option.some.inj hz'; rfl
        · rcases q2 with ⟨_, _, q2⟩ | ⟨_, fn, dd, pl, z, _⟩
          · refine ⟨_, rfl, rfl, _, rfl, ifF (by decide +kernel) ⟨_, rfl, ?_⟩⟩
            refine ⟨_, rfl, .str "inputs", .str "program", .str _, .str _, by decide +kernel, by decide +kernel, _, rfl, ifF (by decide +kernel) ⟨_, rfl, ?_⟩⟩
            exact q2 _ kl nl sn
          · cases z
    · obtain ⟨S', gS, hS⟩ := Kn0.sup
      obtain rfl : S' = S := Value.ref.inj (Option.some.inj (gS.symm.trans Fv.s))
      rcases q with ⟨nb, R, q⟩ | ⟨mE, fn, pl, hfn, hpl, R, q⟩ | ⟨R, q⟩
      · exact ⟨fw, _, rfl, R, rfl, fun H2 s2 => ⟨true, hS, fun _ a ha => ⟨.ref fw, E0, b0, rfl, rfl, Kn0, .inl ⟨nb, rfl, fun H3 k1 k2 s3 => ⟨_, rfl, q H3 (s2.trans s3)⟩⟩⟩, fun z => nomatch z⟩⟩
      · exact ⟨fw, _, rfl, R, rfl, fun d H2 s2 hd => ⟨true, hS, fun _ a ha => ⟨.ref fw, E0, b0, rfl, rfl, Kn0, .inr ⟨mE, fn, d, pl, hfn, hpl, rfl, hd, fun H3 k1 k2 t s3 ht => ⟨_, rfl, q H3 t (s2.trans s3) ht⟩⟩⟩, fun z => nomatch z⟩⟩
      · exact ⟨fw, _, rfl, R, rfl, fun H2 v s2 => ⟨_, rfl, q H2 s2⟩⟩
end
end RH
set_option Elab.async false
set_option linter.all false
set_option maxRecDepth 100000
set_option maxHeartbeats 2000000
namespace RH
open PySem PySem.Spec PyProof.Rows L2
/-! ### programs that the law draws -/
/-- an instruction of a still program -/
def stI : Ins → Prop
  | .touch _ => False
  | .put c => -1000000 ≤ c ∧ c ≤ 1000000
  | _ => True
def wordsL : List V := [.str "get", .str "set", .str "plus", .str "minus", .str "get", .str "set", .str "put", .str "say", .str "ask", .str "zero", .str "zero", .str "go", .str "stop", .str "say"]
theorem words_of {x : V} (h : x ∈ wordsL) : x = .str "get" ∨ x = .str "set" ∨ x = .str "plus" ∨ x = .str "minus" ∨ x = .str "put" ∨ x = .str "say" ∨ x = .str "ask" ∨ x = .str "zero" ∨ x = .str "go" ∨ x = .str "stop" := by
  unfold wordsL at h
  simp only [List.mem_cons, List.not_mem_nil, or_false] at h
  rcases h with h | h | h | h | h | h | h | h | h | h | h | h | h | h <;> simp [h]
section
variable {P : Program} {w : World} {K : PySem.W.Frag} {mg : Str → Option Value} {base : Heap}
def spProgL (K : PySem.W.Frag) : Sp := fun vs H Q _ => ∃ (p : Addr) (n many : Nat), vs = [.ref p, .int (n : Int), .int (many : Int)] ∧ Row K H p ∧ 1 ≤ n ∧ n ≤ 5 ∧ 1 ≤ many ∧ many ≤ 30 ∧
  ∀ (H' : Hp) (v : V) (pg : List Ins), But p H H' → Row K H' p → RPg K H' v pg → 1 ≤ pg.length → pg.length ≤ many → (∀ i ∈ pg, okIns n pg.length i ∧ stI i) → Q v H'
theorem Each.appM {α : Type} {R : V → α → Prop} : ∀ {xs ys : List V} {ds es : List α}, Each R xs ds → Each R ys es → Each R (xs ++ ys) (ds ++ es)
  | _, _, _, _, .nil, h => h
  | _, _, _, _, .cons k t, h => .cons k (t.appM h)
/-- what has been drawn so far -/
structure PrL (K : PySem.W.Frag) (H : Hp) (p fl wl : Addr) (n size : Nat) (H' : Hp) (xs : List V) (pg : List Ins) : Prop where
  but : But p H H'
  row : Row K H' p
  ls : H' fl = some (.lst xs)
  wd : H' wl = some (.lst wordsL)
  each : Each (RIns K H') xs pg
  ok : ∀ i ∈ pg, okIns n size i ∧ stI i
theorem PrL.step {H : Hp} {p fl wl : Addr} {n size : Nat} {H1 H2 : Hp} {xs : List V} {pg : List Ins} (s : PrL K H p fl wl n size H1 xs pg) (np : fl ≠ p) (nw : wl ≠ p) (b : But p H1 H2) (r : Row K H2 p) : PrL K H p fl wl n size H2 xs pg :=
  ⟨fun c o e ne => b c o (s.but c o e ne) ne, r, b _ _ s.ls np, b _ _ s.wd nw, s.each.imp fun _ _ z => z.on (s.row.fix b).tups, s.ok⟩
theorem PrL.add {H : Hp} {p fl wl : Addr} {n size : Nat} {H1 : Hp} {xs : List V} {pg : List Ins} (s : PrL K H p fl wl n size H1 xs pg) (np : fl ≠ p) (nw : wl ≠ fl) (hf : H fl = none) {t : Addr} {i : Ins} (ht : H1 t = none) (ok : okIns n size i ∧ stI i) :
    PrL K H p fl wl n size (upd (upd H1 t (.tup (.str i.word :: i.num.map V.int))) fl (.lst (xs ++ [.ref t]))) (xs ++ [.ref t]) (pg ++ [i]) := by
  have s1 := same_new (o := .tup (.str i.word :: i.num.map V.int)) ht
  have e1 := s1 _ _ s.ls
  have fx : Fix H1 (upd (upd H1 t (.tup (.str i.word :: i.num.map V.int))) fl (.lst (xs ++ [.ref t]))) := (Fix.same s1).trans (Fix.lst e1)
  obtain ⟨rs, hrs⟩ := s.row.lst
  refine ⟨fun c o e ne => ?_, ?_, upd_same, ?_, ?_, fun j hj => ?_⟩
  · rw [upd_ne (ne_of_none e hf)]
    exact s1 _ _ (s.but c o e ne)
  · exact (s.row.same s1).lst_upd e1 (Ne.symm np)
  · rw [upd_ne nw]
    exact s1 _ _ s.wd
  · refine (s.each.imp fun _ _ z => z.on fx.tups).appM (.cons ⟨t, rfl, ?_⟩ .nil)
    exact (Fix.lst e1).tups _ _ (tupAt upd_same)
  · rcases List.mem_append.mp hj with hj | hj
    · exact s.ok j hj
    · rw [List.mem_singleton.mp hj]
      exact ok
theorem ok_lprogram (F : Df K mg "_law_program" st__law_program ["row", "places", "many"]) (B : Bu mg) (CT : Cal P w K mg base 1 "_law_taken" (spTaken K)) (CPk : Cal P w K mg base 2 "_law_pick" (spPick K)) : Cal P w K mg base 3 "_law_program" (spProgL K) := by
  refine mkCal F sc__law_program (fun vs H Q E h => ?_) (fun f cdv A outer s H vs Q E hr h => ?_)
  · obtain ⟨p, n, many, rfl, _⟩ := h
    rfl
  · obtain ⟨p, n, many, rfl, hR, n1, n5, m1, m30, q⟩ := h
    refine ⟨_, (pss_cons (ps_par (i := 3) (j := 4) rfl sc__law_program.nd rfl rfl (by decide) rfl rfl (pa_cons (pe_op op_add pe_int (pc CT hr (pa_cons (pv 0) (pa_cons (pv 2) pa_nil)))) (pa_cons (pe_lst pa_nil) pa_nil)) rfl)
      (pss_cons (ps_set (i := 5) sc__law_program.nd rfl (.inl rfl) (pe_lst (pa_cons pe_str (pa_cons pe_str (pa_cons pe_str (pa_cons pe_str (pa_cons pe_str (pa_cons pe_str (pa_cons pe_str (pa_cons pe_str (pa_cons pe_str (pa_cons pe_str (pa_cons pe_str (pa_cons pe_str (pa_cons pe_str (pa_cons pe_str pa_nil))))))))))))))))
      (pss_cons (ps_for PassesOwn.never rfl (pi_range1 (by rfl) B.range (pa_cons (pv 3) pa_nil)) (pg_name (i := 6) sc__law_program.nd rfl (.inl rfl))
        (pss_cons (ps_set (i := 7) sc__law_program.nd rfl (.inl rfl) (pc CPk hr (pa_cons (pv 0) (pa_cons (pv 5) pa_nil)))) (pss_one (ps_if (pt_cmpR (opIn K) (pv 7) (pe_lst (pa_cons pe_str (pa_cons pe_str (pa_cons pe_str (pa_cons pe_str pa_nil))))) rfl) (pss_one (ps_expr (pe_bm PySem.F.plainAttrs_list PySem.F.slot_list_append PySem.F.type_list_append mt_append (pv 4) (pa_cons (pe_tup (pa_cons (pv 7) (pa_cons (pc CT hr (pa_cons (pv 0) (pa_cons (pv 1) pa_nil))) pa_nil))) pa_nil))))
          (pss_one (ps_if (pt_cmpR op_eq (pv 7) pe_str (nomark _)) (pss_one (ps_expr (pe_bm PySem.F.plainAttrs_list PySem.F.slot_list_append PySem.F.type_list_append mt_append (pv 4) (pa_cons (pe_tup (pa_cons (pv 7) (pa_cons (pe_op op_sub (pc CT hr (pa_cons (pv 0) (pa_cons pe_int pa_nil))) pe_int) pa_nil))) pa_nil))))
            (pss_one (ps_if (pt_cmpR (opIn K) (pv 7) (pe_lst (pa_cons pe_str (pa_cons pe_str pa_nil))) rfl) (pss_one (ps_expr (pe_bm PySem.F.plainAttrs_list PySem.F.slot_list_append PySem.F.type_list_append mt_append (pv 4) (pa_cons (pe_tup (pa_cons (pv 7) (pa_cons (pc CT hr (pa_cons (pv 0) (pa_cons (pe_op op_add (pv 3) pe_int) pa_nil))) pa_nil))) pa_nil))))
              (pss_one (ps_expr (pe_bm PySem.F.plainAttrs_list PySem.F.slot_list_append PySem.F.type_list_append mt_append (pv 4) (pa_cons (pe_ifExp (PW.pt (pw_or (pt_cmpR op_ne (pv 7) pe_str (nomark _)) (pw_or1 (pt_cmpR op_eq (pc CT hr (pa_cons (pv 0) (pa_cons pe_int pa_nil))) pe_int (nomark _))))) (pe_tup (pa_cons (pv 7) pa_nil)) (pe_tup (pa_cons pe_str pa_nil))) pa_nil))))))))))))
      (pss_one (ps_ret (pe_tupleOf (by rfl) B.tuple (pv 4))))))), ?_⟩
    refine ⟨_, rfl, _, rfl, p, (many : Int), rfl, hR, by omega, by omega, fun k H1 k0 k1 hB1 hR1 => ⟨1, k, rfl, rfl, Nat.zero_le _, fun fl hfl => ⟨_, _, rfl, ?_⟩⟩⟩
    obtain ⟨size, hs⟩ : ∃ size : Nat, 1 + k = (size : Int) := ⟨(1 + k).toNat, by omega⟩
    simp only [hs]
    have z1 : 1 ≤ size := by omega
    have z2 : size ≤ many := by omega
    have np : fl ≠ p := (hR1.ne hfl).symm
    have sf := same_new (o := .lst []) hfl
    refine ⟨by show 14 ≤ sizeLine; decide, fun wl hwl => ?_⟩
    have sw := same_new (o := .lst wordsL) hwl
    have nw : wl ≠ p := (((hR1.same sf).ne hwl)).symm
    have nwf : wl ≠ fl := fun e => by
      rw [e, upd_same] at hwl
      cases hwl
    have hf0 : H fl = none := by
      cases e : H fl with
      | none => rfl
      | some o =>
        have := hB1 _ _ e np
        rw [hfl] at this
        cases this
    have L0 : PrL K H p fl wl n size (upd (upd H1 fl (.lst [])) wl (.lst wordsL)) [] [] := ⟨fun c o e ne => sw _ _ (sf _ _ (hB1 c o e ne)), (hR1.same sf).same sw, sw _ _ upd_same, upd_same, .nil, fun i hi => by cases hi⟩
    refine ⟨_, rfl, (size : Int), rfl, by omega, by omega, ?_⟩
    rw [Int.toNat_natCast]
    refine for_range (lo := 0) (n := size) (fun i σ H' => ∃ xs pg y6 y7, PrL K H p fl wl n size H' xs pg ∧ pg.length = i ∧ σ = [some (.ref p), some (.int (n : Int)), some (.int (many : Int)), some (.int (size : Int)), some (.ref fl), some (.ref wl), y6, y7]) ⟨[], [], none, none, L0, rfl, rfl⟩ (fun i σ H' hi h' => ?_) (fun σ H' h' => ?_)
    · obtain ⟨xs, pg, y6, y7, L, hl, rfl⟩ := h'
      refine ⟨_, rfl, _, rfl, p, wl, wordsL, rfl, L.row, L.wd, nw, by decide, by decide, fun iw wx H2 hwx hB2 hR2 => ?_⟩
      have L2 := L.step np nw hB2 hR2
      have few : xs.length < sizeLine := by
        have := L2.each.len
        rw [this, hl, sizeLine_eq]
        omega
      have fin : ∀ {H3 : Hp} (L3 : PrL K H p fl wl n size H3 xs pg) {t : Addr} (y6' y7' : Option V) (j : Ins), H3 t = none → okIns n size j ∧ stI j → (∃ xs' pg' y6 y7, PrL K H p fl wl n size (upd (upd H3 t (.tup (.str j.word :: j.num.map V.int))) fl (.lst (xs ++ [.ref t]))) xs' pg' ∧ pg'.length = i + 1 ∧ [some (.ref p), some (.int (n : Int)), some (.int (many : Int)), some (.int (size : Int)), some (.ref fl), some (.ref wl), y6', y7'] = [some (.ref p), some (.int (n : Int)), some (.int (many : Int)), some (.int (size : Int)), some (.ref fl), some (.ref wl), y6, y7]) := fun {_} L3 {t} y6' y7' j ht ok => ⟨_, _, _, _, L3.add np nwf hf0 ht ok, by rw [List.length_append, hl]; rfl, rfl⟩
      rcases words_of (List.mem_of_getElem? hwx) with rfl | rfl | rfl | rfl | rfl | rfl | rfl | rfl | rfl | rfl
      · refine ⟨_, rfl, by show 4 ≤ sizeLine; decide, fun la hla => ⟨la, _, rfl, .inl (lstAt upd_same), rfl, by decide, _, rfl, ifT (by show inV (.str "get") (accZ.map V.str) = true; decide +kernel) ?_⟩⟩
        have La := L2.step np nw (fun c o e ne => same_new (o := .lst [.str "get", .str "set", .str "plus", .str "minus"]) hla c o e) (hR2.same (same_new hla))
        refine ⟨_, rfl, .inl ⟨rfl, _, lstAt La.ls⟩, _, rfl, _, rfl, _, rfl, p, (n : Int), rfl, La.row, by omega, by omega, fun kk H3 kk0 kk1 hB3 hR3 => ⟨by show 2 ≤ sizeLine; decide, fun t ht => ?_⟩⟩
        have L3 := La.step np nw hB3 hR3
        obtain ⟨kn, rfl⟩ : ∃ kn : Nat, kk = (kn : Int) := ⟨kk.toNat, by omega⟩
        exact ⟨fl, _, _, rfl, rfl, same_new (o := .tup [.str "get", .int (kn : Int)]) ht _ _ L3.ls, few, fin L3 _ _ (.get kn) ht ⟨by show kn < n; omega, trivial⟩⟩
      · refine ⟨_, rfl, by show 4 ≤ sizeLine; decide, fun la hla => ⟨la, _, rfl, .inl (lstAt upd_same), rfl, by decide, _, rfl, ifT (by show inV (.str "set") (accZ.map V.str) = true; decide +kernel) ?_⟩⟩
        have La := L2.step np nw (fun c o e ne => same_new (o := .lst [.str "get", .str "set", .str "plus", .str "minus"]) hla c o e) (hR2.same (same_new hla))
        refine ⟨_, rfl, .inl ⟨rfl, _, lstAt La.ls⟩, _, rfl, _, rfl, _, rfl, p, (n : Int), rfl, La.row, by omega, by omega, fun kk H3 kk0 kk1 hB3 hR3 => ⟨by show 2 ≤ sizeLine; decide, fun t ht => ?_⟩⟩
        have L3 := La.step np nw hB3 hR3
        obtain ⟨kn, rfl⟩ : ∃ kn : Nat, kk = (kn : Int) := ⟨kk.toNat, by omega⟩
        exact ⟨fl, _, _, rfl, rfl, same_new (o := .tup [.str "set", .int (kn : Int)]) ht _ _ L3.ls, few, fin L3 _ _ (.set kn) ht ⟨by show kn < n; omega, trivial⟩⟩
      · refine ⟨_, rfl, by show 4 ≤ sizeLine; decide, fun la hla => ⟨la, _, rfl, .inl (lstAt upd_same), rfl, by decide, _, rfl, ifT (by show inV (.str "plus") (accZ.map V.str) = true; decide +kernel) ?_⟩⟩
        have La := L2.step np nw (fun c o e ne => same_new (o := .lst [.str "get", .str "set", .str "plus", .str "minus"]) hla c o e) (hR2.same (same_new hla))
        refine ⟨_, rfl, .inl ⟨rfl, _, lstAt La.ls⟩, _, rfl, _, rfl, _, rfl, p, (n : Int), rfl, La.row, by omega, by omega, fun kk H3 kk0 kk1 hB3 hR3 => ⟨by show 2 ≤ sizeLine; decide, fun t ht => ?_⟩⟩
        have L3 := La.step np nw hB3 hR3
        obtain ⟨kn, rfl⟩ : ∃ kn : Nat, kk = (kn : Int) := ⟨kk.toNat, by omega⟩
        exact ⟨fl, _, _, rfl, rfl, same_new (o := .tup [.str "plus", .int (kn : Int)]) ht _ _ L3.ls, few, fin L3 _ _ (.plus kn) ht ⟨by show kn < n; omega, trivial⟩⟩
      · refine ⟨_, rfl, by show 4 ≤ sizeLine; decide, fun la hla => ⟨la, _, rfl, .inl (lstAt upd_same), rfl, by decide, _, rfl, ifT (by show inV (.str "minus") (accZ.map V.str) = true; decide +kernel) ?_⟩⟩
        have La := L2.step np nw (fun c o e ne => same_new (o := .lst [.str "get", .str "set", .str "plus", .str "minus"]) hla c o e) (hR2.same (same_new hla))
        refine ⟨_, rfl, .inl ⟨rfl, _, lstAt La.ls⟩, _, rfl, _, rfl, _, rfl, p, (n : Int), rfl, La.row, by omega, by omega, fun kk H3 kk0 kk1 hB3 hR3 => ⟨by show 2 ≤ sizeLine; decide, fun t ht => ?_⟩⟩
        have L3 := La.step np nw hB3 hR3
        obtain ⟨kn, rfl⟩ : ∃ kn : Nat, kk = (kn : Int) := ⟨kk.toNat, by omega⟩
        exact ⟨fl, _, _, rfl, rfl, same_new (o := .tup [.str "minus", .int (kn : Int)]) ht _ _ L3.ls, few, fin L3 _ _ (.minus kn) ht ⟨by show kn < n; omega, trivial⟩⟩
      · refine ⟨_, rfl, by show 4 ≤ sizeLine; decide, fun la hla => ⟨la, _, rfl, .inl (lstAt upd_same), rfl, by decide, _, rfl, ifF (by show inV (.str "put") (accZ.map V.str) = false; decide +kernel) ?_⟩⟩
        have La := L2.step np nw (fun c o e ne => same_new (o := .lst [.str "get", .str "set", .str "plus", .str "minus"]) hla c o e) (hR2.same (same_new hla))
        refine ⟨_, rfl, rfl, _, rfl, ifT (by show decide (V.str "put" = V.str "put") = true; decide +kernel) ⟨_, rfl, .inl ⟨rfl, _, lstAt La.ls⟩, _, rfl, _, rfl, p, 7, rfl, La.row, by decide, by decide, fun kk H3 kk0 kk1 hB3 hR3 => ⟨kk, 3, rfl, rfl, by show 2 ≤ sizeLine; decide, fun t ht => ?_⟩⟩⟩
        have L3 := La.step np nw hB3 hR3
        exact ⟨fl, _, _, rfl, rfl, same_new (o := .tup [.str "put", .int (kk - 3)]) ht _ _ L3.ls, few, fin L3 _ _ (.put (kk - 3)) ht ⟨trivial, by show -1000000 ≤ kk - 3 ∧ kk - 3 ≤ 1000000; omega⟩⟩
      · refine ⟨_, rfl, by show 4 ≤ sizeLine; decide, fun la hla => ⟨la, _, rfl, .inl (lstAt upd_same), rfl, by decide, _, rfl, ifF (by show inV (.str "say") (accZ.map V.str) = false; decide +kernel) ?_⟩⟩
        have La := L2.step np nw (fun c o e ne => same_new (o := .lst [.str "get", .str "set", .str "plus", .str "minus"]) hla c o e) (hR2.same (same_new hla))
        refine ⟨_, rfl, rfl, _, rfl, ifF (by show decide (V.str "say" = V.str "put") = false; decide +kernel) ⟨_, rfl, by show 2 ≤ sizeLine; decide, fun lj hlj => ⟨lj, _, rfl, .inl (lstAt upd_same), rfl, by decide, _, rfl, ifF (by show inV (.str "say") (jumpZ.map V.str) = false; decide +kernel) ?_⟩⟩⟩
        have Lb := La.step np nw (fun c o e ne => same_new (o := .lst [.str "zero", .str "go"]) hlj c o e) (La.row.same (same_new hlj))
        refine ⟨_, rfl, .inl ⟨rfl, _, lstAt Lb.ls⟩, _, rfl, rfl, _, rfl, ifT (by show (!decide (V.str "say" = V.str "stop")) = true; decide +kernel) (ifT rfl ⟨_, rfl, by show 1 ≤ sizeLine; decide, fun t ht => ?_⟩)⟩
        exact ⟨fl, _, _, rfl, rfl, same_new (o := .tup [.str "say"]) ht _ _ Lb.ls, few, fin Lb _ _ .say ht ⟨trivial, trivial⟩⟩
      · refine ⟨_, rfl, by show 4 ≤ sizeLine; decide, fun la hla => ⟨la, _, rfl, .inl (lstAt upd_same), rfl, by decide, _, rfl, ifF (by show inV (.str "ask") (accZ.map V.str) = false; decide +kernel) ?_⟩⟩
        have La := L2.step np nw (fun c o e ne => same_new (o := .lst [.str "get", .str "set", .str "plus", .str "minus"]) hla c o e) (hR2.same (same_new hla))
        refine ⟨_, rfl, rfl, _, rfl, ifF (by show decide (V.str "ask" = V.str "put") = false; decide +kernel) ⟨_, rfl, by show 2 ≤ sizeLine; decide, fun lj hlj => ⟨lj, _, rfl, .inl (lstAt upd_same), rfl, by decide, _, rfl, ifF (by show inV (.str "ask") (jumpZ.map V.str) = false; decide +kernel) ?_⟩⟩⟩
        have Lb := La.step np nw (fun c o e ne => same_new (o := .lst [.str "zero", .str "go"]) hlj c o e) (La.row.same (same_new hlj))
        refine ⟨_, rfl, .inl ⟨rfl, _, lstAt Lb.ls⟩, _, rfl, rfl, _, rfl, ifT (by show (!decide (V.str "ask" = V.str "stop")) = true; decide +kernel) (ifT rfl ⟨_, rfl, by show 1 ≤ sizeLine; decide, fun t ht => ?_⟩)⟩
        exact ⟨fl, _, _, rfl, rfl, same_new (o := .tup [.str "ask"]) ht _ _ Lb.ls, few, fin Lb _ _ .ask ht ⟨trivial, trivial⟩⟩
      · refine ⟨_, rfl, by show 4 ≤ sizeLine; decide, fun la hla => ⟨la, _, rfl, .inl (lstAt upd_same), rfl, by decide, _, rfl, ifF (by show inV (.str "zero") (accZ.map V.str) = false; decide +kernel) ?_⟩⟩
        have La := L2.step np nw (fun c o e ne => same_new (o := .lst [.str "get", .str "set", .str "plus", .str "minus"]) hla c o e) (hR2.same (same_new hla))
        refine ⟨_, rfl, rfl, _, rfl, ifF (by show decide (V.str "zero" = V.str "put") = false; decide +kernel) ⟨_, rfl, by show 2 ≤ sizeLine; decide, fun lj hlj => ⟨lj, _, rfl, .inl (lstAt upd_same), rfl, by decide, _, rfl, ifT (by show inV (.str "zero") (jumpZ.map V.str) = true; decide +kernel) ?_⟩⟩⟩
        have Lb := La.step np nw (fun c o e ne => same_new (o := .lst [.str "zero", .str "go"]) hlj c o e) (La.row.same (same_new hlj))
        refine ⟨_, rfl, .inl ⟨rfl, _, lstAt Lb.ls⟩, _, rfl, _, rfl, _, rfl, (size : Int), 1, rfl, rfl, p, (size : Int) + 1, rfl, Lb.row, by omega, by omega, fun kk H3 kk0 kk1 hB3 hR3 => ⟨by show 2 ≤ sizeLine; decide, fun t ht => ?_⟩⟩
        have L3 := Lb.step np nw hB3 hR3
        obtain ⟨kn, rfl⟩ : ∃ kn : Nat, kk = (kn : Int) := ⟨kk.toNat, by omega⟩
        exact ⟨fl, _, _, rfl, rfl, same_new (o := .tup [.str "zero", .int (kn : Int)]) ht _ _ L3.ls, few, fin L3 _ _ (.zero kn) ht ⟨by show kn ≤ size; omega, trivial⟩⟩
      · refine ⟨_, rfl, by show 4 ≤ sizeLine; decide, fun la hla => ⟨la, _, rfl, .inl (lstAt upd_same), rfl, by decide, _, rfl, ifF (by show inV (.str "go") (accZ.map V.str) = false; decide +kernel) ?_⟩⟩
        have La := L2.step np nw (fun c o e ne => same_new (o := .lst [.str "get", .str "set", .str "plus", .str "minus"]) hla c o e) (hR2.same (same_new hla))
        refine ⟨_, rfl, rfl, _, rfl, ifF (by show decide (V.str "go" = V.str "put") = false; decide +kernel) ⟨_, rfl, by show 2 ≤ sizeLine; decide, fun lj hlj => ⟨lj, _, rfl, .inl (lstAt upd_same), rfl, by decide, _, rfl, ifT (by show inV (.str "go") (jumpZ.map V.str) = true; decide +kernel) ?_⟩⟩⟩
        have Lb := La.step np nw (fun c o e ne => same_new (o := .lst [.str "zero", .str "go"]) hlj c o e) (La.row.same (same_new hlj))
        refine ⟨_, rfl, .inl ⟨rfl, _, lstAt Lb.ls⟩, _, rfl, _, rfl, _, rfl, (size : Int), 1, rfl, rfl, p, (size : Int) + 1, rfl, Lb.row, by omega, by omega, fun kk H3 kk0 kk1 hB3 hR3 => ⟨by show 2 ≤ sizeLine; decide, fun t ht => ?_⟩⟩
        have L3 := Lb.step np nw hB3 hR3
        obtain ⟨kn, rfl⟩ : ∃ kn : Nat, kk = (kn : Int) := ⟨kk.toNat, by omega⟩
        exact ⟨fl, _, _, rfl, rfl, same_new (o := .tup [.str "go", .int (kn : Int)]) ht _ _ L3.ls, few, fin L3 _ _ (.go kn) ht ⟨by show kn ≤ size; omega, trivial⟩⟩
      · refine ⟨_, rfl, by show 4 ≤ sizeLine; decide, fun la hla => ⟨la, _, rfl, .inl (lstAt upd_same), rfl, by decide, _, rfl, ifF (by show inV (.str "stop") (accZ.map V.str) = false; decide +kernel) ?_⟩⟩
        have La := L2.step np nw (fun c o e ne => same_new (o := .lst [.str "get", .str "set", .str "plus", .str "minus"]) hla c o e) (hR2.same (same_new hla))
        refine ⟨_, rfl, rfl, _, rfl, ifF (by show decide (V.str "stop" = V.str "put") = false; decide +kernel) ⟨_, rfl, by show 2 ≤ sizeLine; decide, fun lj hlj => ⟨lj, _, rfl, .inl (lstAt upd_same), rfl, by decide, _, rfl, ifF (by show inV (.str "stop") (jumpZ.map V.str) = false; decide +kernel) ?_⟩⟩⟩
        have Lb := La.step np nw (fun c o e ne => same_new (o := .lst [.str "zero", .str "go"]) hlj c o e) (La.row.same (same_new hlj))
        refine ⟨_, rfl, .inl ⟨rfl, _, lstAt Lb.ls⟩, _, rfl, rfl, _, rfl, ifF (by show (!decide (V.str "stop" = V.str "stop")) = false; decide +kernel) ⟨_, rfl, p, 3, rfl, Lb.row, by decide, by decide, fun kk H3 kk0 kk1 hB3 hR3 => ⟨rfl, _, rfl, ?_⟩⟩⟩
        have L3 := Lb.step np nw hB3 hR3
        rw [dec_int]
        cases kk == (0 : Int) with
        | true =>
          refine ifT rfl ⟨_, rfl, by show 1 ≤ sizeLine; decide, fun t ht => ?_⟩
          exact ⟨fl, _, _, rfl, rfl, same_new (o := .tup [.str "stop"]) ht _ _ L3.ls, few, fin L3 _ _ .stop ht ⟨trivial, trivial⟩⟩
        | false =>
          refine ifF rfl ⟨by show 1 ≤ sizeLine; decide, fun t ht => ?_⟩
          exact ⟨fl, _, _, rfl, rfl, same_new (o := .tup [.str "say"]) ht _ _ L3.ls, few, fin L3 _ _ .say ht ⟨trivial, trivial⟩⟩
    · obtain ⟨xs, pg, y6, y7, L, hl, rfl⟩ := h'
      refine ⟨_, rfl, .inl ⟨fl, xs, rfl, lstAt L.ls, fun t ht => ?_⟩⟩
      have s1 := same_new (o := .tup xs) ht
      refine q _ _ pg (fun c o e ne => s1 _ _ (L.but c o e ne)) (L.row.same s1) ⟨t, xs, rfl, tupAt upd_same, L.each.imp fun _ _ z => z.on (Same.tups s1)⟩ (by omega) (by omega) (fun i hi => by rw [hl]; exact L.ok i hi)
end
end RH
set_option Elab.async false
set_option linter.all false
set_option maxRecDepth 100000
set_option maxHeartbeats 2000000
namespace RH
open PySem PySem.Spec PyProof.Rows L2
/-! ### long tuples -/
theorem slT_to {K : PySem.W.Frag} {H : Hp} {a : Addr} {xs : List V} {Q : VK} (z : Int) (k : Nat) (hz : z = (k : Int)) (h : SqT K H a xs) (q : ∀ b H2, Same H H2 → SqT K H2 b (xs.take k) → Q (.ref b) H2) : rSlA K (.ref a) none (some z) H Q := by
  subst hz
  refine ⟨a, xs, rfl, h, fun hf => q a H (Same.refl H) ?_, fun _ p hp => q p _ (same_new hp) (tupAt (by rw [upd_same, cut_to]))⟩
  have e := hf.2
  rw [HT.sIx_nat] at e
  rw [List.take_of_length_le (by omega)]
  exact h
theorem catT_big {K : PySem.W.Frag} {H : Hp} {a b : Addr} {xs ys : List V} {Q : VK} (ha : SqT K H a xs) (hb : SqT K H b ys) (hl : xs.length + ys.length ≤ 100000) (q : ∀ r H', Same H H' → SqT K H' r (xs ++ ys) → Q (.ref r) H') : rCatA K (.ref a) (.ref b) H Q := by
  refine ⟨a, b, xs, ys, rfl, rfl, ha, hb, by rw [sizeLine_eq]; omega, fun e => ?_, fun _ e => ?_, fun _ _ p hp => q p _ (same_new hp) (tupAt upd_same)⟩
  · subst e
    exact q b H (Same.refl H) hb
  · subst e
    exact q a H (Same.refl H) (by rw [List.append_nil]; exact ha)
/-- a tuple of one thing, often -/
def rRepB (K : PySem.W.Frag) : R2 := fun x y H Q => ∃ (l : Addr) (k : Nat) (v : V), x = .ref l ∧ y = .int (k : Int) ∧ SqT K H l [v] ∧ 2 ≤ k ∧ k ≤ 5000 ∧ ∀ p, H p = none → Q (.ref p) (upd H p (.tup (List.replicate k v)))
theorem rep_flat {α : Type} (k : Nat) (v : α) : (List.replicate k [v]).flatten = List.replicate k v := by
  induction k with
  | zero => rfl
  | succ k ih => rw [List.replicate_succ, List.flatten_cons, ih, List.replicate_succ]; rfl
theorem vals_rep {v : V} {u : Value} (r : RelV v u) : ∀ k : Nat, Vals (List.replicate k v) (List.replicate k u)
  | 0 => .nil
  | k + 1 => .cons r (vals_rep r k)
theorem op_repB {X : Cx} : OpR X (binaryOp .Mult) (rRepB X.K) := by
  intro pins s σ H x y vx vy Q I rx ry h
  obtain ⟨l, k, v, rfl, rfl, hT, h1, h2, q⟩ := h
  cases rx
  obtain ⟨tk, rfl⟩ := ry
  obtain ⟨its, r, ⟨⟨cls, dd, data, sl⟩, ho, hc, n, hd⟩, hs⟩ := I.tuple hT
  simp only at hc hd
  subst hc hd
  obtain ⟨u, rfl, ru⟩ : ∃ u, its = [u] ∧ RelV v u := by
    cases r with
    | cons r1 r2 =>
      cases r2
      exact ⟨_, rfl, r1⟩
  have small : (5000 : Nat) ≤ sizeLine := by rw [sizeLine_eq]; decide +kernel
  have sz : ([u].toArray : Array Value).size = 1 := rfl
  have d0 : (decide ((k : Int) < -(2 ^ 63)) || decide ((k : Int) ≥ 2 ^ 63)) = false := by
    rw [decide_eq_false (by omega), decide_eq_false (by omega), Bool.false_or]
  have d1 : (([u].toArray : Array Value).isEmpty || (k : Int) == 1) = false := by
    have : ((k : Int) == 1) = false := beq_eq_false_iff_ne.mpr (by omega)
    rw [this]
    rfl
  have d2 : (decide ((k : Int) ≤ 0) || ([u].toArray : Array Value).isEmpty) = false := by
    rw [decide_eq_false (by omega)]
    rfl
  have d4 : Builtin.Tuple.tupleTooMany (((([u].toArray : Array Value).size : Nat) : Int) * (k : Int)) = false := by
    unfold Builtin.Tuple.tupleTooMany
    rw [sz, sizeLine_eq]
    exact decide_eq_false (by omega)
  have ek : ((k : Int)).toNat = k := Int.toNat_natCast k
  have ln : ∀ z : Nat, z = k → (List.foldl (fun x1 x2 => x1 ++ x2) #[] (List.replicate z ([u].toArray : Array Value))) = (List.replicate k u).toArray := fun z e => by
    rw [L2.size_rep, e, rep_flat]
  have mul := L2.tuple_mulW l ([u].toArray) n dd sl (k : Int) tk d0 d1 d2 (by rw [sz]; omega) d4 (by rw [ln _ ek, List.size_toArray, List.length_replicate]; omega)
  have done : EP X pins σ Q (.ref s.heap.objs.size) { s with heap := s.heap.push { cls := Value.type "tuple", data := Data.seq (List.replicate k u).toArray }, toks := s.toks } :=
    ⟨.ref s.heap.objs.size, _, I.laid (t' := s.toks) (o := .tup (List.replicate k v)) (fun b ob e => Heap.get?_push_of_some _ e) (Nat.le_refl _) ⟨by rw [List.length_replicate]; omega, _, vals_rep ru k, IsTup.new _ _⟩, rfl, q _ (I.hok.fresh (Nat.le_refl _))⟩
  rw [← ln _ ek] at done
  have isT : s.TypeIs (.ref l) "tuple" := ⟨_, ho, rfl⟩
  refine wpAny_binaryOp_repeat_ref (T := "tuple") (U := "int") (by decide) isT (fun s' => typeIs_int s' _ tk) L2.noFill_tuple_mul F.fills_int_mul F.slot_int_rmul L2.repeat_tuple F.slot_int_index.lookup ?_
  refine call_meets F.slot_int_rmul (typeIs_int s (k : Int) tk) F.entry_int_rmul (F.args_int_rmul_2 _ _) (L2.int_rmul_tuple (k : Int) tk l ([u].toArray) n dd sl) ⟨ho, rfl, isT, ?_⟩
  exact call_meets F.slot_tuple_mul isT F.entry_tuple_mul (F.args_tuple_mul_2 _ _) mul ⟨ho, done⟩
end RH
set_option Elab.async false
set_option linter.all false
set_option maxRecDepth 100000
set_option maxHeartbeats 2000000
namespace RH
open PySem PySem.Spec PyProof.Rows L2
theorem lay_yes {n : Nat} {L : List Int} (h : L.Perm (rg n)) : isLay n L = true := by
  unfold isLay
  exact List.isPerm_iff.mpr h
theorem perm_len {n : Nat} {L : List Int} (h : L.Perm (rg n)) : L.length = n := by
  have := h.length_eq
  rw [this]
  unfold rg
  rw [List.length_map, List.length_range]
theorem catT_ok {K : PySem.W.Frag} {H : Hp} {a b : Addr} {xs ys : List V} {Q : VK} (ha : SqT K H a xs) (hb : SqT K H b ys) (hl : xs.length + ys.length ≤ 1000) (q : ∀ r H', Same H H' → SqT K H' r (xs ++ ys) → Q (.ref r) H') : rCatA K (.ref a) (.ref b) H Q := by
  refine ⟨a, b, xs, ys, rfl, rfl, ha, hb, Nat.le_of_lt (small1000 hl), fun e => ?_, fun _ e => ?_, fun _ _ p hp => q p _ (same_new hp) (tupAt upd_same)⟩
  · subst e
    exact q b H (Same.refl H) hb
  · subst e
    exact q a H (Same.refl H) (by rw [List.append_nil]; exact ha)
theorem cl_listOf {X : Cx} (K : PySem.W.Frag) (h : X.K = K := by rfl) : CallR X (.type "list") (fun xs H Q => ∃ p ys, xs = [.ref p] ∧ (SqL K H p ys ∨ SqT K H p ys) ∧ ∀ l, H l = none → Q (.ref l) (upd H l (.lst ys))) := by
  subst h
  exact call_list_of
theorem Each.app {α : Type} {R : V → α → Prop} : ∀ {xs ys : List V} {ds es : List α}, Each R xs ds → Each R ys es → Each R (xs ++ ys) (ds ++ es)
  | _, _, _, _, .nil, h => h
  | _, _, _, _, .cons k t, h => .cons k (t.app h)
theorem Each.take {α : Type} {R : V → α → Prop} : ∀ {xs : List V} {ds : List α} (k : Nat), Each R xs ds → Each R (xs.take k) (ds.take k)
  | _, _, 0, _ => .nil
  | _, _, _ + 1, .nil => .nil
  | _, _, k + 1, .cons h t => .cons h (t.take k)
theorem Each.drop {α : Type} {R : V → α → Prop} : ∀ {xs : List V} {ds : List α} (k : Nat), Each R xs ds → Each R (xs.drop k) (ds.drop k)
  | _, _, 0, h => h
  | _, _, _ + 1, .nil => .nil
  | _, _, k + 1, .cons _ t => t.drop k
/-! ### what is none -/
section
variable {K : PySem.W.Frag} {H H' : Hp} {n : Nat} {v pl : V}
/-- no layout -/
def NoL (K : PySem.W.Frag) (H : Hp) (n : Nat) (v : V) : Prop := ∃ wo, Wd K H v wo ∧ layW n wo = false
theorem NoL.on (e : Same H H') (h : NoL K H n v) : NoL K H' n v := by
  obtain ⟨wo, a, b⟩ := h
  exact ⟨wo, a.on e, b⟩
theorem lst_but {p a : Addr} {xs : List V} (B : But p H H') (R' : Row K H' p) (h : SqL K H a xs) : ∃ ys, SqL K H' a ys := by
  by_cases e : a = p
  · subst e
    obtain ⟨rs, hrs⟩ := R'.lst
    exact ⟨rs, lstAt hrs⟩
  · rcases h with (h | ⟨o, h⟩) | h
    · exact ⟨xs, .inl (.inl (B _ _ h e))⟩
    · exact ⟨xs, .inl (.inr ⟨o, B _ _ h e⟩)⟩
    · exact ⟨xs, .inr h⟩
theorem Sw.but {p : Addr} (B : But p H H') (R : Row K H p) (R' : Row K H' p) (h : Sw K H v) : Sw K H' v := by
  cases h with
  | int i => exact .int i
  | bl bb => exact .bl bb
  | non => exact .non
  | str z => exact .str z
  | tup h => exact .tup ((R.fix B).tups _ _ h)
  | lst h =>
    obtain ⟨ys, h⟩ := lst_but B R' h
    exact .lst h
theorem Tk.but {p : Addr} {wo : Option (List V)} (B : But p H H') (R : Row K H p) (R' : Row K H' p) (h : Tk K H v wo) : Tk K H' v wo := by
  cases h with
  | int i => exact .int i
  | bl bb => exact .bl bb
  | non => exact .non
  | str z => exact .str z
  | tup h => exact .tup ((R.fix B).tups _ _ h)
  | lst h =>
    obtain ⟨ys, h⟩ := lst_but B R' h
    exact .lst h
  | dct h =>
    obtain ⟨rs, hrs⟩ := R.lst
    exact .dct (B _ _ h (ne_of h hrs (fun z => nomatch z)))
theorem Wd.but {p : Addr} {wo : Option (List V)} (B : But p H H') (R : Row K H p) (R' : Row K H' p) (h : Wd K H v wo) : Wd K H' v wo := ⟨h.t.but B R R', fun xs z x hm => (h.s xs z x hm).but B R R', h.l⟩
theorem Hk.but {p : Addr} {ho : Option (List (Option (List V)))} (B : But p H H') (R : Row K H p) (R' : Row K H' p) (h : Hk K H v ho) : Hk K H' v ho := by
  cases h with
  | tup h hx => exact .tup ((R.fix B).tups _ _ h) (hx.imp fun v d z => z.but B R R')
  | no h => exact .no (h.but B R R')
theorem NoL.but {p : Addr} (B : But p H H') (R : Row K H p) (R' : Row K H' p) (h : NoL K H n v) : NoL K H' n v := by
  obtain ⟨wo, a, b⟩ := h
  exact ⟨wo, a.but B R R', b⟩
theorem wd_ints {a : Addr} {ns : List Int} (h : SqT K H a (ns.map V.int)) (hl : ns.length < 64) : Wd K H (.ref a) (some (ns.map V.int)) :=
  ⟨.tup h, fun xs z x hm => by cases z; obtain ⟨i, _, rfl⟩ := List.mem_map.mp hm; exact .int i, fun xs z => by cases z; rwa [List.length_map]⟩
theorem wd_head {a : Addr} {x : V} {ns : List Int} (h : SqT K H a (x :: ns.map V.int)) (hx : Sw K H x) (hl : ns.length < 63) : Wd K H (.ref a) (some (x :: ns.map V.int)) :=
  ⟨.tup h, fun xs z y hm => by
    cases z
    rcases List.mem_cons.mp hm with rfl | hm
    · exact hx
    · obtain ⟨i, _, rfl⟩ := List.mem_map.mp hm
      exact .int i, fun xs z => by cases z; rw [List.length_cons, List.length_map]; omega⟩
theorem lay_len {xs : List V} (h : xs.length ≠ n) : layW n (some xs) = false := by
  show (xs.all _ && isLay n (xs.map valI)) = false
  have : isLay n (xs.map valI) = false := by
    unfold isLay
    refine Bool.eq_false_iff.mpr fun z => h ?_
    have := (List.isPerm_iff.mp z).length_eq
    rw [List.length_map] at this
    rw [this]
    unfold rg
    rw [List.length_map, List.length_range]
  rw [this, Bool.and_false]
theorem lay_head {x : V} {xs : List V} (h : inV2 0 ((n : Int) - 1) x = false) : layW n (some (x :: xs)) = false := by
  show ((x :: xs).all _ && isLay n ((x :: xs).map valI)) = false
  rw [List.all_cons, h, Bool.false_and, Bool.false_and]
theorem lay_ok {ns : List Int} (h : ns.Perm (rg n)) : layW n (some (ns.map V.int)) = true := by
  have e1 : ((ns.map V.int).map valI) = ns := by
    rw [List.map_map]
    exact List.map_id' ns
  show ((ns.map V.int).all _ && isLay n ((ns.map V.int).map valI)) = true
  rw [e1, lay_yes h, Bool.and_true, List.all_eq_true]
  intro v hv
  obtain ⟨i, hi, rfl⟩ := List.mem_map.mp hv
  have := rg_mem.mp (h.mem_iff.mp hi)
  exact inV2_yes0 this.1 this.2
/-- no habit, of the place pl -/
def NoH (K : PySem.W.Frag) (H : Hp) (v pl : V) : Prop := ∃ ho, Hk K H v ho ∧ hbBad ho = some pl
theorem NoH.on (e : Same H H') (h : NoH K H v pl) : NoH K H' v pl := by
  obtain ⟨wo, a, b⟩ := h
  exact ⟨wo, a.on e, b⟩
theorem NoH.but {p : Addr} (B : But p H H') (R : Row K H p) (R' : Row K H' p) (h : NoH K H v pl) : NoH K H' v pl := by
  obtain ⟨wo, a, b⟩ := h
  exact ⟨wo, a.but B R R', b⟩
/-- a pair: what is no habit, and its place -/
def Pr (K : PySem.W.Frag) (H : Hp) (v : V) : Prop := ∃ (t : Addr) (x pl : V), v = .ref t ∧ SqT K H t [x, pl] ∧ NoH K H x pl
theorem Pr.on (e : Same H H') (h : Pr K H v) : Pr K H' v := by
  obtain ⟨t, x, pl, rfl, a, b⟩ := h
  exact ⟨t, x, pl, rfl, onT e a, b.on e⟩
theorem Pr.but {p : Addr} (B : But p H H') (R : Row K H p) (R' : Row K H' p) (h : Pr K H v) : Pr K H' v := by
  obtain ⟨t, x, pl, rfl, a, b⟩ := h
  exact ⟨t, x, pl, rfl, (R.fix B).tups _ _ a, b.but B R R'⟩
theorem hk_of {h : List (List Int)} (hT : TII K H v h) (hb : Hb n h) : Hk K H v (some (h.map fun ns => some (ns.map V.int))) := by
  obtain ⟨a, xs, rfl, hS, hE⟩ := hT
  refine .tup hS ?_
  have hp := hb.perm
  have hi := hb.hi
  clear hS hb
  induction hE with
  | nil => exact .nil
  | @cons x ns xs h hx hE ih =>
    obtain ⟨b, rfl, hB⟩ := hx
    refine .cons (wd_ints hB ?_) (ih fun ns hm => hp ns (List.mem_cons_of_mem _ hm))
    rw [perm_len (hp ns (List.mem_cons_self ..))]
    omega
theorem hb_ok {h : List (List Int)} (hb : Hb n h) : hbBad (some (h.map fun ns => some (ns.map V.int))) = none := by
  have hl := hb.len
  have h2 := hb.lo
  have h5 := hb.hi
  unfold hbBad
  dsimp only
  rw [List.length_map, hl, decide_eq_true h2, decide_eq_true h5]
  have : ((h.map fun ns => some (ns.map V.int)).findIdx? fun wo => !layW n wo) = none := by
    rw [List.findIdx?_eq_none_iff]
    intro wo hm
    obtain ⟨ns, hn, rfl⟩ := List.mem_map.mp hm
    rw [lay_ok (hb.perm ns hn)]
    rfl
  rw [this]
  rfl
/-- no place, no word, no number -/
def NoP (K : PySem.W.Frag) (H : Hp) (n : Nat) (v : V) : Prop := Sw K H v ∧ inV2 0 ((n : Int) - 1) v = false
def NoW (K : PySem.W.Frag) (H : Hp) (n : Nat) (v : V) : Prop := ∃ wo, Ww K H v wo ∧ wrdW n wo = false
def NoN (K : PySem.W.Frag) (H : Hp) (v : V) : Prop := Sw K H v ∧ inV2 2 5 v = false
theorem NoP.but {p : Addr} (B : But p H H') (R : Row K H p) (R' : Row K H' p) (h : NoP K H n v) : NoP K H' n v := ⟨h.1.but B R R', h.2⟩
theorem NoN.but {p : Addr} (B : But p H H') (R : Row K H p) (R' : Row K H' p) (h : NoN K H v) : NoN K H' v := ⟨h.1.but B R R', h.2⟩
theorem NoW.but {p : Addr} (B : But p H H') (R : Row K H p) (R' : Row K H' p) (h : NoW K H n v) : NoW K H' n v := by
  obtain ⟨wo, a, b⟩ := h
  exact ⟨wo, ⟨a.t.but B R R', fun z => (a.w z).but B R R'⟩, b⟩
end
open NdefX (NScope CellsAt Caps slotAt slotAt_of cells_of startF ncx)
open LamX (Tabs TabS TabB ExtN CodeO codeO_ne)
/-! ### what the law holds -/
theorem rep_zeros (n : Nat) : (List.replicate n [V.int 0]).flatten = (List.replicate n (0 : Int)).map V.int := by
  induction n with
  | zero => rfl
  | succ n ih =>
    rw [List.replicate_succ, List.replicate_succ, List.flatten_cons, ih]
    rfl
theorem extN_tups {K : PySem.W.Frag} {H H' : Hp} (e : ExtN H H') : Tups K H H' := fun a xs hs => by
  rcases hs with (hs | ⟨o, hs⟩) | hs
  · exact .inl (.inl (e _ _ hs (fun ps z => nomatch z)))
  · exact .inl (.inr ⟨o, e _ _ hs (fun ps z => nomatch z)⟩)
  · exact .inr hs
theorem Fix.tabs {T : List (Addr × Str)} {H H' : Hp} (f : Fix H H') (t : Tabs T H) : Tabs T H' := fun p hp => by
  obtain ⟨ps, h1, h2, h3⟩ := t p hp
  refine ⟨ps, f _ _ h1 (fun xs z => nomatch z), h2, fun pos cv hc => ?_⟩
  obtain ⟨c, e1, e2⟩ := h3 pos cv hc
  exact ⟨c, e1, f _ _ e2 (fun xs z => by unfold CodeO at z; cases z)⟩
section
variable {K : PySem.W.Frag} {H H' : Hp} {n : Nat} {v v1 v2 pl : V}
theorem Row.ext {p : Addr} (e : ExtN H H') (h : Row K H p) : Row K H' p := by
  obtain ⟨a, ns, i, r, c, h⟩ := h
  refine ⟨a, ns, i, r, c, e _ _ h.at_ (fun ps z => nomatch z), ?_, h.pos⟩
  rcases h.fz with ⟨o, z⟩ | z
  · exact .inl ⟨o, e _ _ z (fun ps z => nomatch z)⟩
  · exact .inr z
theorem Sw.ext (e : ExtN H H') (h : Sw K H v) : Sw K H' v := by
  cases h with
  | int i => exact .int i
  | bl bb => exact .bl bb
  | non => exact .non
  | str z => exact .str z
  | tup h => exact .tup (extN_tups e _ _ h)
  | @lst a xs h =>
    refine .lst (xs := xs) ?_
    rcases h with (h | ⟨o, h⟩) | h
    · exact .inl (.inl (e _ _ h (fun ps z => nomatch z)))
    · exact .inl (.inr ⟨o, e _ _ h (fun ps z => nomatch z)⟩)
    · exact .inr h
theorem Tk.ext {wo : Option (List V)} (e : ExtN H H') (h : Tk K H v wo) : Tk K H' v wo := by
  cases h with
  | int i => exact .int i
  | bl bb => exact .bl bb
  | non => exact .non
  | str z => exact .str z
  | tup h => exact .tup (extN_tups e _ _ h)
  | dct h => exact .dct (e _ _ h (fun ps z => nomatch z))
  | @lst a xs h =>
    refine .lst (xs := xs) ?_
    rcases h with (h | ⟨o, h⟩) | h
    · exact .inl (.inl (e _ _ h (fun ps z => nomatch z)))
    · exact .inl (.inr ⟨o, e _ _ h (fun ps z => nomatch z)⟩)
    · exact .inr h
theorem Wd.ext {wo : Option (List V)} (e : ExtN H H') (h : Wd K H v wo) : Wd K H' v wo := ⟨h.t.ext e, fun xs z x hm => (h.s xs z x hm).ext e, h.l⟩
theorem NoL.ext (e : ExtN H H') (h : NoL K H n v) : NoL K H' n v := by
  obtain ⟨wo, a, b⟩ := h
  exact ⟨wo, a.ext e, b⟩
theorem NoP.ext (e : ExtN H H') (h : NoP K H n v) : NoP K H' n v := ⟨h.1.ext e, h.2⟩
theorem NoN.ext (e : ExtN H H') (h : NoN K H v) : NoN K H' v := ⟨h.1.ext e, h.2⟩
theorem NoW.ext (e : ExtN H H') (h : NoW K H n v) : NoW K H' n v := by
  obtain ⟨wo, a, b⟩ := h
  exact ⟨wo, ⟨a.t.ext e, fun z => (a.w z).ext e⟩, b⟩
theorem NoH.ext (e : ExtN H H') (h : NoH K H v pl) : NoH K H' v pl := by
  obtain ⟨ho, a, b⟩ := h
  refine ⟨ho, ?_, b⟩
  cases a with
  | tup h hx => exact .tup (extN_tups e _ _ h) (hx.imp fun v d z => z.ext e)
  | no h => exact .no (h.ext e)
theorem same_ext (e : Same H H') : ExtN H H' := fun b o q _ => e b o q
theorem NoL.no (h : Tk K H v none) : NoL K H n v := ⟨none, ⟨h, (fun _ z => nomatch z), (fun _ z => nomatch z)⟩, rfl⟩
theorem NoL.ints {a : Addr} {ns : List Int} (h : SqT K H a (ns.map V.int)) (hl : ns.length < 64) (hne : ns.length ≠ n) : NoL K H n (.ref a) := ⟨_, wd_ints h hl, lay_len (by rw [List.length_map]; exact hne)⟩
theorem NoL.head {a : Addr} {x : V} {ns : List Int} (h : SqT K H a (x :: ns.map V.int)) (hx : Sw K H x) (bad : inV2 0 ((n : Int) - 1) x = false) (hl : ns.length < 63) : NoL K H n (.ref a) := ⟨_, wd_head h hx hl, lay_head bad⟩
theorem inV2_n : inV2 0 ((n : Int) - 1) (.int (n : Int)) = false := by
  show (decide ((0 : Int) ≤ (n : Int)) && decide ((n : Int) ≤ (n : Int) - 1)) = false
  rw [decide_eq_false (p := (n : Int) ≤ (n : Int) - 1) (by omega), Bool.and_false]
theorem NoW.no (h : Tk K H v none) : NoW K H n v := ⟨none, ⟨h, fun z => by cases z⟩, rfl⟩
theorem NoW.one {a : Addr} {x : V} (h : SqT K H a [x]) (hx : Sw K H x) (bad : inV2 0 ((n : Int) - 1) x = false) : NoW K H n (.ref a) := by
  refine ⟨some [x], ⟨.tup h, fun _ => ⟨.tup h, fun xs z y hm => ?_, fun xs z => ?_⟩⟩, ?_⟩
  · cases z
    rw [List.mem_singleton.mp hm]
    exact hx
  · cases z
    show 1 < 64
    decide
  · show (rowW 0 400 (some [x]) && plsW n (some [x])) = false
    have : plsW n (some [x]) = false := by
      show ([x].all (inV2 0 ((n : Int) - 1))) = false
      rw [List.all_cons, bad, Bool.false_and]
    rw [this, Bool.and_false]
theorem NoW.long {a : Addr} {xs : List V} (h : SqT K H a xs) (bad : rowW 0 400 (some xs) = false) : NoW K H n (.ref a) := by
  refine ⟨some xs, ⟨.tup h, fun z => by rw [bad] at z; cases z⟩, ?_⟩
  show (rowW 0 400 (some xs) && plsW n (some xs)) = false
  rw [bad, Bool.false_and]
theorem NoN.on (e : Same H H') (h : NoN K H v) : NoN K H' v := ⟨h.1.on e, h.2⟩
theorem Hk.ext {ho : Option (List (Option (List V)))} (e : ExtN H H') (h : Hk K H v ho) : Hk K H' v ho := by
  cases h with
  | tup h hx => exact .tup (extN_tups e _ _ h) (hx.imp fun v d z => z.ext e)
  | no h => exact .no (h.ext e)
end
/-! ### instructions by their words -/
section
variable {p cnt : Int} {rl : Bool} {v : V}
theorem ins_num {w : Str} {b1 b2 b3 b4 b5 : Bool} (h1 : inZ w bareZ = b1) (h2 : inZ w jumpZ = b2) (h3 : (w == "put") = b3) (h4 : inZ w accZ = b4) (h5 : (w == "touch") = b5) :
    insW p cnt rl (some [.str w, v]) = (!b1 && (if b2 = true then inV2 0 cnt v else if b3 = true then inV2 (-1000000) 1000000 v else (b4 || (b5 && rl)) && inV2 0 (p - 1) v)) := by
  subst h1 h2 h3 h4 h5
  rfl
theorem in_get : insW p cnt rl (some [.str "get", v]) = inV2 0 (p - 1) v := by
  rw [ins_num (b1 := false) (b2 := false) (b3 := false) (b4 := true) (b5 := false) (by decide +kernel) (by decide +kernel) (by decide +kernel) (by decide +kernel) (by decide +kernel)]
  simp
theorem in_set : insW p cnt rl (some [.str "set", v]) = inV2 0 (p - 1) v := by
  rw [ins_num (b1 := false) (b2 := false) (b3 := false) (b4 := true) (b5 := false) (by decide +kernel) (by decide +kernel) (by decide +kernel) (by decide +kernel) (by decide +kernel)]
  simp
theorem in_plus : insW p cnt rl (some [.str "plus", v]) = inV2 0 (p - 1) v := by
  rw [ins_num (b1 := false) (b2 := false) (b3 := false) (b4 := true) (b5 := false) (by decide +kernel) (by decide +kernel) (by decide +kernel) (by decide +kernel) (by decide +kernel)]
  simp
theorem in_minus : insW p cnt rl (some [.str "minus", v]) = inV2 0 (p - 1) v := by
  rw [ins_num (b1 := false) (b2 := false) (b3 := false) (b4 := true) (b5 := false) (by decide +kernel) (by decide +kernel) (by decide +kernel) (by decide +kernel) (by decide +kernel)]
  simp
theorem in_touch : insW p cnt rl (some [.str "touch", v]) = (rl && inV2 0 (p - 1) v) := by
  rw [ins_num (b1 := false) (b2 := false) (b3 := false) (b4 := false) (b5 := true) (by decide +kernel) (by decide +kernel) (by decide +kernel) (by decide +kernel) (by decide +kernel)]
  cases rl <;> simp
theorem in_put : insW p cnt rl (some [.str "put", v]) = inV2 (-1000000) 1000000 v := by
  rw [ins_num (b1 := false) (b2 := false) (b3 := true) (b4 := false) (b5 := false) (by decide +kernel) (by decide +kernel) (by decide +kernel) (by decide +kernel) (by decide +kernel)]
  simp
theorem in_zero : insW p cnt rl (some [.str "zero", v]) = inV2 0 cnt v := by
  rw [ins_num (b1 := false) (b2 := true) (b3 := false) (b4 := false) (b5 := false) (by decide +kernel) (by decide +kernel) (by decide +kernel) (by decide +kernel) (by decide +kernel)]
  simp
theorem in_go : insW p cnt rl (some [.str "go", v]) = inV2 0 cnt v := by
  rw [ins_num (b1 := false) (b2 := true) (b3 := false) (b4 := false) (b5 := false) (by decide +kernel) (by decide +kernel) (by decide +kernel) (by decide +kernel) (by decide +kernel)]
  simp
theorem in_say : insW p cnt rl (some [.str "say", v]) = false := by
  rw [ins_num (b1 := true) (b2 := false) (b3 := false) (b4 := false) (b5 := false) (by decide +kernel) (by decide +kernel) (by decide +kernel) (by decide +kernel) (by decide +kernel)]
  rfl
theorem in_Get : insW p cnt rl (some [.str "Get", v]) = false := by
  rw [ins_num (b1 := false) (b2 := false) (b3 := false) (b4 := false) (b5 := false) (by decide +kernel) (by decide +kernel) (by decide +kernel) (by decide +kernel) (by decide +kernel)]
  rfl
theorem in1_say : insW p cnt rl (some [.str "say"]) = true := by
  show inZ "say" bareZ = true
  decide +kernel
theorem in1_ask : insW p cnt rl (some [.str "ask"]) = true := by
  show inZ "ask" bareZ = true
  decide +kernel
theorem in1_stop : insW p cnt rl (some [.str "stop"]) = true := by
  show inZ "stop" bareZ = true
  decide +kernel
theorem in1_get : insW p cnt rl (some [.str "get"]) = false := by
  show inZ "get" bareZ = false
  decide +kernel
end
def insV (i : Ins) : Option (List V) := some (.str i.word :: i.num.map V.int)
def rlI (rl : Bool) : Ins → Prop
  | .touch _ => rl = true
  | .put c => -1000000 ≤ c ∧ c ≤ 1000000
  | _ => True
theorem rlI_of {i : Ins} {rl : Bool} (h : stI i) : rlI rl i := by
  cases i <;> first | exact h | trivial | exact h.elim
theorem inV2_in {lo hi i : Int} (h1 : lo ≤ i) (h2 : i ≤ hi) : inV2 lo hi (.int i) = true := by
  show (decide (lo ≤ i) && decide (i ≤ hi)) = true
  rw [decide_eq_true h1, decide_eq_true h2]
  rfl
theorem ins_good {n cnt : Nat} {rl : Bool} {i : Ins} (h : okIns n cnt i) (r : rlI rl i) : insW (n : Int) (cnt : Int) rl (insV i) = true := by
  cases i with
  | say => exact in1_say
  | ask => exact in1_ask
  | stop => exact in1_stop
  | put c =>
    show insW _ _ _ (some [.str "put", .int c]) = true
    rw [in_put]
    exact inV2_in r.1 r.2
  | zero t =>
    have h : t ≤ cnt := h
    show insW _ _ _ (some [.str "zero", .int (t : Int)]) = true
    rw [in_zero]
    exact inV2_in (by omega) (by omega)
  | go t =>
    have h : t ≤ cnt := h
    show insW _ _ _ (some [.str "go", .int (t : Int)]) = true
    rw [in_go]
    exact inV2_in (by omega) (by omega)
  | get k =>
    have h : k < n := h
    show insW _ _ _ (some [.str "get", .int (k : Int)]) = true
    rw [in_get]
    exact inV2_in (by omega) (by omega)
  | set k =>
    have h : k < n := h
    show insW _ _ _ (some [.str "set", .int (k : Int)]) = true
    rw [in_set]
    exact inV2_in (by omega) (by omega)
  | plus k =>
    have h : k < n := h
    show insW _ _ _ (some [.str "plus", .int (k : Int)]) = true
    rw [in_plus]
    exact inV2_in (by omega) (by omega)
  | minus k =>
    have h : k < n := h
    show insW _ _ _ (some [.str "minus", .int (k : Int)]) = true
    rw [in_minus]
    exact inV2_in (by omega) (by omega)
  | touch k =>
    have h : k < n := h
    have r : rl = true := r
    show insW _ _ _ (some [.str "touch", .int (k : Int)]) = true
    rw [in_touch, r, inV2_in (by omega) (by omega)]
    rfl
theorem pg_fine {n : Nat} {most : Int} {rl : Bool} {pg : List Ins} (h1 : 1 ≤ pg.length) (h2 : (pg.length : Int) ≤ most) (ok : ∀ i ∈ pg, okIns n pg.length i ∧ rlI rl i) : pgBad (n : Int) most rl (some (pg.map insV)) = none := by
  unfold pgBad
  dsimp only
  rw [List.length_map, decide_eq_true (by omega), decide_eq_true h2]
  have : ((pg.map insV).findIdx? fun wo => !insW (n : Int) pg.length rl wo) = none := by
    rw [List.findIdx?_eq_none_iff]
    intro wo hm
    obtain ⟨i, hi, rfl⟩ := List.mem_map.mp hm
    rw [ins_good (ok i hi).1 (ok i hi).2]
    rfl
  rw [this]
  rfl
theorem pg_bent {n k : Nat} {most : Int} {rl : Bool} {pg : List Ins} {wo : Option (List V)} (hk : k < pg.length) (h2 : (pg.length : Int) ≤ most) (ok : ∀ i ∈ pg, okIns n pg.length i ∧ rlI rl i) (bad : insW (n : Int) pg.length rl wo = false) :
    pgBad (n : Int) most rl (some (((pg.map insV).take k ++ [wo]) ++ (pg.map insV).drop (k + 1))) = some (.int (k : Nat)) := by
  have hlen : (((pg.map insV).take k ++ [wo]) ++ (pg.map insV).drop (k + 1)).length = pg.length := by
    rw [List.length_append, List.length_append, List.length_take, List.length_drop, List.length_map, List.length_singleton]
    omega
  unfold pgBad
  dsimp only
  rw [hlen, decide_eq_true (by omega), decide_eq_true h2]
  have : ((((pg.map insV).take k ++ [wo]) ++ (pg.map insV).drop (k + 1)).findIdx? fun wo => !insW (n : Int) pg.length rl wo) = some k := by
    have ht : ((pg.map insV).take k).length = k := by
      rw [List.length_take, List.length_map]
      omega
    rw [List.findIdx?_eq_some_iff_getElem]
    refine ⟨by rw [hlen]; exact hk, ?_, fun j hj => ?_⟩
    · rw [List.getElem_append_left (by rw [List.length_append, ht, List.length_singleton]; omega), List.getElem_append_right (by omega)]
      simp [ht, bad]
    · have hm := List.getElem_mem (l := pg) (n := j) (by omega)
      rw [List.getElem_append_left (by rw [List.length_append, ht, List.length_singleton]; omega), List.getElem_append_left (by omega)]
      rw [List.getElem_take, List.getElem_map, ins_good (ok _ hm).1 (ok _ hm).2]
      decide
  rw [this]
  rfl
section
variable {K : PySem.W.Frag} {H H' : Hp} {n : Nat} {v pl : V}
theorem ins_wd {i : Ins} (r : RIns K H v i) : Wd K H v (insV i) := by
  obtain ⟨a, rfl, hS⟩ := r
  exact wd_head hS (.str _) (by cases i <;> first | (show 0 < 63; decide) | (show 1 < 63; decide))
theorem pg_wds {xs : List V} {pg : List Ins} (hE : Each (RIns K H) xs pg) : Each (Wd K H) xs (pg.map insV) := by
  induction hE with
  | nil => exact .nil
  | cons h _ ih => exact .cons (ins_wd h) ih
theorem hk_pg {pg : List Ins} (r : RPg K H v pg) : Hk K H v (some (pg.map insV)) := by
  obtain ⟨a, xs, rfl, hS, hE⟩ := r
  exact .tup hS (pg_wds hE)
/-- no instruction, whether touches are let or not -/
def NoIns (K : PySem.W.Frag) (H : Hp) (n cnt : Nat) (v : V) : Prop := ∃ wo, Wd K H v wo ∧ ∀ rl, insW (n : Int) (cnt : Int) rl wo = false
theorem NoIns.ext {cnt : Nat} (e : ExtN H H') (h : NoIns K H n cnt v) : NoIns K H' n cnt v := by
  obtain ⟨wo, a, b⟩ := h
  exact ⟨wo, a.ext e, b⟩
theorem NoIns.but {cnt : Nat} {p : Addr} (B : But p H H') (R : Row K H p) (R' : Row K H' p) (h : NoIns K H n cnt v) : NoIns K H' n cnt v := by
  obtain ⟨wo, a, b⟩ := h
  exact ⟨wo, a.but B R R', b⟩
theorem NoIns.no {cnt : Nat} (h : Tk K H v none) : NoIns K H n cnt v := ⟨none, ⟨h, (fun _ z => nomatch z), (fun _ z => nomatch z)⟩, fun _ => rfl⟩
theorem NoIns.tup {cnt : Nat} {a : Addr} {xs : List V} (h : SqT K H a xs) (hs : ∀ x ∈ xs, Sw K H x) (hl : xs.length < 64) (bad : ∀ rl, insW (n : Int) (cnt : Int) rl (some xs) = false) : NoIns K H n cnt (.ref a) := ⟨some xs, ⟨.tup h, fun ys z x hm => by cases z; exact hs x hm, fun ys z => by cases z; exact hl⟩, bad⟩
theorem sw2 {x y : V} (hx : Sw K H x) (hy : Sw K H y) : ∀ z ∈ [x, y], Sw K H z := fun z hz => by
  rcases List.mem_cons.mp hz with rfl | hz
  · exact hx
  · rw [List.mem_singleton.mp hz]
    exact hy
theorem NoIns.two {cnt : Nat} {a : Addr} {x y : V} (h : SqT K H a [x, y]) (hx : Sw K H x) (hy : Sw K H y) (bad : ∀ rl, insW (n : Int) (cnt : Int) rl (some [x, y]) = false) : NoIns K H n cnt (.ref a) := .tup h (sw2 hx hy) (by show 2 < 64; decide) bad
theorem NoIns.one {cnt : Nat} {a : Addr} {x : V} (h : SqT K H a [x]) (hx : Sw K H x) (bad : ∀ rl, insW (n : Int) (cnt : Int) rl (some [x]) = false) : NoIns K H n cnt (.ref a) := .tup h (fun z hz => by rw [List.mem_singleton.mp hz]; exact hx) (by show 1 < 64; decide) bad
/-- no program, still or restless; the latter unless it is long -/
def NoG2 (K : PySem.W.Frag) (H : Hp) (n : Nat) (v pl : V) : Prop := plV pl ∧ ∃ ho, Hk K H v ho ∧ pgBad (n : Int) 200 false ho = some pl ∧ ((∃ a xs, v = .ref a ∧ SqT K H a xs ∧ 201 ≤ xs.length) ∨ pgBad (n : Int) 4000 true ho = some pl)
theorem NoG2.ext (e : ExtN H H') (h : NoG2 K H n v pl) : NoG2 K H' n v pl := by
  obtain ⟨p, ho, a, b, c⟩ := h
  refine ⟨p, ho, a.ext e, b, ?_⟩
  rcases c with ⟨q, xs, rfl, hS, hl⟩ | c
  · exact .inl ⟨q, xs, rfl, extN_tups e _ _ hS, hl⟩
  · exact .inr c
theorem NoG2.on (e : Same H H') (h : NoG2 K H n v pl) : NoG2 K H' n v pl := h.ext (same_ext e)
theorem NoG2.but {p : Addr} (B : But p H H') (R : Row K H p) (R' : Row K H' p) (h : NoG2 K H n v pl) : NoG2 K H' n v pl := by
  obtain ⟨q, ho, a, b, c⟩ := h
  refine ⟨q, ho, a.but B R R', b, ?_⟩
  rcases c with ⟨q, xs, rfl, hS, hl⟩ | c
  · exact .inl ⟨q, xs, rfl, (R.fix B).tups _ _ hS, hl⟩
  · exact .inr c
/-- a pair of such -/
def Pr2 (K : PySem.W.Frag) (H : Hp) (n : Nat) (v : V) : Prop := ∃ (t : Addr) (x pl : V), v = .ref t ∧ SqT K H t [x, pl] ∧ NoG2 K H n x pl
theorem Pr2.on (e : Same H H') (h : Pr2 K H n v) : Pr2 K H' n v := by
  obtain ⟨t, x, pl, rfl, a, b⟩ := h
  exact ⟨t, x, pl, rfl, onT e a, b.on e⟩
theorem Pr2.but {p : Addr} (B : But p H H') (R : Row K H p) (R' : Row K H' p) (h : Pr2 K H n v) : Pr2 K H' n v := by
  obtain ⟨t, x, pl, rfl, a, b⟩ := h
  exact ⟨t, x, pl, rfl, (R.fix B).tups _ _ a, b.but B R R'⟩
/-- no inputs -/
def NoI (K : PySem.W.Frag) (H : Hp) (v : V) : Prop := ∃ wo, Wd K H v wo ∧ inpW wo = false
theorem NoI.ext (e : ExtN H H') (h : NoI K H v) : NoI K H' v := by
  obtain ⟨wo, a, b⟩ := h
  exact ⟨wo, a.ext e, b⟩
theorem NoI.but {p : Addr} (B : But p H H') (R : Row K H p) (R' : Row K H' p) (h : NoI K H v) : NoI K H' v := by
  obtain ⟨wo, a, b⟩ := h
  exact ⟨wo, a.but B R R', b⟩
theorem NoI.no (h : Tk K H v none) : NoI K H v := ⟨none, ⟨h, (fun _ z => nomatch z), (fun _ z => nomatch z)⟩, rfl⟩
theorem NoI.one {a : Addr} {x : V} (h : SqT K H a [x]) (hx : Sw K H x) (bad : inV2 (-1000000) 1000000 x = false) : NoI K H (.ref a) := by
  refine ⟨some [x], ⟨.tup h, fun ys z y hm => by cases z; rw [List.mem_singleton.mp hm]; exact hx, fun ys z => by cases z; show 1 < 64; decide⟩, ?_⟩
  show (decide (([x] : List V).length ≤ 50) && [x].all (inV2 (-1000000) 1000000)) = false
  rw [List.all_cons, bad, Bool.false_and, Bool.and_false]
theorem NoI.long {a : Addr} {ns : List Int} (h : SqT K H a (ns.map V.int)) (h1 : 50 < ns.length) (h2 : ns.length < 64) : NoI K H (.ref a) := by
  refine ⟨_, wd_ints h h2, ?_⟩
  show (decide ((ns.map V.int).length ≤ 50) && _) = false
  rw [decide_eq_false (by rw [List.length_map]; omega), Bool.false_and]
/-- the row, the habit, the program -/
structure St (K : PySem.W.Frag) (T : List (Addr × Str)) (H : Hp) (p : Addr) (vH vP : V) (n : Nat) (h : List (List Int)) (pg : List Ins) : Prop where
  row : Row K H p
  hT : TII K H vH h
  hb : Hb n h
  hP : RPg K H vP pg
  l1 : 1 ≤ pg.length
  l8 : pg.length ≤ 8
  ok : ∀ i ∈ pg, okIns n pg.length i ∧ stI i
  tb : Tabs T H
variable {T : List (Addr × Str)} {p : Addr} {vH vP : V} {h : List (List Int)} {pg : List Ins}
theorem St.ext (S : St K T H p vH vP n h pg) (e : ExtN H H') (t : Tabs T H') : St K T H' p vH vP n h pg := ⟨S.row.ext e, S.hT.on (extN_tups e), S.hb, S.hP.on (extN_tups e), S.l1, S.l8, S.ok, t⟩
theorem St.same (S : St K T H p vH vP n h pg) (e : Same H H') : St K T H' p vH vP n h pg := S.ext (same_ext e) (S.tb.ext fun b o q => e b o q)
theorem St.but (S : St K T H p vH vP n h pg) (e : But p H H') (r : Row K H' p) : St K T H' p vH vP n h pg := ⟨r, S.hT.on (S.row.fix e).tups, S.hb, S.hP.on (S.row.fix e).tups, S.l1, S.l8, S.ok, (S.row.fix e).tabs S.tb⟩
theorem St.hk (S : St K T H p vH vP n h pg) : ∃ wos, Hk K H vH (some wos) ∧ hbBad (some wos) = none ∧ wos.length = n := ⟨_, hk_of S.hT S.hb, hb_ok S.hb, by rw [List.length_map]; exact S.hb.len⟩
theorem St.neq (S : St K T H p vH vP n h pg) {l : Addr} (hl : H l = none) : l ≠ p := by
  obtain ⟨rs, hrs⟩ := S.row.lst
  exact (ne_of_none hrs hl).symm
theorem St.okr (S : St K T H p vH vP n h pg) (rl : Bool) : ∀ i ∈ pg, okIns n pg.length i ∧ rlI rl i := fun i hi => ⟨(S.ok i hi).1, rlI_of (S.ok i hi).2⟩
/-- at a statement's end: what the names hold -/
def GS0 (K : PySem.W.Frag) (T : List (Addr × Str)) (a0 : Addr) (R : Hp → Option V → Prop) (σ : L2.St) (H : Hp) : Prop := ∃ (p : Addr) (y2 : Option V), σ = [some (.ref a0), some (.ref p), y2, none, none, none, none, none, none, none, none, none, none, none, none, none, none, none] ∧ Row K H p ∧ Tabs T H ∧ R H y2
def GS (K : PySem.W.Frag) (T : List (Addr × Str)) (a0 : Addr) (R : Addr → Nat → V → V → List Ins → Hp → List (Option V) → Prop) (σ : L2.St) (H : Hp) : Prop := ∃ (p : Addr) (n : Nat) (vH vP : V) (h : List (List Int)) (pg : List Ins) (y2 y6 y7 y8 y9 y10 y11 y12 y13 y14 y15 y16 : Option V),
  σ = [some (.ref a0), some (.ref p), y2, some (.int (n : Int)), some vH, some vP, y6, y7, y8, y9, y10, y11, y12, y13, y14, y15, y16, none] ∧ St K T H p vH vP n h pg ∧ R p n vH vP pg H [y6, y7, y8, y9, y10, y11, y12, y13, y14, y15, y16]
end
/-! ### lists of what is refused -/
section
variable {P : Program} {w : World} {K : PySem.W.Frag} {mg : Str → Option Value} {base : Heap} {Cb : Addr}
theorem dp_rep {H : Hp} {d : PyData} : ∀ {ys : List V}, (∀ y ∈ ys, Dp K H y d) → DpAll K H ys (List.replicate ys.length d)
  | [], _ => .nil
  | y :: ys, h => .cons (h y (List.mem_cons_self ..)) (dp_rep fun z hz => h z (List.mem_cons_of_mem _ hz))
theorem lc_ref {y0 y1 y2 y3 y4 y5 y6 y7 y8 y9 y10 y11 y12 y13 y14 y15 y16 : Option V} {H1 : Hp} {D lst : Addr} {xs : List V} {Qd : Hp → Prop} (G : Hp → V → Prop) (mono : ∀ H H' v, Fix H H' → G H v → G H' v) (hl : SqL K H1 lst xs) (hm : xs.length ≤ 1000) (hD : H1 D = none)
    (each : ∀ (i : Nat) (x : V) (H' : Hp), xs[i]? = some x → Same H1 H' → ∀ (Q : VK) (Ex : XK), (∀ H3 y, Same H' H3 → G H3 y → Q y H3) → spRefused P w K mg base [x] H' Q Ex) (fin : ∀ H' ys, Same H1 H' → H' D = some (.lst ys) → ys.length = xs.length → (∀ y ∈ ys, G H' y) → Qd H') :
    ∃ W : Nat → Nat → Hp → Prop, (∃ m, W 0 m (upd H1 D (.lst []))) ∧ ∀ i m H, W i m H → ((Itl K lst).stop i H ∧ Qd H) ∨ ((Itl K lst).go i H ∧ ∃ Nx : Hp → Prop, (∀ H', Nx H' → ∃ m', m' < m ∧ W (i + 1) m' H') ∧
      ∀ x H', (Itl K lst).yld i H x H' → gName 17 x (wipe [y0, y1, y2, y3, y4, y5, y6, y7, y8, y9, y10, y11, y12, y13, y14, y15, y16, none] ([17] : List Nat)) H' fun σ2 H2 => wipe σ2 ([17] : List Nat) = wipe [y0, y1, y2, y3, y4, y5, y6, y7, y8, y9, y10, y11, y12, y13, y14, y15, y16, none] ([17] : List Nat) ∧
        tYes σ2 H2 fun b H3 => if b = true then (tCall (spRefused P w K mg base) [] E0 (tCons (tVar 17) tNil)) σ2 H3 fun y H4 => ∃ acc, H4 D = some (.lst acc) ∧ acc.length < sizeLine ∧ Nx (upd H4 D (.lst (acc ++ [y]))) else Nx H3) := by
  refine lc_list (xs := xs) (fun i H' => Same H1 H' ∧ ∃ ys, H' D = some (.lst ys) ∧ ys.length = i ∧ i ≤ xs.length ∧ ∀ y ∈ ys, G H' y) ⟨same_new hD, [], upd_same, rfl, Nat.zero_le _, fun y hy => by cases hy⟩ (fun i H' _ h' => h'.1.seq hl) (fun i x H' hx h' => ?_) (fun H' h' => ?_)
  · obtain ⟨sm, ys, eD, len, _, all⟩ := h'
    have hi := (List.getElem?_eq_some_iff.mp hx).1
    refine ⟨rfl, _, rfl, ?_⟩
    have r := each i x H' hx sm (fun y H4 => ∃ acc, H4 D = some (.lst acc) ∧ acc.length < sizeLine ∧ Same H1 (upd H4 D (.lst (acc ++ [y]))) ∧ ∃ ys, upd H4 D (.lst (acc ++ [y])) D = some (.lst ys) ∧ ys.length = i + 1 ∧ i + 1 ≤ xs.length ∧ ∀ z ∈ ys, G (upd H4 D (.lst (acc ++ [y]))) z) E0 ?_
    · exact r
    refine (fun H3 y s3 g => ⟨ys, s3 _ _ eD, small1000 (by omega), ?_, ys ++ [y], upd_same, by rw [List.length_append, len]; rfl, by omega, fun z hz => ?_⟩)
    · intro b o e
      rw [upd_ne (ne_of_none e hD)]
      exact s3 _ _ (sm _ _ e)
    · have fx : Fix H3 (upd H3 D (.lst (ys ++ [y]))) := Fix.lst (s3 _ _ eD)
      rcases List.mem_append.mp hz with hz | hz
      · exact mono _ _ _ ((Fix.same s3).trans fx) (all z hz)
      · rw [List.mem_singleton.mp hz]
        exact mono _ _ _ fx g
  · obtain ⟨sm, ys, eD, len, _, all⟩ := h'
    exact fin H' ys sm eD len all
theorem LamAt.same {lam : Expr} {fr : List Str} {ws : List V} {l : CL} {f : Addr} {H H' : Hp} (L : LamAt lam fr ws l f H) (e : Same H H') : LamAt lam fr ws l f H' := by
  obtain ⟨q, cl, c, live, cap⟩ := L.ex
  exact ⟨q, cl, c, live.same e, cap⟩
/-- a refused lambda tells the word of its error -/
theorem ref_word {H' : Hp} {f E : Addr} {b : Nat} {z : Str} {Q : VK} {Ex : XK} (hz : wordAt b = z) (hb : fldAt b = none) (k : Knd K mg E b) (r : Ready P w K mg base 9 f H' (okN E H')) (hq : ∀ H3 y, Same H' H3 → y = .str z → Q y H3) : spRefused P w K mg base [.ref f] H' Q Ex :=
  ⟨f, E, b, rfl, k, .inl ⟨hb, r, fun H3 s => by rw [hz]; exact hq H3 _ s rfl⟩⟩
/-- a list of the same words -/
theorem word_data (m : Nat) (z : Str) (h : SeqAt.shaped (.list (List.replicate m (.str z))) = true ∧ PyData.eqv (.list (List.replicate m (.str z))) (.list (List.replicate m (.str z))) = true) {H : Hp} {D l2 : Addr} {ys zs : List V} (eD : SqL K H D ys) (len : ys.length = m) (all : ∀ y ∈ ys, y = .str z) (el : SqL K H l2 zs) (len2 : zs.length = m) (all2 : ∀ y ∈ zs, y = .str z) :
    ∃ d, Dp K H (.ref D) d ∧ Dp K H (.ref l2) d ∧ SeqAt.shaped d = true ∧ PyData.eqv d d = true := by
  refine ⟨.list (List.replicate m (.str z)), .lst eD ?_, .lst el ?_, h.1, h.2⟩
  · have := dp_rep (K := K) (H := H) (d := .str z) (ys := ys) fun y hy => by rw [all y hy]; exact .str z
    rwa [len] at this
  · have := dp_rep (K := K) (H := H) (d := .str z) (ys := zs) fun y hy => by rw [all2 y hy]; exact .str z
    rwa [len2] at this
/-- a refused lambda tells the word of its error, and what it keeps -/
theorem ref_pair {H' : Hp} {f E : Addr} {b : Nat} {z fn : Str} {pl : V} {Q : VK} {Ex : XK} (hz : wordAt b = z) (hb : fldAt b = some fn) (hc : clsAt mg E b) (hp : plV pl) (k : Knd K mg E b) (r : Ready P w K mg base 9 f H' (okB E fn pl H')) (hq : ∀ H3 y, Same H' H3 → (∃ t, y = .ref t ∧ SqT K H3 t [.str z, pl]) → Q y H3) : spRefused P w K mg base [.ref f] H' Q Ex :=
  ⟨f, E, b, rfl, k, .inr (.inl ⟨hc, fn, pl, hb, hp, r, fun H3 t s ht => hq H3 _ s ⟨t, rfl, tupAt (by rw [hz] at ht; exact ht)⟩⟩)⟩
/-- a list of the same pairs -/
theorem pair_data (m : Nat) (z : Str) {pl : V} (hp : plV pl) (sh : ∀ d : PyData, (d = .none ∨ ∃ i : Nat, i < 16 ∧ d = .int (i : Int)) → SeqAt.shaped (.list (List.replicate m (.tuple [.str z, d]))) = true ∧ PyData.eqv (.list (List.replicate m (.tuple [.str z, d]))) (.list (List.replicate m (.tuple [.str z, d]))) = true)
    {H : Hp} {D l2 : Addr} {ys zs : List V} (eD : SqL K H D ys) (len : ys.length = m) (all : ∀ y ∈ ys, ∃ t, y = .ref t ∧ SqT K H t [.str z, pl]) (el : SqL K H l2 zs) (len2 : zs.length = m) (all2 : ∀ y ∈ zs, ∃ t, y = .ref t ∧ SqT K H t [.str z, pl]) :
    ∃ d, Dp K H (.ref D) d ∧ Dp K H (.ref l2) d ∧ SeqAt.shaped d = true ∧ PyData.eqv d d = true := by
  obtain ⟨d, hd, hs⟩ := pl_data (K := K) hp
  have dpt : ∀ {t : Addr}, SqT K H t [.str z, pl] → Dp K H (.ref t) (.tuple [.str z, d]) := fun z => .tup z (.cons (.str _) (.cons (hd _) .nil))
  have a1 := dp_rep (K := K) (H := H) (d := .tuple [.str z, d]) (ys := ys) fun y hy => (show Dp K H y _ from by
    obtain ⟨t', rfl, z⟩ := all y hy
    exact dpt z)
  have a2 := dp_rep (K := K) (H := H) (d := .tuple [.str z, d]) (ys := zs) fun y hy => (show Dp K H y _ from by
    obtain ⟨t', rfl, z⟩ := all2 y hy
    exact dpt z)
  rw [len] at a1
  rw [len2] at a2
  exact ⟨.list (List.replicate m (.tuple [.str z, d])), .lst eD a1, .lst el a2, (sh d hs).1, (sh d hs).2⟩
/-- one pair -/
theorem one_data (z : Str) {pl : V} (hp : plV pl) (sh : ∀ d : PyData, (d = .none ∨ ∃ i : Nat, i < 16 ∧ d = .int (i : Int)) → SeqAt.shaped (.tuple [.str z, d]) = true ∧ PyData.eqv (.tuple [.str z, d]) (.tuple [.str z, d]) = true)
    {H : Hp} {a b : Addr} (h1 : SqT K H a [.str z, pl]) (h2 : SqT K H b [.str z, pl]) : ∃ d, Dp K H (.ref a) d ∧ Dp K H (.ref b) d ∧ SeqAt.shaped d = true ∧ PyData.eqv d d = true := by
  obtain ⟨d, hd, hs⟩ := pl_data (K := K) hp
  exact ⟨_, .tup h1 (.cons (.str _) (.cons (hd _) .nil)), .tup h2 (.cons (.str _) (.cons (hd _) .nil)), (sh d hs).1, (sh d hs).2⟩
end
theorem sh4p {d : PyData} (h : d = .none ∨ ∃ i : Nat, i < 16 ∧ d = .int (i : Int)) : SeqAt.shaped (.list (List.replicate 4 (.tuple [.str "program", d]))) = true ∧ PyData.eqv (.list (List.replicate 4 (.tuple [.str "program", d]))) (.list (List.replicate 4 (.tuple [.str "program", d]))) = true := by
  rcases h with rfl | ⟨i, hi, rfl⟩
  · exact ⟨by decide +kernel, by decide +kernel⟩
  · rcases few_of hi with rfl | rfl | rfl | rfl | rfl | rfl | rfl | rfl | rfl | rfl | rfl | rfl | rfl | rfl | rfl | rfl <;> exact ⟨by decide +kernel, by decide +kernel⟩
theorem sh1h {d : PyData} (h : d = .none ∨ ∃ i : Nat, i < 16 ∧ d = .int (i : Int)) : SeqAt.shaped (.tuple [.str "habit", d]) = true ∧ PyData.eqv (.tuple [.str "habit", d]) (.tuple [.str "habit", d]) = true := by
  rcases h with rfl | ⟨i, hi, rfl⟩
  · exact ⟨by decide +kernel, by decide +kernel⟩
  · rcases few_of hi with rfl | rfl | rfl | rfl | rfl | rfl | rfl | rfl | rfl | rfl | rfl | rfl | rfl | rfl | rfl | rfl <;> exact ⟨by decide +kernel, by decide +kernel⟩
theorem sh1p {d : PyData} (h : d = .none ∨ ∃ i : Nat, i < 16 ∧ d = .int (i : Int)) : SeqAt.shaped (.tuple [.str "program", d]) = true ∧ PyData.eqv (.tuple [.str "program", d]) (.tuple [.str "program", d]) = true := by
  rcases h with rfl | ⟨i, hi, rfl⟩
  · exact ⟨by decide +kernel, by decide +kernel⟩
  · rcases few_of hi with rfl | rfl | rfl | rfl | rfl | rfl | rfl | rfl | rfl | rfl | rfl | rfl | rfl | rfl | rfl | rfl <;> exact ⟨by decide +kernel, by decide +kernel⟩
end RH
set_option Elab.async false
set_option linter.all false
set_option maxRecDepth 100000
set_option maxHeartbeats 2000000
namespace RH
open PySem PySem.Spec PyProof.Rows L2
open NdefX (NScope CellsAt Caps slotAt slotAt_of cells_of startF ncx)
open LamX (Tabs TabS TabB ExtN CodeO codeO_ne)
/-- a statement's way on, as the reading tells it -/
theorem ps_cutR {X : Cx} {st : Stmt} {t : TS} (h : PS X st t) : PS X st (fun D σ H => ∃ G : L2.St → Hp → Prop, (∀ σ' H', G σ' H' → D.nx σ' H') ∧ t { D with nx := G } σ H) := by
  refine ⟨fun pins s σ H D I hw => ?_⟩
  obtain ⟨G, hG, hw⟩ := hw
  refine thn (h.run pins s σ H { D with nx := G } I hw) fun fl s1 q => ?_
  cases fl with
  | next =>
    obtain ⟨σ', H', I', q⟩ := q
    exact ⟨σ', H', I', hG _ _ q⟩
  | ret v => exact q
  | brk => exact q
  | cont => exact q
section
variable {P : Program} {w : World} {K : PySem.W.Frag} {mg : Str → Option Value} {base : Heap} {Cb Cn Cg Ci : Addr}
abbrev NLaw : List Str := ["script", "row", "number", "places", "habit", "program", "at", "odd", "bent", "some", "value", "index", "touch", "wide", "inputs", "works", "most", "work"]
def tabsL (P1 : Addr) : List (Addr × Str) := [(P1, lamQ "_law_works")]
def spLaw (K : PySem.W.Frag) (T : List (Addr × Str)) : Sp := fun vs H Q _ => ∃ (a : Addr) (ns : List Int), vs = [.ref a] ∧ Fz K H a (ns.map V.int) ∧ Tabs T H ∧ ∀ H', Q (.bl true) H'
theorem in_places {n : Nat} (h2 : 2 ≤ n) (h5 : n ≤ 5) : inV2 2 5 (.int (n : Int)) = true := inV2_in (by omega) (by omega)
theorem LamAt.ext {lam : Expr} {fr : List Str} {ws : List V} {l : CL} {f : Addr} {H H' : Hp} (L : LamAt lam fr ws l f H) (e : ExtN H H') : LamAt lam fr ws l f H' := by
  obtain ⟨q, cl, c, live, cap⟩ := L.ex
  exact ⟨q, cl, c, live.ext e, cap⟩
theorem LamAt.stand {lam : Expr} {fr : List Str} {ws : List V} {l : CL} {f : Addr} {H : Hp} (L : LamAt lam fr ws l f H) : Stand l H := by
  obtain ⟨q, cl, c, live, cap⟩ := L.ex
  exact live.st
theorem TII.era {cl : CL} {H : Hp} {v : V} {h : List (List Int)} (s : Stand cl H) (t : TII K H v h) : TII K (era cl H) v h := t.on (era_tups s)
theorem RPg.era {cl : CL} {H : Hp} {v : V} {pg : List Ins} (s : Stand cl H) (t : RPg K H v pg) : RPg K (era cl H) v pg := t.on (era_tups s)
/-- is a value a tuple? -/
theorem isi_tup {H : Hp} {v : V} {wo : Option (List V)} (h : Tk K H v wo) : ∃ (u : Value) (k : Bool), TyX K H v u ∧ PySem.W.kitOne K u (.type "tuple") = some k ∧ (k = true → ∃ a xs, v = .ref a ∧ SqT K H a xs) := by
  cases h with
  | int i => exact ⟨_, false, .base (.int i), kit_ty (by decide +kernel), fun z => nomatch z⟩
  | bl b => exact ⟨_, false, .base (.bl b), kit_ty (by decide +kernel), fun z => nomatch z⟩
  | non => exact ⟨_, false, .base .non, kit_ty (by decide +kernel), fun z => nomatch z⟩
  | str z => exact ⟨_, false, .base (.str z), kit_ty (by decide +kernel), fun z => nomatch z⟩
  | @lst a xs hS => exact ⟨_, false, ty_lst hS, kit_ty (by decide +kernel), fun z => nomatch z⟩
  | @dct a kvs e => exact ⟨_, false, .base (.dK e), kit_ty (by decide +kernel), fun z => nomatch z⟩
  | @tup a xs hS => exact ⟨_, true, ty_tup hS, kit_ty (by decide +kernel), fun _ => ⟨a, xs, rfl, hS⟩⟩
theorem hk_tk {H : Hp} {v : V} {ho : Option (List (Option (List V)))} (h : Hk K H v ho) : ∃ wo, Tk K H v wo := by
  cases h with
  | tup h _ => exact ⟨_, .tup h⟩
  | no h => exact ⟨_, h⟩
theorem pg_touch {n : Nat} : pgBad (n : Int) 200 false (some [some [.str "touch", .int 0]]) = some (.int 0) := by
  unfold pgBad
  dsimp only
  rw [if_pos (by rfl)]
  have : ([some [.str "touch", .int 0]] : List (Option (List V))).findIdx? (fun wo => !insW (n : Int) (([some [.str "touch", .int 0]] : List (Option (List V))).length : Int) false wo) = some 0 := by
    rw [List.findIdx?_cons, in_touch]
    rfl
  rw [this]
  rfl
theorem pg_wide {n k : Nat} (h2 : 1 ≤ n) (hk : k ≤ 1) : pgBad (n : Int) 4000 true (some (List.replicate (4000 + k) (some [.str "touch", .int 0]))) = if k = 0 then none else some .non := by
  unfold pgBad
  dsimp only
  rw [List.length_replicate]
  have : k = 0 ∨ k = 1 := by omega
  rcases this with rfl | rfl
  · rw [if_pos (by decide), if_pos rfl]
    have : (List.replicate (4000 + 0) (some [V.str "touch", V.int 0])).findIdx? (fun wo => !insW (n : Int) ((4000 + 0 : Nat) : Int) true wo) = none := by
      rw [List.findIdx?_eq_none_iff]
      intro x hx
      rw [List.eq_of_mem_replicate hx, in_touch]
      have : inV2 0 ((n : Int) - 1) (.int 0) = true := inV2_in (by omega) (by omega)
      rw [this]
      rfl
    rw [this]
    rfl
  · rw [if_neg (by decide), if_neg (by decide)]
theorem each_rep {H : Hp} {α : Type} {R : V → α → Prop} {x : V} {d : α} (h : R x d) : ∀ k : Nat, Each R (List.replicate k x) (List.replicate k d)
  | 0 => .nil
  | k + 1 => .cons h (each_rep (H := H) h k)
theorem inV2_succ {n : Nat} : inV2 0 (n : Int) (.int ((n : Int) + 1)) = false := by
  show (decide ((0 : Int) ≤ (n : Int) + 1) && decide ((n : Int) + 1 ≤ (n : Int))) = false
  rw [decide_eq_false (p := (n : Int) + 1 ≤ (n : Int)) (by omega), Bool.and_false]
theorem inV2_neg {z : Int} : inV2 0 z (.int (0 - 1)) = false := by
  show (decide ((0 : Int) ≤ 0 - 1) && decide ((0 - 1 : Int) ≤ z)) = false
  rw [decide_eq_false (p := (0 : Int) ≤ 0 - 1) (by decide), Bool.false_and]
/-- a pair of what are no numbers of steps -/
def MoP (K : PySem.W.Frag) (H : Hp) (v : V) : Prop := ∃ (t : Addr) (x y : V), v = .ref t ∧ SqT K H t [x, y] ∧ Sw K H x ∧ Sw K H y ∧ inV2 0 5000 x = false ∧ inV2 0 100000 y = false
/-- the long program of touches -/
def WideV (K : PySem.W.Frag) (H : Hp) (v : V) (k : Nat) : Prop := ∃ (a : Addr) (x : V), v = .ref a ∧ SqT K H a (List.replicate (4000 + k) x) ∧ RIns K H x (.touch 0) ∧ k ≤ 1
theorem ok_law {P1 : Addr} {f : Addr} {fd : FuncData} (F : Fun K "law" "law" st_law f fd) (B : Bu mg) (CT : Cal P w K mg base 1 "_law_taken" (spTaken K)) (CPk : Cal P w K mg base 2 "_law_pick" (spPick K)) (CH : Cal P w K mg base 3 "_law_habit" (spHabit K)) (CPr : Cal P w K mg base 3 "_law_program" (spProgL K))
    (CW : Cal P w K mg base 1 "_law_works" (spWorks (tabsL P1))) (CR : Cal P w K mg base 10 "_law_refused" (spRefused P w K mg base))
    (A1 : CalX P w K mg base 7 "flow" (spPg K Cn Cg 200 false)) (A2 : CalX P w K mg base 7 "reached" (spPg K Cn Cg 200 false)) (A3 : CalX P w K mg base 7 "used" (spPg K Cn Cg 200 false)) (A4 : CalX P w K mg base 7 "run_still" (spStillX K Cn Cg Ci)) (A5 : CalX P w K mg base 7 "run_restless" (spRestX K Cb Cn Cg Ci))
    (gB : mg "BadHabit" = some (.ref Cb)) (gG : mg "BadProgram" = some (.ref Cg)) (K0 : Knd K mg Cb 0) (K1 : Knd K mg Cn 1) (K2 : Knd K mg Cg 2) (K3 : Knd K mg Ci 3) : FnOk P w K mg base CX0 11 f fd ["script"] (spLaw K (tabsL P1)) := by
  refine F.ok sc_law (fun vs H Q E h => ?_) (fun cdv A outer s H vs Q E hr h => ?_)
  · obtain ⟨a, ns, rfl, _⟩ := h
    rfl
  · obtain ⟨a, scr, rfl, hZ, hTb, q⟩ := h
    refine ⟨_, PSs.nox (pss_cons (ps_set (i := 1) sc_law.nd rfl (.inl rfl) (pe_lst (pa_cons (pv 0) (pa_cons pe_int (pa_cons pe_int (pa_cons pe_int pa_nil))))))
      (pss_cons (ps_cutR (ps_set (i := 2) sc_law.nd rfl (.inl rfl) (pc CPk hr (pa_cons (pv 1) (pa_cons (pe_lst (pa_cons pe_non (pa_cons pe_bl (pa_cons pe_int (pa_cons pe_int (pa_cons pe_str (pa_cons (pe_tup (pa_cons pe_int pa_nil)) (pa_cons (pe_lst pa_nil) pa_nil)))))))) pa_nil)))))
      (pss_cons (ps_cutR (ps_if (pt_cmpR (op_neD hr.units) (pe_lc (own := [("work", 17)]) (g := gName 17) (tt := tYes) rfl sc_law.nd (pi_list (pe_slice sl_list (pc CW hr (pa_cons (pv 2) (pa_cons pe_non (pa_cons pe_non (pa_cons pe_non pa_nil))))) po_none (po_some pe_int))) (blkOk_by (N := NLaw) (sc := defScope st_law) (by decide +kernel)) (fun _ _ _ _ _ => pg_name (i := 17) sc_law.nd rfl (Or.inl rfl)) (fun _ _ _ _ _ => pts_nil) (fun _ _ _ _ _ => (pc CR hr (pa_cons (pv 17) pa_nil))))
          (pe_op op_rep (pe_lst (pa_cons pe_str pa_nil)) pe_int) (nomark _)) (pss_one (ps_ret pe_bl)) pss_nil))
      (pss_cons (ps_cutR (ps_if (pt_cmpR (op_neD hr.units) (pc CR hr (pa_cons (pe_ix ix_list (pc CW hr (pa_cons pe_non (pa_cons pe_non (pa_cons pe_non (pa_cons pe_non pa_nil))))) pe_int (fun _ _ => rfl)) pa_nil)) (pe_tup (pa_cons pe_str (pa_cons pe_non pa_nil))) (nomark _)) (pss_one (ps_ret pe_bl)) pss_nil))
      (pss_cons (ps_set (i := 3) sc_law.nd rfl (.inl rfl) (pe_op op_add pe_int (pc CT hr (pa_cons (pv 1) (pa_cons pe_int pa_nil)))))
      (pss_cons (ps_par (i := 4) (j := 5) rfl sc_law.nd rfl rfl (by decide) rfl rfl (pa_cons (pc CH hr (pa_cons (pv 1) (pa_cons (pv 3) pa_nil))) (pa_cons (pc CPr hr (pa_cons (pv 1) (pa_cons (pv 3) (pa_cons pe_int pa_nil)))) pa_nil)) rfl)
      (pss_cons (ps_cutR (ps_set (i := 6) sc_law.nd rfl (.inl rfl) (pc CT hr (pa_cons (pv 1) (pa_cons (pe_callB (cl_len K) (by rfl) B.len PySem.boot_len (pa_cons (pv 5) pa_nil)) pa_nil)))))
      (pss_cons (ps_cutR (ps_set (i := 7) sc_law.nd rfl (.inl rfl) (pe_lst (pa_cons pe_non (pa_cons (pe_tup pa_nil) (pa_cons (pe_tup (pa_cons pe_str pa_nil)) (pa_cons (pe_tup (pa_cons pe_str (pa_cons (pv 3) pa_nil))) (pa_cons (pe_tup (pa_cons pe_str (pa_cons pe_int (pa_cons pe_int pa_nil)))) (pa_cons (pe_tup (pa_cons pe_str (pa_cons pe_int pa_nil))) (pa_cons (pe_tup (pa_cons pe_str (pa_cons pe_int pa_nil))) (pa_cons (pe_tup (pa_cons pe_str (pa_cons pe_bl pa_nil))) pa_nil)))))))))))
      (pss_cons (ps_cutR (ps_set (i := 7) sc_law.nd rfl (.inl rfl) (pe_op op_cat (pv 7) (pe_lst (pa_cons (pe_tup (pa_cons pe_str (pa_cons (pe_op op_add (pe_callB (cl_len K) (by rfl) B.len PySem.boot_len (pa_cons (pv 5) pa_nil)) pe_int) pa_nil))) (pa_cons (pe_tup (pa_cons pe_str (pa_cons (pe_op op_sub pe_int pe_int) pa_nil))) (pa_cons (pe_tup (pa_cons pe_str (pa_cons pe_int pa_nil))) (pa_cons (pe_tup (pa_cons pe_str (pa_cons pe_non pa_nil))) (pa_cons (pe_tup (pa_cons pe_str (pa_cons pe_str pa_nil))) (pa_cons (pe_tup (pa_cons pe_int (pa_cons pe_int pa_nil))) pa_nil))))))))))
      (pss_cons (ps_cutR (ps_set (i := 7) sc_law.nd rfl (.inl rfl) (pe_op op_cat (pv 7) (pe_lst (pa_cons pe_dnewK (pa_cons (pe_tup (pa_cons pe_str (pa_cons pe_bl pa_nil))) (pa_cons (pe_lst (pa_cons pe_str (pa_cons pe_int pa_nil))) (pa_cons pe_str pa_nil))))))))
      (pss_cons (ps_cutR (ps_set (i := 8) sc_law.nd rfl (.inl rfl) (pe_op op_catA (pe_op op_catA (pe_slice sl_tupA (pv 5) po_none (po_some (pv 6))) (pe_tup (pa_cons (pc CPk hr (pa_cons (pv 1) (pa_cons (pv 7) pa_nil))) pa_nil))) (pe_slice sl_tupA (pv 5) (po_some (pe_op op_add (pv 6) pe_int)) po_none))))
      (pss_cons (ps_cutR (ps_set (i := 9) sc_law.nd rfl (.inl rfl) (pe_lst (pa_cons (pe_tup (pa_cons pe_non (pa_cons pe_non pa_nil))) (pa_cons (pe_tup (pa_cons (pe_callTy (cl_listOf K) (by rfl) B.list (by decide +kernel) (pa_cons (pv 5) pa_nil)) (pa_cons pe_non pa_nil))) (pa_cons (pe_tup (pa_cons (pe_tup pa_nil) (pa_cons pe_non pa_nil))) (pa_cons (pe_tup (pa_cons (pe_op op_repT (pe_slice sl_tupA (pv 5) po_none (po_some pe_int)) pe_int) (pa_cons pe_non pa_nil))) (pa_cons (pe_tup (pa_cons pe_dnewK (pa_cons pe_non pa_nil))) pa_nil))))))))
      (pss_cons (ps_cutR (ps_asg (pc CPk hr (pa_cons (pv 1) (pa_cons (pe_op op_cat (pv 9) (pe_op op_rep (pe_lst (pa_cons (pe_tup (pa_cons (pv 8) (pa_cons (pv 6) pa_nil))) pa_nil)) pe_int)) pa_nil))) (pg_tup rfl (pgs_cons (pg_name (i := 10) sc_law.nd rfl (.inl rfl)) (pgs_cons (pg_name (i := 11) sc_law.nd rfl (.inl rfl)) pgs_nil)))))
      (pss_cons (ps_cutR (ps_if (pt_cmpR (op_neD hr.units) (pe_lc (own := [("work", 17)]) (g := gName 17) (tt := tYes) rfl sc_law.nd (pi_list (pe_slice sl_list (pc CW hr (pa_cons (pv 3) (pa_cons (pv 10) (pa_cons pe_non (pa_cons pe_non pa_nil))))) po_none (po_some pe_int))) (blkOk_by (N := NLaw) (sc := defScope st_law) (by decide +kernel)) (fun _ _ _ _ _ => pg_name (i := 17) sc_law.nd rfl (Or.inl rfl)) (fun _ _ _ _ _ => pts_nil) (fun _ _ _ _ _ => (pc CR hr (pa_cons (pv 17) pa_nil))))
          (pe_op op_rep (pe_lst (pa_cons (pe_tup (pa_cons pe_str (pa_cons (pv 11) pa_nil))) pa_nil)) pe_int) (nomark _)) (pss_one (ps_ret pe_bl)) pss_nil))
      (pss_cons (ps_cutR (ps_if (PW.pt (pw_or (pt_not (pt_val (pe_callB call_isi (by rfl) B.isi (by decide +kernel) (pa_cons (pv 10) (pa_cons (pe_bltn (v := .ty "tuple") (by rfl) B.tuple (by decide +kernel) rfl) pa_nil))))) (pw_or1 (pt_cmpR op_lt (pe_callB (cl_len K) (by rfl) B.len PySem.boot_len (pa_cons (pv 10) pa_nil)) pe_int (nomark _))))) (pss_one (ps_if (pt_cmpR (op_neD hr.units) (pc CR hr (pa_cons (pe_ix ix_list (pc CW hr (pa_cons (pv 4) (pa_cons (pv 10) (pa_cons pe_non (pa_cons pe_non pa_nil))))) pe_int (fun _ _ => rfl)) pa_nil)) (pe_tup (pa_cons pe_str (pa_cons (pv 11) pa_nil))) (nomark _)) (pss_one (ps_ret pe_bl)) pss_nil)) pss_nil))
      (pss_cons (ps_cutR (ps_set (i := 12) sc_law.nd rfl (.inl rfl) (pe_tup (pa_cons (pe_tup (pa_cons pe_str (pa_cons pe_int pa_nil))) pa_nil))))
      (pss_cons (ps_cutR (ps_if (pt_cmpR (op_neD hr.units) (pe_lc (own := [("work", 17)]) (g := gName 17) (tt := tYes) rfl sc_law.nd (pi_list (pe_slice sl_list (pc CW hr (pa_cons (pv 3) (pa_cons (pv 12) (pa_cons pe_non (pa_cons pe_non pa_nil))))) po_none (po_some pe_int))) (blkOk_by (N := NLaw) (sc := defScope st_law) (by decide +kernel)) (fun _ _ _ _ _ => pg_name (i := 17) sc_law.nd rfl (Or.inl rfl)) (fun _ _ _ _ _ => pts_nil) (fun _ _ _ _ _ => (pc CR hr (pa_cons (pv 17) pa_nil))))
          (pe_op op_rep (pe_lst (pa_cons (pe_tup (pa_cons pe_str (pa_cons pe_int pa_nil))) pa_nil)) pe_int) (nomark _)) (pss_one (ps_ret pe_bl)) pss_nil))
      (pss_cons (ps_cutR (ps_set (i := 13) sc_law.nd rfl (.inl rfl) (pe_op op_catA (pe_op op_repB (pv 12) pe_int) (pe_slice sl_tupA (pv 12) po_none (po_some (pc CT hr (pa_cons (pv 1) (pa_cons pe_int pa_nil))))))))
      (pss_cons (ps_cutR (ps_if (pt_cmpR (op_neD hr.units) (pc CR hr (pa_cons (pe_ix ix_list (pc CW hr (pa_cons (pv 4) (pa_cons (pv 13) (pa_cons (pe_tup pa_nil) (pa_cons pe_int pa_nil))))) pe_int (fun _ _ => rfl)) pa_nil)) (pe_ifExp (pt_cmpR op_eq (pe_callB (cl_len K) (by rfl) B.len PySem.boot_len (pa_cons (pv 13) pa_nil)) pe_int (nomark _)) pe_non (pe_tup (pa_cons pe_str (pa_cons pe_non pa_nil)))) (nomark _)) (pss_one (ps_ret pe_bl)) pss_nil))
      (pss_cons (ps_cutR (ps_set (i := 14) sc_law.nd rfl (.inl rfl) (pc CPk hr (pa_cons (pv 1) (pa_cons (pe_lst (pa_cons pe_non (pa_cons (pe_lst (pa_cons pe_int pa_nil)) (pa_cons (pe_tup (pa_cons pe_bl pa_nil)) (pa_cons (pe_tup (pa_cons pe_str pa_nil)) (pa_cons (pe_tup (pa_cons pe_int pa_nil)) (pa_cons (pe_op op_repT (pe_tup (pa_cons pe_int pa_nil)) pe_int) (pa_cons pe_int (pa_cons pe_dnewK (pa_cons (pe_tup (pa_cons pe_non pa_nil)) pa_nil)))))))))) pa_nil)))))
      (pss_cons (ps_cutR (ps_set (i := 15) sc_law.nd rfl (.inl rfl) (pe_lst (pa_cons (pe_ix ix_list (pc CW hr (pa_cons (pv 3) (pa_cons (pv 5) (pa_cons (pv 14) (pa_cons pe_non pa_nil))))) pe_int (fun _ _ => rfl)) (pa_cons (pe_ix ix_list (pc CW hr (pa_cons (pv 4) (pa_cons (pv 5) (pa_cons (pv 14) (pa_cons pe_non pa_nil))))) pe_int (fun _ _ => rfl)) pa_nil)))))
      (pss_cons (ps_cutR (ps_if (pt_cmpR (op_neD hr.units) (pe_lc (own := [("work", 17)]) (g := gName 17) (tt := tYes) rfl sc_law.nd (pi_list (pv 15)) (blkOk_by (N := NLaw) (sc := defScope st_law) (by decide +kernel)) (fun _ _ _ _ _ => pg_name (i := 17) sc_law.nd rfl (Or.inl rfl)) (fun _ _ _ _ _ => pts_nil) (fun _ _ _ _ _ => (pc CR hr (pa_cons (pv 17) pa_nil)))) (pe_op op_rep (pe_lst (pa_cons pe_str pa_nil)) pe_int) (nomark _)) (pss_one (ps_ret pe_bl)) pss_nil))
      (pss_cons (ps_cutR (ps_set (i := 16) sc_law.nd rfl (.inl rfl) (pc CPk hr (pa_cons (pv 1) (pa_cons (pe_lst (pa_cons (pe_tup (pa_cons pe_non (pa_cons pe_non pa_nil))) (pa_cons (pe_tup (pa_cons pe_bl (pa_cons pe_bl pa_nil))) (pa_cons (pe_tup (pa_cons (pe_op op_sub pe_int pe_int) (pa_cons (pe_op op_sub pe_int pe_int) pa_nil))) (pa_cons (pe_tup (pa_cons pe_int (pa_cons pe_int pa_nil))) (pa_cons (pe_tup (pa_cons pe_str (pa_cons pe_str pa_nil))) pa_nil)))))) pa_nil)))))
      (pss_cons (ps_cutR (ps_set (i := 15) sc_law.nd rfl (.inl rfl) (pe_lst (pa_cons (pe_ix ix_list (pc CW hr (pa_cons (pv 3) (pa_cons (pv 5) (pa_cons (pe_tup pa_nil) (pa_cons (pe_ix (ixT K) (pv 16) pe_int (fun _ _ => rfl)) pa_nil))))) pe_int (fun _ _ => rfl)) (pa_cons (pe_ix ix_list (pc CW hr (pa_cons (pv 4) (pa_cons (pv 5) (pa_cons (pe_tup pa_nil) (pa_cons (pe_ix (ixT K) (pv 16) pe_int (fun _ _ => rfl)) pa_nil))))) pe_int (fun _ _ => rfl)) pa_nil)))))
      (pss_one (ps_ret (pe_cmpR (op_eqD hr.units) (pe_lc (own := [("work", 17)]) (g := gName 17) (tt := tYes) rfl sc_law.nd (pi_list (pv 15)) (blkOk_by (N := NLaw) (sc := defScope st_law) (by decide +kernel)) (fun _ _ _ _ _ => pg_name (i := 17) sc_law.nd rfl (Or.inl rfl)) (fun _ _ _ _ _ => pts_nil) (fun _ _ _ _ _ => (pc CR hr (pa_cons (pv 17) pa_nil)))) (pe_op op_rep (pe_lst (pa_cons pe_str pa_nil)) pe_int) (nomark _)))))))))))))))))))))))))))), ?_⟩
    refine ⟨_, rfl, by show 4 ≤ sizeLine; decide, fun p hp => ?_⟩
    have hR1 : Row K (upd H p (.lst [.ref a, .int 0, .int 5005, .int 0])) p := ⟨a, scr, 0, 5005, 0, upd_same, hZ.on (Fix.same (same_new hp)), Int.le_refl _⟩
    have tb1 : Tabs (tabsL P1) (upd H p (.lst [.ref a, .int 0, .int 5005, .int 0])) := hTb.ext fun b o e => same_new hp b o e
    generalize upd H p (.lst [.ref a, .int 0, .int 5005, .int 0]) = H1 at hR1 tb1 ⊢
    have neR : ∀ {H' : Hp} {p l : Addr}, Row K H' p → H' l = none → l ≠ p := fun R hl => by
      obtain ⟨rs, hrs⟩ := R.lst
      exact (ne_of_none hrs hl).symm
    -- no number
    refine ⟨GS0 K (tabsL P1) a (fun H y2 => ∃ v, y2 = some v ∧ NoN K H v), fun σ2 H2 g2 => ?_, ?_⟩
    case refine_2 =>
      refine ⟨_, rfl, by show 1 ≤ sizeLine; decide, fun t1 ht1 => ⟨Nat.zero_le _, fun l1 hl1 => ⟨by show 7 ≤ sizeLine; decide, fun lo hlo => ?_⟩⟩⟩
      have s1 := same_new (o := .tup [.int 3]) ht1
      have s2 := same_new (o := .lst []) hl1
      have s3 := same_new (o := .lst [.non, .bl true, .int 1, .int 6, .str "3", .ref t1, .ref l1]) hlo
      have sA := s1.trans s2
      have R3 := hR1.same (sA.trans s3)
      refine ⟨p, lo, _, rfl, R3, upd_same, neR (hR1.same sA) hlo, by show 0 < 7; decide, by show 7 ≤ 1000; decide, fun iw wx H2 hwx hB2 hR2 => ?_⟩
      have np : ∀ v ∈ [V.non, .bl true, .int 1, .int 6, .str "3", .ref t1, .ref l1], NoN K _ v := fun v hv => by
        rcases List.mem_cons.mp hv with rfl | hv
        · exact ⟨.non, rfl⟩
        rcases List.mem_cons.mp hv with rfl | hv
        · exact ⟨.bl _, rfl⟩
        rcases List.mem_cons.mp hv with rfl | hv
        · exact ⟨.int _, by decide⟩
        rcases List.mem_cons.mp hv with rfl | hv
        · exact ⟨.int _, by decide⟩
        rcases List.mem_cons.mp hv with rfl | hv
        · exact ⟨.str _, rfl⟩
        rcases List.mem_cons.mp hv with rfl | hv
        · exact ⟨.tup (tupAt ((s2.trans s3) _ _ upd_same)), rfl⟩
        rw [List.mem_singleton.mp hv]
        exact ⟨.lst (lstAt (s3 _ _ upd_same)), rfl⟩
      exact ⟨p, _, rfl, hR2, (R3.fix hB2).tabs (tb1.ext fun b o e => (sA.trans s3) b o e), wx, rfl, (np wx (List.mem_of_getElem? hwx)).but hB2 R3 hR2⟩
    clear hR1 tb1
    obtain ⟨p, y2, rfl, hR2, tb2, v, rfl, nn⟩ := g2
    refine ⟨GS0 K (tabsL P1) a (fun _ _ => True), fun σ3 H3 g3 => ?_, ?_⟩
    case refine_2 =>
      refine ⟨_, rfl, v, .non, .non, .non, rfl, tb2, fun lst f1 f2 f3 f4 f5 cl H1 ext tb1 hl st m1 m2 m3 m4 m5 => ?_⟩
      have hR1 := hR2.ext ext
      have nn1 := nn.ext ext
      unfold tNoPart
      dsimp only
      refine ⟨4, rfl, lst, _, rfl, lstAt hl, fun l7 hl7 => ⟨l7, rfl, ⟨_, lstAt upd_same⟩, fun D hD => ?_⟩⟩
      have s1 := same_new (o := .lst (cutV [.ref f1, .ref f2, .ref f3, .ref f4, .ref f5] none (some 4))) hl7
      have ec : cutV [.ref f1, .ref f2, .ref f3, .ref f4, .ref f5] none (some 4) = [.ref f1, .ref f2, .ref f3, .ref f4] := rfl
      refine lc_ref (fun _ v => v = .str "number") (fun H H' v f z => z) (lstAt upd_same) (by rw [ec]; show 4 ≤ 1000; decide) hD (fun i x H' hx sm Q Ex hq => ?_) (fun H' ys sm eD len all => ?_)
      · rw [ec] at hx
        have s2 := s1.trans sm
        have st2 := st.same s2
        have nn2 : NoN K H' v := ⟨nn1.1.on s2, nn1.2⟩
        match i, hx with
        | 0, hx =>
          cases Option.some.inj hx
          exact ref_word (b := 1) rfl rfl K1 (rdyN (lokW1 A1) (m1.same s2) (fun Q E e => ⟨v, .non, rfl, nn2.1.era st2, .inl ⟨nn2.2, e⟩⟩)) hq
        | 1, hx =>
          cases Option.some.inj hx
          exact ref_word (b := 1) rfl rfl K1 (rdyN (lokW2 A2) (m2.same s2) (fun Q E e => ⟨v, .non, rfl, nn2.1.era st2, .inl ⟨nn2.2, e⟩⟩)) hq
        | 2, hx =>
          cases Option.some.inj hx
          exact ref_word (b := 1) rfl rfl K1 (rdyN (lokW3 A3) (m3.same s2) (fun Q E e => ⟨v, .non, rfl, nn2.1.era st2, .inl ⟨nn2.2, e⟩⟩)) hq
        | 3, hx =>
          cases Option.some.inj hx
          exact ref_word (b := 1) rfl rfl K1 (rdyN (lokW4 A4) (m4.same s2) (fun Q E e => ⟨v, .non, .non, .non, rfl, nn2.1.era st2, .inl ⟨nn2.2, e⟩⟩)) hq
        | i + 4, hx => simp at hx
      · rw [ec] at len
        have sx := s1.trans sm
        refine ⟨by show 1 ≤ sizeLine; decide, fun l hl' => ?_⟩
        have s4 := same_new (o := .lst [.str "number"]) hl'
        refine ⟨l, 4, [.str "number"], rfl, rfl, upd_same, by decide, by decide, by show 1 * 4 ≤ sizeLine; decide +kernel, fun l2 hl2 => ?_⟩
        have s5 := same_new (o := .lst (List.replicate ((4 : Int)).toNat [V.str "number"]).flatten) hl2
        have s35 := s4.trans s5
        obtain ⟨d, d1, d2, shd, ee⟩ := word_data (K := K) 4 "number" ⟨by decide +kernel, by decide +kernel⟩ (lstAt (s35 _ _ eD)) len all (zs := [V.str "number", V.str "number", V.str "number", V.str "number"]) (lstAt (upd_same (a := l2))) rfl (fun y hy => by simpa using hy)
        refine ⟨d, d, d1, d2, shd, shd, _, rfl, ifF (by rw [ee]; rfl) ?_⟩
        exact ⟨p, _, rfl, (hR1.same sx).same s35, (tb1.ext fun b o e => sx b o e).ext fun b o e => s35 b o e, True.intro⟩
    clear hR2 tb2 nn
    obtain ⟨p, y2, rfl, hR3, tb3, _⟩ := g3
    refine ⟨GS0 K (tabsL P1) a (fun _ _ => True), fun σ4 H4 g4 => ?_, ?_⟩
    case refine_2 =>
      refine ⟨.non, .non, .non, .non, rfl, tb3, fun lst f1 f2 f3 f4 f5 cl H1 ext tb1 hl st m1 m2 m3 m4 m5 => ?_⟩
      have hR1 := hR3.ext ext
      refine ⟨lst, _, 4, .ref f5, rfl, rfl, lstAt hl, rfl, ?_⟩
      refine ⟨f5, Cb, 0, rfl, K0, .inr (.inl ⟨gB, "place", .non, rfl, .inl rfl, rdyB (lokW5 A5) m5 (fun Q E e => ⟨.non, .non, .non, .non, rfl, .inl ⟨none, .non, .no .non, rfl, e⟩⟩), fun H3 t3 s3 ht3 => ⟨by show 2 ≤ sizeLine; decide, fun t4 ht4 => ?_⟩⟩)⟩
      have s4 := same_new (o := .tup [.str "habit", .non]) ht4
      obtain ⟨d, d1, d2, shd, ee⟩ := one_data (K := K) "habit" (.inl rfl) (fun d h => sh1h h) (tupAt (s4 _ _ ht3)) (tupAt (upd_same (a := t4)))
      refine ⟨d, d, d1, d2, shd, shd, _, rfl, ifF (by rw [ee]; rfl) ?_⟩
      exact ⟨p, _, rfl, (hR1.same s3).same s4, (tb1.ext fun b o e => s3 b o e).ext fun b o e => s4 b o e, True.intro⟩
    clear hR3 tb3
    obtain ⟨p, y2, rfl, hR4, tb4, _⟩ := g4
    -- places, habit, program
    refine ⟨_, rfl, p, 4, rfl, hR4, by decide, by decide, fun k H5 k0 k1 hB5 hR5 => ⟨2, k, rfl, rfl, ?_⟩⟩
    obtain ⟨n, hn⟩ : ∃ n : Nat, 2 + k = (n : Int) := ⟨(2 + k).toNat, by omega⟩
    show gName 3 (V.int (2 + k)) _ _ _
    rw [hn]
    have n2 : 2 ≤ n := by omega
    have n5 : n ≤ 5 := by omega
    have tb5 := (hR4.fix hB5).tabs tb4
    refine ⟨_, rfl, _, rfl, p, n, rfl, hR5, n2, n5, fun H6 vH h hb hB6 hR6 hT6 => ?_⟩
    have tb6 := (hR5.fix hB6).tabs tb5
    refine ⟨_, rfl, _, rfl, p, n, 8, rfl, hR6, by omega, n5, by decide, by decide, fun H7 vP pg hB7 hR7 hP7 l1 l8 okp => ⟨_, _, rfl, ?_⟩⟩
    have S7 : St K (tabsL P1) H7 p vH vP n h pg := ⟨hR7, hT6.on (hR6.fix hB7).tups, hb, hP7, l1, l8, okp, (hR6.fix hB7).tabs tb6⟩
    clear hP7 okp hR7 hB7 tb6 hT6 hR6 hB6 hb tb5 hR5 hB5 tb4 hR4 n2 n5 hn k0 k1 l1 l8
    -- at
    refine ⟨GS K (tabsL P1) a (fun p n vH vP pg H ys => ∃ k : Nat, ys[0]? = some (some (.int (k : Int))) ∧ k < pg.length), fun σ8 H8 g8 => ?_, ?_⟩
    case refine_2 =>
      obtain ⟨ap, xs, ep, hS, hE⟩ := S7.hP
      have hl := hE.len
      have h1 := S7.l1
      have h8 := S7.l8
      refine ⟨_, rfl, _, rfl, ap, xs, by rw [ep], .inr hS, p, (pg.length : Int), by rw [hl]; rfl, S7.row, by omega, by omega, fun kk H8 kk0 kk1 hB8 hR8 => ?_⟩
      obtain ⟨k, rfl⟩ : ∃ k : Nat, kk = (k : Int) := ⟨kk.toNat, by omega⟩
      exact ⟨p, n, _, _, h, pg, _, _, _, _, _, _, _, _, _, _, _, _, rfl, S7.but hB8 hR8, k, rfl, by omega⟩
    clear S7
    obtain ⟨p, n, vH, vP, h, pg, y2, y6, y7, y8, y9, y10, y11, y12, y13, y14, y15, y16, rfl, S8, k, e8, hk⟩ := g8
    obtain rfl : y6 = some (.int (k : Int)) := Option.some.inj e8
    refine ⟨GS K (tabsL P1) a (fun p n vH vP pg H ys => (∃ k : Nat, ys[0]? = some (some (.int (k : Int))) ∧ k < pg.length) ∧ ∃ (o : Addr) (xs : List V), ys[1]? = some (some (.ref o)) ∧ H o = some (.lst xs) ∧ o ≠ p ∧ xs.length = 8 ∧ ∀ v ∈ xs, NoIns K H n pg.length v), fun σ9 H9 g9 => ?_, ?_⟩
    case refine_2 =>
      refine ⟨Nat.zero_le _, fun t1 ht1 => ⟨by show 1 ≤ sizeLine; decide, fun t2 ht2 => ⟨_, rfl, by show 2 ≤ sizeLine; decide, fun t3 ht3 => ⟨by show 3 ≤ sizeLine; decide, fun t4 ht4 => ⟨by show 2 ≤ sizeLine; decide, fun t5 ht5 => ⟨by show 2 ≤ sizeLine; decide, fun t6 ht6 => ⟨by show 2 ≤ sizeLine; decide, fun t7 ht7 => ⟨by show 8 ≤ sizeLine; decide, fun lo hlo => ?_⟩⟩⟩⟩⟩⟩⟩⟩
      have s1 := same_new (o := .tup []) ht1
      have s2 := same_new (o := .tup [.str "get"]) ht2
      have s3 := same_new (o := .tup [.str "get", .int (n : Int)]) ht3
      have s4 := same_new (o := .tup [.str "get", .int 0, .int 0]) ht4
      have s5 := same_new (o := .tup [.str "say", .int 0]) ht5
      have s6 := same_new (o := .tup [.str "put", .int 1000001]) ht6
      have s7 := same_new (o := .tup [.str "put", .bl true]) ht7
      have s8 := same_new (o := .lst [.non, .ref t1, .ref t2, .ref t3, .ref t4, .ref t5, .ref t6, .ref t7]) hlo
      have r7 := s8
      have r6 := s7.trans r7
      have r5 := s6.trans r6
      have r4 := s5.trans r5
      have r3 := s4.trans r4
      have r2 := s3.trans r3
      have r1 := s2.trans r2
      have sB := s1.trans (s2.trans (s3.trans (s4.trans (s5.trans (s6.trans s7)))))
      have np : ∀ v ∈ [V.non, .ref t1, .ref t2, .ref t3, .ref t4, .ref t5, .ref t6, .ref t7], NoIns K _ n pg.length v := fun v hv => by
        rcases List.mem_cons.mp hv with rfl | hv
        · exact .no .non
        rcases List.mem_cons.mp hv with rfl | hv
        · exact .tup (xs := []) (tupAt (r1 _ _ upd_same)) (fun z hz => by cases hz) (by decide) (fun _ => rfl)
        rcases List.mem_cons.mp hv with rfl | hv
        · exact .one (tupAt (r2 _ _ upd_same)) (.str _) (fun _ => in1_get)
        rcases List.mem_cons.mp hv with rfl | hv
        · exact .two (tupAt (r3 _ _ upd_same)) (.str _) (.int _) (fun _ => by rw [in_get]; exact inV2_n)
        rcases List.mem_cons.mp hv with rfl | hv
        · exact .tup (tupAt (r4 _ _ upd_same)) (fun z hz => by rcases List.mem_cons.mp hz with rfl | hz; exact .str _; rcases List.mem_cons.mp hz with rfl | hz; exact .int _; rw [List.mem_singleton.mp hz]; exact .int _) (by decide) (fun _ => rfl)
        rcases List.mem_cons.mp hv with rfl | hv
        · exact .two (tupAt (r5 _ _ upd_same)) (.str _) (.int _) (fun _ => in_say)
        rcases List.mem_cons.mp hv with rfl | hv
        · exact .two (tupAt (r6 _ _ upd_same)) (.str _) (.int _) (fun _ => by rw [in_put]; decide)
        rw [List.mem_singleton.mp hv]
        exact .two (tupAt (r7 _ _ upd_same)) (.str _) (.bl _) (fun _ => by rw [in_put]; rfl)
      exact ⟨p, n, _, _, h, pg, _, _, _, _, _, _, _, _, _, _, _, _, rfl, S8.same (sB.trans s8), ⟨k, rfl, hk⟩, lo, _, rfl, upd_same, (S8.same sB).neq hlo, rfl, np⟩
    clear S8 hk e8
    obtain ⟨p, n, vH, vP, h, pg, y2, y6, y7, y8, y9, y10, y11, y12, y13, y14, y15, y16, rfl, S9, ⟨k, e9, hk⟩, o, xs9, e9', el9, np9, len9, all9⟩ := g9
    obtain rfl : y6 = some (.int (k : Int)) := Option.some.inj e9
    obtain rfl : y7 = some (.ref o) := Option.some.inj e9'
    refine ⟨GS K (tabsL P1) a (fun p n vH vP pg H ys => (∃ k : Nat, ys[0]? = some (some (.int (k : Int))) ∧ k < pg.length) ∧ ∃ (o : Addr) (xs : List V), ys[1]? = some (some (.ref o)) ∧ H o = some (.lst xs) ∧ o ≠ p ∧ xs.length = 14 ∧ ∀ v ∈ xs, NoIns K H n pg.length v), fun σ10 H10 g10 => ?_, ?_⟩
    case refine_2 =>
      obtain ⟨ap, xs, ep, hS, hE⟩ := S9.hP
      have hl := hE.len
      refine ⟨_, rfl, _, rfl, ap, xs, by rw [ep], .inr hS, (xs.length : Int), 1, rfl, rfl, by show 2 ≤ sizeLine; decide, fun t1 ht1 => ⟨0, 1, rfl, rfl, by show 2 ≤ sizeLine; decide, fun t2 ht2 => ⟨by show 2 ≤ sizeLine; decide, fun t3 ht3 => ⟨by show 2 ≤ sizeLine; decide, fun t4 ht4 => ⟨by show 2 ≤ sizeLine; decide, fun t5 ht5 => ⟨by show 2 ≤ sizeLine; decide, fun t6 ht6 => ⟨by show 6 ≤ sizeLine; decide, fun lo hlo => ?_⟩⟩⟩⟩⟩⟩⟩
      have s1 := same_new (o := .tup [.str "zero", .int ((xs.length : Int) + 1)]) ht1
      have s2 := same_new (o := .tup [.str "go", .int (0 - 1)]) ht2
      have s3 := same_new (o := .tup [.str "Get", .int 0]) ht3
      have s4 := same_new (o := .tup [.str "plus", .non]) ht4
      have s5 := same_new (o := .tup [.str "put", .str "1"]) ht5
      have s6 := same_new (o := .tup [.int 5, .int 0]) ht6
      have s7 := same_new (o := .lst [.ref t1, .ref t2, .ref t3, .ref t4, .ref t5, .ref t6]) hlo
      have sB := s1.trans (s2.trans (s3.trans (s4.trans (s5.trans (s6.trans s7)))))
      refine ⟨o, lo, xs9, _, rfl, rfl, sB _ _ el9, upd_same, by rw [len9]; show 8 + 6 ≤ sizeLine; decide, fun o2 ho2 => ?_⟩
      have s8 := same_new (o := .lst (xs9 ++ [.ref t1, .ref t2, .ref t3, .ref t4, .ref t5, .ref t6])) ho2
      have r6 := s7.trans s8
      have r5 := s6.trans r6
      have r4 := s5.trans r5
      have r3 := s4.trans r4
      have r2 := s3.trans r3
      have r1 := s2.trans r2
      have sF := sB.trans s8
      have np : ∀ v ∈ [V.ref t1, .ref t2, .ref t3, .ref t4, .ref t5, .ref t6], NoIns K _ n pg.length v := fun v hv => by
        rcases List.mem_cons.mp hv with rfl | hv
        · exact .two (tupAt (r1 _ _ upd_same)) (.str _) (.int _) (fun _ => by rw [in_zero, hl]; exact inV2_succ)
        rcases List.mem_cons.mp hv with rfl | hv
        · exact .two (tupAt (r2 _ _ upd_same)) (.str _) (.int _) (fun _ => by rw [in_go]; exact inV2_neg)
        rcases List.mem_cons.mp hv with rfl | hv
        · exact .two (tupAt (r3 _ _ upd_same)) (.str _) (.int _) (fun _ => in_Get)
        rcases List.mem_cons.mp hv with rfl | hv
        · exact .two (tupAt (r4 _ _ upd_same)) (.str _) .non (fun _ => by rw [in_plus]; rfl)
        rcases List.mem_cons.mp hv with rfl | hv
        · exact .two (tupAt (r5 _ _ upd_same)) (.str _) (.str _) (fun _ => by rw [in_put]; rfl)
        rw [List.mem_singleton.mp hv]
        exact .two (tupAt (r6 _ _ upd_same)) (.int _) (.int _) (fun _ => rfl)
      exact ⟨p, n, _, _, h, pg, _, _, _, _, _, _, _, _, _, _, _, _, rfl, S9.same sF, ⟨k, rfl, hk⟩, o2, _, rfl, upd_same, (S9.same sB).neq ho2, by rw [List.length_append, len9]; rfl, fun v hv => (List.mem_append.mp hv).elim (fun hv => (all9 v hv).ext (same_ext sF)) (np v)⟩
    clear S9 hk e9 e9' el9 np9 len9 all9
    obtain ⟨p, n, vH, vP, h, pg, y2, y6, y7, y8, y9, y10, y11, y12, y13, y14, y15, y16, rfl, S10, ⟨k, e10, hk⟩, o, xs10, e10', el10, np10, len10, all10⟩ := g10
    obtain rfl : y6 = some (.int (k : Int)) := Option.some.inj e10
    obtain rfl : y7 = some (.ref o) := Option.some.inj e10'
    refine ⟨GS K (tabsL P1) a (fun p n vH vP pg H ys => (∃ k : Nat, ys[0]? = some (some (.int (k : Int))) ∧ k < pg.length) ∧ ∃ (o : Addr) (xs : List V), ys[1]? = some (some (.ref o)) ∧ H o = some (.lst xs) ∧ o ≠ p ∧ xs.length = 18 ∧ ∀ v ∈ xs, NoIns K H n pg.length v), fun σ11 H11 g11 => ?_, ?_⟩
    case refine_2 =>
      refine ⟨_, rfl, ?_⟩
      intro d hd
      have s1 := same_new (o := .dK []) hd
      refine ⟨by show 2 ≤ sizeLine; decide, fun t1 ht1 => ⟨by show 2 ≤ sizeLine; decide, fun l1 hl1 => ⟨by show 4 ≤ sizeLine; decide, fun lo hlo => ?_⟩⟩⟩
      have s2 := same_new (o := .tup [.str "set", .bl true]) ht1
      have s3 := same_new (o := .lst [.str "get", .int 0]) hl1
      have s4 := same_new (o := .lst [.ref d, .ref t1, .ref l1, .str "say"]) hlo
      have sB := s1.trans (s2.trans (s3.trans s4))
      refine ⟨o, lo, xs10, _, rfl, rfl, sB _ _ el10, upd_same, by rw [len10]; show 14 + 4 ≤ sizeLine; decide, fun o2 ho2 => ?_⟩
      have s5 := same_new (o := .lst (xs10 ++ [.ref d, .ref t1, .ref l1, .str "say"])) ho2
      have r3 := s4.trans s5
      have r2 := s3.trans r3
      have r1 := s2.trans r2
      have sF := sB.trans s5
      have np : ∀ v ∈ [V.ref d, .ref t1, .ref l1, .str "say"], NoIns K _ n pg.length v := fun v hv => by
        rcases List.mem_cons.mp hv with rfl | hv
        · exact .no (.dct (r1 _ _ upd_same))
        rcases List.mem_cons.mp hv with rfl | hv
        · exact .two (tupAt (r2 _ _ upd_same)) (.str _) (.bl _) (fun _ => by rw [in_set]; rfl)
        rcases List.mem_cons.mp hv with rfl | hv
        · exact .no (.lst (lstAt (r3 _ _ upd_same)))
        rw [List.mem_singleton.mp hv]
        exact .no (.str _)
      exact ⟨p, n, _, _, h, pg, _, _, _, _, _, _, _, _, _, _, _, _, rfl, S10.same sF, ⟨k, rfl, hk⟩, o2, _, rfl, upd_same, (S10.same sB).neq ho2, by rw [List.length_append, len10]; rfl, fun v hv => (List.mem_append.mp hv).elim (fun hv => (all10 v hv).ext (same_ext sF)) (np v)⟩
    clear S10 hk e10 e10' el10 np10 len10 all10
    obtain ⟨p, n, vH, vP, h, pg, y2, y6, y7, y8, y9, y10, y11, y12, y13, y14, y15, y16, rfl, S11, ⟨k, e11, hk⟩, o, xs11, e11', el11, np11, len11, all11⟩ := g11
    obtain rfl : y6 = some (.int (k : Int)) := Option.some.inj e11
    obtain rfl : y7 = some (.ref o) := Option.some.inj e11'
    -- the bent program
    refine ⟨GS K (tabsL P1) a (fun p n vH vP pg H ys => ∃ (k : Nat) (b : V), ys[0]? = some (some (.int (k : Int))) ∧ k < pg.length ∧ ys[2]? = some (some b) ∧ NoG2 K H n b (.int (k : Int))), fun σ12 H12 g12 => ?_, ?_⟩
    case refine_2 =>
      obtain ⟨ap, xs, rfl, hS, hE⟩ := S11.hP
      have hxl := hE.len
      have h8 := S11.l8
      refine ⟨_, rfl, _, rfl, (k : Int), rfl, slT_to (k : Int) k rfl hS fun b1 H1 s1 h1 => ?_⟩
      refine ⟨_, rfl, _, rfl, p, o, xs11, rfl, S11.row.same s1, s1 _ _ el11, np11, by omega, by omega, fun iw wx H2 hwx hB2 hR2 => ?_⟩
      have fx := (S11.row.same s1).fix hB2
      have nl := ((all11 wx (List.mem_of_getElem? hwx)).ext (same_ext s1)).but hB2 (S11.row.same s1) hR2
      have S2 := (S11.same s1).but hB2 hR2
      refine ⟨by show 1 ≤ sizeLine; decide, fun T1 hT1 => ?_⟩
      have s3 := same_new (o := .tup [wx]) hT1
      refine catT_ok (onT s3 (fx.tups _ _ h1)) (tupAt upd_same) (by rw [List.length_take]; show _ + 1 ≤ 1000; omega) fun r1 H4 s4 h4 => ?_
      have s34 := s3.trans s4
      have hS4 := onT s34 (fx.tups _ _ (onT s1 hS))
      refine ⟨_, rfl, _, rfl, (k : Int), 1, rfl, rfl, (k : Int) + 1, rfl, ?_⟩
      unfold tNoPart
      dsimp only
      refine slT_from ((k : Int) + 1) (k + 1) rfl hS4 fun b2 H5 s5 h5 => ?_
      refine catT_ok (onT s5 h4) h5 (by rw [List.length_append, List.length_take, List.length_drop, List.length_singleton]; omega) fun r2 H6 s6 h6 => ?_
      have sA := s34.trans (s5.trans s6)
      obtain ⟨wo, hwo, bad⟩ := nl.ext (same_ext sA)
      have S6 := S2.same sA
      obtain ⟨ap', xs', e', hS', hE'⟩ := S6.hP
      have hE2 := pg_wds (((hE.imp fun _ _ z => (z.on (Same.tups s1)).on fx.tups)).imp fun _ _ z => z.on (Same.tups sA))
      have hk2 : Hk K H6 (.ref r2) (some (((pg.map insV).take k ++ [wo]) ++ (pg.map insV).drop (k + 1))) := .tup h6 (((hE2.take k).app (.cons hwo .nil)).app (hE2.drop (k + 1)))
      exact ⟨p, n, _, _, h, pg, _, _, _, _, _, _, _, _, _, _, _, _, rfl, S6, k, .ref r2, rfl, hk, rfl, .inr ⟨k, by omega, rfl⟩, _, hk2, pg_bent hk (by omega) (S11.okr false) (bad false), .inr (pg_bent hk (by omega) (S11.okr true) (bad true))⟩
    clear S11 hk e11 e11' el11 np11 len11 all11
    obtain ⟨p, n, vH, vP, h, pg, y2, y6, y7, y8, y9, y10, y11, y12, y13, y14, y15, y16, rfl, S12, k, bv, e12, hk, e12', nb⟩ := g12
    obtain rfl : y6 = some (.int (k : Int)) := Option.some.inj e12
    obtain rfl : y8 = some bv := Option.some.inj e12'
    refine ⟨GS K (tabsL P1) a (fun p n vH vP pg H ys => (∃ (k : Nat) (b : V), ys[0]? = some (some (.int (k : Int))) ∧ k < pg.length ∧ ys[2]? = some (some b) ∧ NoG2 K H n b (.int (k : Int))) ∧ ∃ (o : Addr) (xs : List V), ys[3]? = some (some (.ref o)) ∧ H o = some (.lst xs) ∧ o ≠ p ∧ xs.length = 5 ∧ ∀ v ∈ xs, Pr2 K H n v), fun σ13 H13 g13 => ?_, ?_⟩
    case refine_2 =>
      obtain ⟨ap, xs, rfl, hS, hE⟩ := S12.hP
      have hxl := hE.len
      have h1 := S12.l1
      refine ⟨by show 2 ≤ sizeLine; decide, fun t1 ht1 => ?_⟩
      have s1 := same_new (o := .tup [.non, .non]) ht1
      refine ⟨_, rfl, ap, xs, rfl, .inr (onT s1 hS), fun l1 hl1 => ⟨by show 2 ≤ sizeLine; decide, fun t2 ht2 => ⟨Nat.zero_le _, fun t3 ht3 => ⟨by show 2 ≤ sizeLine; decide, fun t4 ht4 => ⟨_, rfl, 1, rfl, ?_⟩⟩⟩⟩⟩
      have s2 := same_new (o := .lst xs) hl1
      have s3 := same_new (o := .tup [.ref l1, .non]) ht2
      have s4 := same_new (o := .tup []) ht3
      have s5 := same_new (o := .tup [.ref t3, .non]) ht4
      have s15 := s1.trans (s2.trans (s3.trans (s4.trans s5)))
      unfold tNoPart
      dsimp only
      refine slT_to 1 1 rfl (onT s15 hS) fun b1 H6 s6 h6 => ?_
      obtain ⟨x0, xr, rfl⟩ : ∃ x0 xr, xs = x0 :: xr := by
        cases xs with
        | nil => rw [List.length_nil] at hxl; omega
        | cons x0 xr => exact ⟨x0, xr, rfl⟩
      refine ⟨b1, 201, [x0], rfl, rfl, h6, by simp, by decide, by decide, by show 1 ≤ 1000; decide, fun t5 ht5 => ⟨by show 2 ≤ sizeLine; decide, fun t6 ht6 => ?_⟩⟩
      have s7 := same_new (o := .tup (List.replicate ((201 : Int)).toNat [x0]).flatten) ht5
      have s8 := same_new (o := .tup [.ref t5, .non]) ht6
      intro d hd
      have s9 := same_new (o := .dK []) hd
      refine ⟨by show 2 ≤ sizeLine; decide, fun t7 ht7 => ⟨by show 5 ≤ sizeLine; decide, fun lo hlo => ?_⟩⟩
      have s10 := same_new (o := .tup [.ref d, .non]) ht7
      have s11 := same_new (o := .lst [.ref t1, .ref t2, .ref t4, .ref t6, .ref t7]) hlo
      have r9 := s10.trans s11
      have r8 := s9.trans r9
      have r7 := s8.trans r8
      have r5 := s6.trans (s7.trans r7)
      have r4 := s5.trans r5
      have r3 := s4.trans r4
      have r2 := s3.trans r3
      have r1 := s2.trans r2
      have sB := s15.trans (s6.trans (s7.trans (s8.trans (s9.trans s10))))
      have sF := sB.trans s11
      have e201 : (List.replicate ((201 : Int)).toNat [x0]).flatten = List.replicate 201 x0 := rep_flat 201 x0
      have hL : SqT K _ t5 (List.replicate 201 x0) := tupAt (r7 _ _ (by rw [upd_same, e201]))
      obtain ⟨i0, pr, ePg⟩ : ∃ i0 pr, pg = i0 :: pr := by
        cases pg with
        | nil => rw [List.length_nil] at h1; omega
        | cons x0 xr => exact ⟨x0, xr, rfl⟩
      have hW0 : Wd K _ x0 (insV i0) := ins_wd (by
        rw [ePg] at hE
        cases hE with
        | cons h _ => exact h.on (Same.tups sF))
      have none2 : ∀ {n : Nat}, pgBad (n : Int) 200 false (some (List.replicate 201 (insV i0))) = some .non := fun {n} => by
        unfold pgBad
        dsimp only
        rw [List.length_replicate, if_neg (by decide)]
      have np : ∀ v ∈ [V.ref t1, .ref t2, .ref t4, .ref t6, .ref t7], Pr2 K _ n v := fun v hv => by
        rcases List.mem_cons.mp hv with rfl | hv
        · exact ⟨t1, .non, .non, rfl, tupAt (r1 _ _ upd_same), .inl rfl, none, .no .non, rfl, .inr rfl⟩
        rcases List.mem_cons.mp hv with rfl | hv
        · exact ⟨t2, .ref l1, .non, rfl, tupAt (r3 _ _ upd_same), .inl rfl, none, .no (.lst (lstAt (r2 _ _ upd_same))), rfl, .inr rfl⟩
        rcases List.mem_cons.mp hv with rfl | hv
        · exact ⟨t4, .ref t3, .non, rfl, tupAt (r5 _ _ upd_same), .inl rfl, some [], .tup (xs := []) (tupAt (r4 _ _ upd_same)) .nil, rfl, .inr rfl⟩
        rcases List.mem_cons.mp hv with rfl | hv
        · exact ⟨t6, .ref t5, .non, rfl, tupAt (r8 _ _ upd_same), .inl rfl, some (List.replicate 201 (insV i0)), .tup hL (each_rep (H := H6) hW0 201), none2, .inl ⟨t5, _, rfl, hL, by rw [List.length_replicate]; exact Nat.le_refl _⟩⟩
        rw [List.mem_singleton.mp hv]
        exact ⟨t7, .ref d, .non, rfl, tupAt (s11 _ _ upd_same), .inl rfl, none, .no (.dct (r9 _ _ upd_same)), rfl, .inr rfl⟩
      exact ⟨p, n, _, _, h, pg, _, _, _, _, _, _, _, _, _, _, _, _, rfl, S12.same sF, ⟨k, bv, rfl, hk, rfl, nb.on sF⟩, lo, _, rfl, upd_same, (S12.same sB).neq hlo, rfl, np⟩
    clear S12 hk e12 e12' nb
    obtain ⟨p, n, vH, vP, h, pg, y2, y6, y7, y8, y9, y10, y11, y12, y13, y14, y15, y16, rfl, S13, ⟨k, bv, e13, hk, e13', nb⟩, o, xs13, e13o, el13, np13, len13, all13⟩ := g13
    obtain rfl : y6 = some (.int (k : Int)) := Option.some.inj e13
    obtain rfl : y8 = some bv := Option.some.inj e13'
    obtain rfl : y9 = some (.ref o) := Option.some.inj e13o
    refine ⟨GS K (tabsL P1) a (fun p n vH vP pg H ys => ∃ (v pl : V), ys[4]? = some (some v) ∧ ys[5]? = some (some pl) ∧ NoG2 K H n v pl), fun σ14 H14 g14 => ?_, ?_⟩
    case refine_2 =>
      refine ⟨_, rfl, _, rfl, _, rfl, _, rfl, by show 2 ≤ sizeLine; decide, fun t1 ht1 => ⟨by show 1 ≤ sizeLine; decide, fun l1 hl1 => ?_⟩⟩
      have s1 := same_new (o := .tup [bv, .int (k : Int)]) ht1
      have s2 := same_new (o := .lst [.ref t1]) hl1
      refine ⟨l1, 6, [.ref t1], rfl, rfl, upd_same, by decide, by decide, by show 1 * 6 ≤ sizeLine; decide +kernel, fun l2 hl2 => ?_⟩
      have s3 := same_new (o := .lst (List.replicate ((6 : Int)).toNat [V.ref t1]).flatten) hl2
      have s13 := s1.trans (s2.trans s3)
      refine ⟨o, l2, xs13, _, rfl, rfl, s13 _ _ el13, upd_same, by rw [len13]; show 5 + 6 ≤ sizeLine; decide +kernel, fun l3 hl3 => ?_⟩
      have s4 := same_new (o := .lst (xs13 ++ (List.replicate ((6 : Int)).toNat [V.ref t1]).flatten)) hl3
      have s14 := s13.trans s4
      have S4 := S13.same s14
      have pr : ∀ v ∈ xs13 ++ (List.replicate ((6 : Int)).toNat [V.ref t1]).flatten, Pr2 K _ n v := fun v hv => by
        rcases List.mem_append.mp hv with hv | hv
        · exact (all13 v hv).on s14
        · have : v = .ref t1 := by
            have hv : v ∈ [V.ref t1, V.ref t1, V.ref t1, V.ref t1, V.ref t1, V.ref t1] := hv
            simpa using hv
          rw [this]
          exact ⟨t1, bv, .int (k : Int), rfl, tupAt ((s2.trans (s3.trans s4)) _ _ upd_same), nb.on s14⟩
      refine ⟨p, l3, _, rfl, S4.row, upd_same, (S13.same s13).neq hl3, by rw [List.length_append, len13]; show 0 < 5 + 6; decide, by rw [List.length_append, len13]; show 5 + 6 ≤ 1000; decide, fun iv vx H5 hvx hB5 hR5 => ?_⟩
      obtain ⟨t, v, pl, rfl, hS, nh⟩ := (pr vx (List.mem_of_getElem? hvx)).but hB5 S4.row hR5
      refine ⟨t, _, rfl, hS, rfl, _, _, rfl, _, _, rfl, rfl, ?_⟩
      exact ⟨p, n, _, _, h, pg, _, _, _, _, _, _, _, _, _, _, _, _, rfl, S4.but hB5 hR5, v, pl, rfl, rfl, nh⟩
    clear S13 hk e13 e13' nb e13o el13 np13 len13 all13
    obtain ⟨p, n, vH, vP, h, pg, y2, y6, y7, y8, y9, y10, y11, y12, y13, y14, y15, y16, rfl, S14, v, pl, e14, e14', ng⟩ := g14
    obtain rfl : y10 = some v := Option.some.inj e14
    obtain rfl : y11 = some pl := Option.some.inj e14'
    refine ⟨GS K (tabsL P1) a (fun p n vH vP pg H ys => ∃ (v pl : V), ys[4]? = some (some v) ∧ ys[5]? = some (some pl) ∧ NoG2 K H n v pl), fun σ15 H15 g15 => ?_, ?_⟩
    case refine_2 =>
      have n2 := S14.hb.lo
      have n5 := S14.hb.hi
      refine ⟨_, rfl, _, rfl, .int (n : Int), v, .non, .non, rfl, S14.tb, fun lst f1 f2 f3 f4 f5 cl H1 ext tb1 hl st m1 m2 m3 m4 m5 => ?_⟩
      have S1 := S14.ext ext tb1
      have ng1 := ng.ext ext
      have hpl := ng1.1
      unfold tNoPart
      dsimp only
      refine ⟨4, rfl, lst, _, rfl, lstAt hl, fun l7 hl7 => ⟨l7, rfl, ⟨_, lstAt upd_same⟩, fun D hD => ?_⟩⟩
      have s1 := same_new (o := .lst (cutV [.ref f1, .ref f2, .ref f3, .ref f4, .ref f5] none (some 4))) hl7
      have ec : cutV [.ref f1, .ref f2, .ref f3, .ref f4, .ref f5] none (some 4) = [.ref f1, .ref f2, .ref f3, .ref f4] := rfl
      refine lc_ref (fun H v => ∃ t, v = .ref t ∧ SqT K H t [.str "program", pl]) (fun H H' v f ⟨t, e, z⟩ => ⟨t, e, f.tups _ _ z⟩) (lstAt upd_same) (by rw [ec]; show 4 ≤ 1000; decide) hD (fun i x H' hx sm Q Ex hq => ?_) (fun H' ys sm eD len all => ?_)
      · rw [ec] at hx
        have s2 := s1.trans sm
        have st2 := st.same s2
        obtain ⟨_, ho, hk2, hp, _⟩ := ng1.on s2
        match i, hx with
        | 0, hx =>
          cases Option.some.inj hx
          exact ref_pair (b := 2) rfl rfl gG hpl K2 (rdyB (lokW1 A1) (m1.same s2) (fun Q E e => ⟨.int (n : Int), v, rfl, .int _, .inr ⟨(n : Int), ho, pl, rfl, in_places n2 n5, hk2.era st2, hp, hpl, e⟩⟩)) hq
        | 1, hx =>
          cases Option.some.inj hx
          exact ref_pair (b := 2) rfl rfl gG hpl K2 (rdyB (lokW2 A2) (m2.same s2) (fun Q E e => ⟨.int (n : Int), v, rfl, .int _, .inr ⟨(n : Int), ho, pl, rfl, in_places n2 n5, hk2.era st2, hp, hpl, e⟩⟩)) hq
        | 2, hx =>
          cases Option.some.inj hx
          exact ref_pair (b := 2) rfl rfl gG hpl K2 (rdyB (lokW3 A3) (m3.same s2) (fun Q E e => ⟨.int (n : Int), v, rfl, .int _, .inr ⟨(n : Int), ho, pl, rfl, in_places n2 n5, hk2.era st2, hp, hpl, e⟩⟩)) hq
        | 3, hx =>
          cases Option.some.inj hx
          exact ref_pair (b := 2) rfl rfl gG hpl K2 (rdyB (lokW4 A4) (m4.same s2) (fun Q E e => ⟨.int (n : Int), v, .non, .non, rfl, .int _, .inr ⟨(n : Int), rfl, in_places n2 n5, ho, hk2.era st2, .inl ⟨pl, hp, hpl, e⟩⟩⟩)) hq
        | i + 4, hx => simp at hx
      · rw [ec] at len
        have S2 := S1.same (s1.trans sm)
        refine ⟨_, rfl, by show 2 ≤ sizeLine; decide, fun t ht => ⟨by show 1 ≤ sizeLine; decide, fun l hl' => ?_⟩⟩
        have s3 := same_new (o := .tup [.str "program", pl]) ht
        have s4 := same_new (o := .lst [.ref t]) hl'
        refine ⟨l, 4, [.ref t], rfl, rfl, upd_same, by decide, by decide, by show 1 * 4 ≤ sizeLine; decide +kernel, fun l2 hl2 => ?_⟩
        have s5 := same_new (o := .lst (List.replicate ((4 : Int)).toNat [V.ref t]).flatten) hl2
        have s35 := s3.trans (s4.trans s5)
        have ht2 := tupAt (K := K) ((s4.trans s5) _ _ (upd_same (a := t)))
        obtain ⟨d, d1, d2, shd, ee⟩ := pair_data (K := K) 4 "program" hpl (fun d h => sh4p h) (lstAt (s35 _ _ eD)) len (fun y hy => (show ∃ t, y = .ref t ∧ SqT K _ t [.str "program", pl] from by
          obtain ⟨t', e, z⟩ := all y hy
          exact ⟨t', e, onT s35 z⟩)) (zs := [V.ref t, V.ref t, V.ref t, V.ref t]) (lstAt (upd_same (a := l2))) rfl (fun y hy => ⟨t, by simpa using hy, ht2⟩)
        refine ⟨d, d, d1, d2, shd, shd, _, rfl, ifF (by rw [ee]; rfl) ?_⟩
        exact ⟨p, n, _, _, h, pg, _, _, _, _, _, _, _, _, _, _, _, _, rfl, S2.same s35, v, pl, rfl, rfl, (ng1.on (s1.trans sm)).on s35⟩
    clear S14 ng e14 e14'
    obtain ⟨p, n, vH, vP, h, pg, y2, y6, y7, y8, y9, y10, y11, y12, y13, y14, y15, y16, rfl, S15, v, pl, e15, e15', ng⟩ := g15
    obtain rfl : y10 = some v := Option.some.inj e15
    obtain rfl : y11 = some pl := Option.some.inj e15'
    refine ⟨GS K (tabsL P1) a (fun _ _ _ _ _ _ _ => True), fun σ16 H16 g16 => ?_, ?_⟩
    case refine_2 =>
      obtain ⟨hpl, ho, hk, hp2, hp4⟩ := ng
      rcases hp4 with ⟨aq, xq, rfl, hq, hl⟩ | hp4
      · refine ⟨_, rfl, .ref aq, .ty "tuple", _, _, true, rfl, .ty "tuple", ty_tup hq, kit_ty (by decide +kernel), _, rfl, ifF rfl ⟨_, rfl, aq, xq, rfl, .inr hq, (xq.length : Int), 201, rfl, rfl, _, rfl, ?_⟩⟩
        rw [decide_eq_false (by omega)]
        exact ifF rfl ⟨p, n, _, _, h, pg, _, _, _, _, _, _, _, _, _, _, _, _, rfl, S15, True.intro⟩
      obtain ⟨wo, htk⟩ := hk_tk hk
      obtain ⟨u, k, ty, kit, fact⟩ := isi_tup htk
      refine ⟨_, rfl, v, .ty "tuple", u, _, k, rfl, .ty "tuple", ty, kit, _, rfl, ?_⟩
      have go : ∀ (A R : Prop), A → (A → k = true → R) → (if (!k) = true then A else R) := fun A R hA hR => by
        cases k with
        | true => exact ifF rfl (hR hA rfl)
        | false => exact ifT rfl hA
      refine go _ _ (ifT rfl ?_) (fun body kt => ?_)
      case refine_2 =>
        obtain ⟨aq, xq, rfl, hq⟩ := fact kt
        refine ⟨_, rfl, aq, xq, rfl, .inr hq, (xq.length : Int), 201, rfl, rfl, _, rfl, ?_⟩
        generalize decide ((xq.length : Int) < 201) = b2
        cases b2 with
        | true => exact body
        | false => exact ifF rfl ⟨p, n, _, _, h, pg, _, _, _, _, _, _, _, _, _, _, _, _, rfl, S15, True.intro⟩
      refine ⟨_, rfl, _, rfl, vH, v, .non, .non, rfl, S15.tb, fun lst f1 f2 f3 f4 f5 cl H1 ext tb1 hl st m1 m2 m3 m4 m5 => ?_⟩
      have S1 := S15.ext ext tb1
      have hk1 := hk.ext ext
      obtain ⟨wos, hkH, hbH, hlH⟩ := S1.hk
      refine ⟨lst, _, 4, .ref f5, rfl, rfl, lstAt hl, rfl, ?_⟩
      refine ⟨f5, Cg, 2, rfl, K2, .inr (.inl ⟨gG, "index", pl, rfl, hpl, rdyB (lokW5 A5) m5 (fun Q E e => ⟨vH, v, .non, .non, rfl, .inr ⟨wos, hkH.era st, hbH, ho, hk1.era st, .inl ⟨pl, by rw [hlH]; exact hp4, hpl, e⟩⟩⟩), fun H3 t3 s3 ht3 => ⟨_, rfl, by show 2 ≤ sizeLine; decide, fun t4 ht4 => ?_⟩⟩)⟩
      have s4 := same_new (o := .tup [.str "program", pl]) ht4
      obtain ⟨d, d1, d2, shd, ee⟩ := one_data (K := K) "program" hpl (fun d h => sh1p h) (tupAt (s4 _ _ ht3)) (tupAt (upd_same (a := t4)))
      refine ⟨d, d, d1, d2, shd, shd, _, rfl, ifF (by rw [ee]; rfl) ?_⟩
      exact ⟨p, n, _, _, h, pg, _, _, _, _, _, _, _, _, _, _, _, _, rfl, (S1.same s3).same s4, True.intro⟩
    clear S15 ng e15 e15'
    obtain ⟨p, n, vH, vP, h, pg, y2, y6, y7, y8, y9, y10, y11, y12, y13, y14, y15, y16, rfl, S16, _⟩ := g16
    -- touches
    refine ⟨GS K (tabsL P1) a (fun p n vH vP pg H ys => ∃ (t : Addr) (x : V), ys[6]? = some (some (.ref t)) ∧ SqT K H t [x] ∧ RIns K H x (.touch 0)), fun σ17 H17 g17 => ?_, ?_⟩
    case refine_2 =>
      refine ⟨by show 2 ≤ sizeLine; decide, fun t1 ht1 => ⟨by show 1 ≤ sizeLine; decide, fun t2 ht2 => ?_⟩⟩
      have s1 := same_new (o := .tup [.str "touch", .int 0]) ht1
      have s2 := same_new (o := .tup [.ref t1]) ht2
      exact ⟨p, n, _, _, h, pg, _, _, _, _, _, _, _, _, _, _, _, _, rfl, S16.same (s1.trans s2), t2, .ref t1, rfl, tupAt upd_same, t1, rfl, tupAt (s2 _ _ upd_same)⟩
    clear S16
    obtain ⟨p, n, vH, vP, h, pg, y2, y6, y7, y8, y9, y10, y11, y12, y13, y14, y15, y16, rfl, S17, t0, x0, e17, hS0, hI0⟩ := g17
    obtain rfl : y12 = some (.ref t0) := Option.some.inj e17
    refine ⟨GS K (tabsL P1) a (fun p n vH vP pg H ys => ∃ (t : Addr) (x : V), ys[6]? = some (some (.ref t)) ∧ SqT K H t [x] ∧ RIns K H x (.touch 0)), fun σ18 H18 g18 => ?_, ?_⟩
    case refine_2 =>
      have n2 := S17.hb.lo
      have n5 := S17.hb.hi
      refine ⟨_, rfl, _, rfl, .int (n : Int), .ref t0, .non, .non, rfl, S17.tb, fun lst f1 f2 f3 f4 f5 cl H1 ext tb1 hl st m1 m2 m3 m4 m5 => ?_⟩
      have S1 := S17.ext ext tb1
      have hS1 := extN_tups ext _ _ hS0
      have hI1 := hI0.on (extN_tups ext)
      unfold tNoPart
      dsimp only
      refine ⟨4, rfl, lst, _, rfl, lstAt hl, fun l7 hl7 => ⟨l7, rfl, ⟨_, lstAt upd_same⟩, fun D hD => ?_⟩⟩
      have s1 := same_new (o := .lst (cutV [.ref f1, .ref f2, .ref f3, .ref f4, .ref f5] none (some 4))) hl7
      have ec : cutV [.ref f1, .ref f2, .ref f3, .ref f4, .ref f5] none (some 4) = [.ref f1, .ref f2, .ref f3, .ref f4] := rfl
      refine lc_ref (fun H v => ∃ t, v = .ref t ∧ SqT K H t [.str "program", .int 0]) (fun H H' v f ⟨t, e, z⟩ => ⟨t, e, f.tups _ _ z⟩) (lstAt upd_same) (by rw [ec]; show 4 ≤ 1000; decide) hD (fun i x H' hx sm Q Ex hq => ?_) (fun H' ys sm eD len all => ?_)
      · rw [ec] at hx
        have s2 := s1.trans sm
        have st2 := st.same s2
        have hkT : Hk K H' (.ref t0) (some [some [.str "touch", .int 0]]) := .tup (onT s2 hS1) (.cons (ins_wd (hI1.on (Same.tups s2))) .nil)
        match i, hx with
        | 0, hx =>
          cases Option.some.inj hx
          exact ref_pair (b := 2) rfl rfl gG (.inr ⟨0, by decide, rfl⟩) K2 (rdyB (lokW1 A1) (m1.same s2) (fun Q E e => ⟨.int (n : Int), .ref t0, rfl, .int _, .inr ⟨(n : Int), _, .int 0, rfl, in_places n2 n5, hkT.era st2, pg_touch, .inr ⟨0, by decide, rfl⟩, e⟩⟩)) hq
        | 1, hx =>
          cases Option.some.inj hx
          exact ref_pair (b := 2) rfl rfl gG (.inr ⟨0, by decide, rfl⟩) K2 (rdyB (lokW2 A2) (m2.same s2) (fun Q E e => ⟨.int (n : Int), .ref t0, rfl, .int _, .inr ⟨(n : Int), _, .int 0, rfl, in_places n2 n5, hkT.era st2, pg_touch, .inr ⟨0, by decide, rfl⟩, e⟩⟩)) hq
        | 2, hx =>
          cases Option.some.inj hx
          exact ref_pair (b := 2) rfl rfl gG (.inr ⟨0, by decide, rfl⟩) K2 (rdyB (lokW3 A3) (m3.same s2) (fun Q E e => ⟨.int (n : Int), .ref t0, rfl, .int _, .inr ⟨(n : Int), _, .int 0, rfl, in_places n2 n5, hkT.era st2, pg_touch, .inr ⟨0, by decide, rfl⟩, e⟩⟩)) hq
        | 3, hx =>
          cases Option.some.inj hx
          exact ref_pair (b := 2) rfl rfl gG (.inr ⟨0, by decide, rfl⟩) K2 (rdyB (lokW4 A4) (m4.same s2) (fun Q E e => ⟨.int (n : Int), .ref t0, .non, .non, rfl, .int _, .inr ⟨(n : Int), rfl, in_places n2 n5, _, hkT.era st2, .inl ⟨.int 0, pg_touch, .inr ⟨0, by decide, rfl⟩, e⟩⟩⟩)) hq
        | i + 4, hx => simp at hx
      · rw [ec] at len
        have S2 := S1.same (s1.trans sm)
        refine ⟨by show 2 ≤ sizeLine; decide, fun t ht => ⟨by show 1 ≤ sizeLine; decide, fun l hl' => ?_⟩⟩
        have s3 := same_new (o := .tup [.str "program", .int 0]) ht
        have s4 := same_new (o := .lst [.ref t]) hl'
        refine ⟨l, 4, [.ref t], rfl, rfl, upd_same, by decide, by decide, by show 1 * 4 ≤ sizeLine; decide +kernel, fun l2 hl2 => ?_⟩
        have s5 := same_new (o := .lst (List.replicate ((4 : Int)).toNat [V.ref t]).flatten) hl2
        have s35 := s3.trans (s4.trans s5)
        have ht2 := tupAt (K := K) ((s4.trans s5) _ _ (upd_same (a := t)))
        obtain ⟨d, d1, d2, shd, ee⟩ := pair_data (K := K) 4 "program" (.inr ⟨0, by decide, rfl⟩) (fun d h => sh4p h) (lstAt (s35 _ _ eD)) len (fun y hy => (show ∃ t, y = .ref t ∧ SqT K _ t [.str "program", .int 0] from by
          obtain ⟨t', e, z⟩ := all y hy
          exact ⟨t', e, onT s35 z⟩)) (zs := [V.ref t, V.ref t, V.ref t, V.ref t]) (lstAt (upd_same (a := l2))) rfl (fun y hy => ⟨t, by simpa using hy, ht2⟩)
        refine ⟨d, d, d1, d2, shd, shd, _, rfl, ifF (by rw [ee]; rfl) ?_⟩
        exact ⟨p, n, _, _, h, pg, _, _, _, _, _, _, _, _, _, _, _, _, rfl, S2.same s35, t0, x0, rfl, onT s35 (onT (s1.trans sm) hS1), (hI1.on (Same.tups (s1.trans sm))).on (Same.tups s35)⟩
    clear S17 e17 hS0 hI0
    obtain ⟨p, n, vH, vP, h, pg, y2, y6, y7, y8, y9, y10, y11, y12, y13, y14, y15, y16, rfl, S18, t0, x0, e18, hS0, hI0⟩ := g18
    obtain rfl : y12 = some (.ref t0) := Option.some.inj e18
    refine ⟨GS K (tabsL P1) a (fun p n vH vP pg H ys => ∃ (v : V) (k : Nat), ys[7]? = some (some v) ∧ WideV K H v k), fun σ19 H19 g19 => ?_, ?_⟩
    case refine_2 =>
      refine ⟨_, rfl, t0, 4000, x0, rfl, rfl, hS0, by decide, by decide, fun t1 ht1 => ?_⟩
      have s1 := same_new (o := .tup (List.replicate 4000 x0)) ht1
      have S1 := S18.same s1
      refine ⟨_, rfl, _, rfl, p, 2, rfl, S1.row, by decide, by decide, fun kk H2 kk0 kk1 hB2 hR2 => ?_⟩
      obtain ⟨k, rfl⟩ : ∃ k : Nat, kk = (k : Int) := ⟨kk.toNat, by omega⟩
      have fx := S1.row.fix hB2
      refine ⟨(k : Int), rfl, slT_to (k : Int) k rfl (fx.tups _ _ (onT s1 hS0)) fun b1 H3 s3 h3 => ?_⟩
      have hk1 : k ≤ 1 := by omega
      refine catT_big (onT s3 (fx.tups _ _ (tupAt upd_same))) h3 (by rw [List.length_replicate, List.length_take]; omega) fun r H4 s4 h4 => ?_
      have er : List.replicate 4000 x0 ++ [x0].take k = List.replicate (4000 + k) x0 := by
        have : k = 0 ∨ k = 1 := by omega
        rcases this with rfl | rfl
        · rw [List.take_zero, List.append_nil]
        · show List.replicate 4000 x0 ++ List.replicate 1 x0 = _
          rw [List.replicate_append_replicate]
      rw [er] at h4
      have hI4 := (((hI0.on (Same.tups s1)).on fx.tups).on (Same.tups s3)).on (Same.tups s4)
      exact ⟨p, n, _, _, h, pg, _, _, _, _, _, _, _, _, _, _, _, _, rfl, ((S1.but hB2 hR2).same s3).same s4, .ref r, k, rfl, r, x0, rfl, h4, hI4, hk1⟩
    clear S18 e18 hS0 hI0
    obtain ⟨p, n, vH, vP, h, pg, y2, y6, y7, y8, y9, y10, y11, y12, y13, y14, y15, y16, rfl, S19, v, k, e19, wd⟩ := g19
    obtain rfl : y13 = some v := Option.some.inj e19
    refine ⟨GS K (tabsL P1) a (fun _ _ _ _ _ _ _ => True), fun σ20 H20 g20 => ?_, ?_⟩
    case refine_2 =>
      obtain ⟨aw, x0, rfl, hSw, hIw, hk1⟩ := wd
      have n2 := S19.hb.lo
      refine ⟨_, rfl, _, rfl, Nat.zero_le _, fun t1 ht1 => ?_⟩
      have s1 := same_new (o := .tup []) ht1
      refine ⟨vH, .ref aw, .ref t1, .int 5, rfl, (S19.same s1).tb, fun lst f1 f2 f3 f4 f5 cl H1 ext tb1 hl st m1 m2 m3 m4 m5 => ?_⟩
      have S1 := (S19.same s1).ext ext tb1
      have hS1 := extN_tups ext _ _ (onT s1 hSw)
      have hI1 := (hIw.on (Same.tups s1)).on (extN_tups ext)
      have hV1 : SqT K H1 t1 [] := extN_tups ext _ _ (tupAt upd_same)
      obtain ⟨wos, hkH, hbH, hlH⟩ := S1.hk
      have hkW : Hk K H1 (.ref aw) (some (List.replicate (4000 + k) (some [.str "touch", .int 0]))) := .tup hS1 (each_rep (H := H1) (ins_wd hI1) _)
      have pw := pg_wide (n := n) (by omega) hk1
      refine ⟨lst, _, 4, .ref f5, rfl, rfl, lstAt hl, rfl, ?_⟩
      have kk : k = 0 ∨ k = 1 := by omega
      rcases kk with rfl | rfl
      · rw [if_pos rfl] at pw
        have hW0 : Wd K H1 (.ref t1) (some []) := wd_ints (ns := []) hV1 (by decide)
        have okT : ∀ i ∈ List.replicate 4000 (Ins.touch 0), okIns n (List.replicate 4000 (Ins.touch 0)).length i := fun i hi => by
          rw [List.eq_of_mem_replicate hi]
          show 0 < n
          omega
        refine ⟨f5, Cb, 0, rfl, K0, .inr (.inr ⟨rdyR (lokW5 A5) m5 (fun Q E hE => ⟨vH, .ref aw, .ref t1, .int 5, rfl, .inr ⟨wos, hkH.era st, hbH, _, hkW.era st, .inr ⟨by rw [hlH]; exact pw, some [], hW0.era st, .inr ⟨rfl, .int _, .inr ⟨5, h, n, List.replicate 4000 (.touch 0), [], rfl, by decide, ⟨TII.era st S1.hT, S1.hb, RPg.era st ⟨aw, _, rfl, hS1, each_rep (H := H1) hI1 4000⟩, okT, ⟨t1, rfl, era_tups st _ _ hV1⟩⟩, fun H' t sa s _ _ => hE H' _ s⟩⟩⟩⟩⟩), fun H3 s3 => ?_⟩)⟩
        refine ⟨_, rfl, aw, _, rfl, .inr (onT s3 hS1), rfl, _, rfl, ifT (by rw [List.length_replicate]; decide +kernel) ?_⟩
        refine ⟨.none, .none, .non, .non, by decide +kernel, by decide +kernel, _, rfl, ifF (by decide +kernel) ?_⟩
        exact ⟨p, n, _, _, h, pg, _, _, _, _, _, _, _, _, _, _, _, _, rfl, S1.same s3, True.intro⟩
      · rw [if_neg (by decide)] at pw
        refine ⟨f5, Cg, 2, rfl, K2, .inr (.inl ⟨gG, "index", .non, rfl, .inl rfl, rdyB (lokW5 A5) m5 (fun Q E e => ⟨vH, .ref aw, .ref t1, .int 5, rfl, .inr ⟨wos, hkH.era st, hbH, _, hkW.era st, .inl ⟨.non, by rw [hlH]; exact pw, .inl rfl, e⟩⟩⟩), fun H3 t3 s3 ht3 => ?_⟩)⟩
        refine ⟨_, rfl, aw, _, rfl, .inr (onT s3 hS1), rfl, _, rfl, ifF (by rw [List.length_replicate]; decide +kernel) ⟨by show 2 ≤ sizeLine; decide, fun t4 ht4 => ?_⟩⟩
        have s4 := same_new (o := .tup [.str "program", .non]) ht4
        obtain ⟨d, d1, d2, shd, ee⟩ := one_data (K := K) "program" (.inl rfl) (fun d h => sh1p h) (tupAt (s4 _ _ ht3)) (tupAt (upd_same (a := t4)))
        refine ⟨d, d, d1, d2, shd, shd, _, rfl, ifF (by rw [ee]; rfl) ?_⟩
        exact ⟨p, n, _, _, h, pg, _, _, _, _, _, _, _, _, _, _, _, _, rfl, (S1.same s3).same s4, True.intro⟩
    clear S19 e19 wd
    obtain ⟨p, n, vH, vP, h, pg, y2, y6, y7, y8, y9, y10, y11, y12, y13, y14, y15, y16, rfl, S20, _⟩ := g20
    -- no inputs
    refine ⟨GS K (tabsL P1) a (fun p n vH vP pg H ys => ∃ v, ys[8]? = some (some v) ∧ NoI K H v), fun σ21 H21 g21 => ?_, ?_⟩
    case refine_2 =>
      refine ⟨_, rfl, by show 1 ≤ sizeLine; decide, fun l1 hl1 => ⟨by show 1 ≤ sizeLine; decide, fun t1 ht1 => ⟨by show 1 ≤ sizeLine; decide, fun t2 ht2 => ⟨by show 1 ≤ sizeLine; decide, fun t3 ht3 => ⟨by show 1 ≤ sizeLine; decide, fun t4 ht4 => ?_⟩⟩⟩⟩⟩
      have s1 := same_new (o := .lst [.int 0]) hl1
      have s2 := same_new (o := .tup [.bl true]) ht1
      have s3 := same_new (o := .tup [.str "0"]) ht2
      have s4 := same_new (o := .tup [.int 1000001]) ht3
      have s5 := same_new (o := .tup [.int 0]) ht4
      refine ⟨t4, 51, [.int 0], rfl, rfl, tupAt upd_same, by simp, by decide, by decide, by decide, fun t5 ht5 => ?_⟩
      have s6 := same_new (o := .tup (List.replicate ((51 : Int)).toNat [V.int 0]).flatten) ht5
      intro d hd
      have s7 := same_new (o := .dK []) hd
      refine ⟨by show 1 ≤ sizeLine; decide, fun t6 ht6 => ⟨by show 9 ≤ sizeLine; decide, fun lo hlo => ?_⟩⟩
      have s8 := same_new (o := .tup [.non]) ht6
      have s9 := same_new (o := .lst [.non, .ref l1, .ref t1, .ref t2, .ref t3, .ref t5, .int 0, .ref d, .ref t6]) hlo
      have r7 := s8.trans s9
      have r6 := s7.trans r7
      have r5 := s6.trans r6
      have r4 := s5.trans r5
      have r3 := s4.trans r4
      have r2 := s3.trans r3
      have r1 := s2.trans r2
      have sB := s1.trans (s2.trans (s3.trans (s4.trans (s5.trans (s6.trans (s7.trans s8))))))
      have S3 := S20.same (sB.trans s9)
      have e51 : (List.replicate ((51 : Int)).toNat [V.int 0]).flatten = (List.replicate 51 (0 : Int)).map V.int := rep_zeros 51
      refine ⟨p, lo, _, rfl, S3.row, upd_same, (S20.same sB).neq hlo, by show 0 < 9; decide, by show 9 ≤ 1000; decide, fun iw wx H2 hwx hB2 hR2 => ?_⟩
      have np : ∀ v ∈ [V.non, .ref l1, .ref t1, .ref t2, .ref t3, .ref t5, .int 0, .ref d, .ref t6], NoI K _ v := fun v hv => by
        rcases List.mem_cons.mp hv with rfl | hv
        · exact .no .non
        rcases List.mem_cons.mp hv with rfl | hv
        · exact .no (.lst (lstAt (r1 _ _ upd_same)))
        rcases List.mem_cons.mp hv with rfl | hv
        · exact .one (tupAt (r2 _ _ upd_same)) (.bl _) rfl
        rcases List.mem_cons.mp hv with rfl | hv
        · exact .one (tupAt (r3 _ _ upd_same)) (.str _) rfl
        rcases List.mem_cons.mp hv with rfl | hv
        · exact .one (tupAt (r4 _ _ upd_same)) (.int _) (by decide)
        rcases List.mem_cons.mp hv with rfl | hv
        · exact .long (ns := List.replicate 51 0) (tupAt (r6 _ _ (by rw [upd_same, e51]))) (by decide) (by decide)
        rcases List.mem_cons.mp hv with rfl | hv
        · exact .no (.int _)
        rcases List.mem_cons.mp hv with rfl | hv
        · exact .no (.dct (r7 _ _ upd_same))
        rw [List.mem_singleton.mp hv]
        exact .one (tupAt (s9 _ _ upd_same)) .non rfl
      exact ⟨p, n, _, _, h, pg, _, _, _, _, _, _, _, _, _, _, _, _, rfl, S3.but hB2 hR2, wx, rfl, (np wx (List.mem_of_getElem? hwx)).but hB2 S3.row hR2⟩
    clear S20
    obtain ⟨p, n, vH, vP, h, pg, y2, y6, y7, y8, y9, y10, y11, y12, y13, y14, y15, y16, rfl, S21, v, e21, ni⟩ := g21
    obtain rfl : y14 = some v := Option.some.inj e21
    refine ⟨GS K (tabsL P1) a (fun p n vH vP pg H ys => ∃ v, NoI K H v ∧ ∃ (o fa fb : Addr) (cl cl2 : CL), ys[9]? = some (some (.ref o)) ∧ H o = some (.lst [.ref fa, .ref fb]) ∧ LamAt (lamW 4) ["one", "other", "third", "fourth"] [.int (n : Int), vP, v, .non] cl fa H ∧ LamAt (lamW 5) ["one", "other", "third", "fourth"] [vH, vP, v, .non] cl2 fb H), fun σ22 H22 g22 => ?_, ?_⟩
    case refine_2 =>
      refine ⟨_, rfl, _, rfl, _, rfl, .int (n : Int), vP, v, .non, rfl, S21.tb, fun lst f1 f2 f3 f4 f5 cl H1 ext tb1 hl st m1 m2 m3 m4 m5 => ⟨lst, _, 3, .ref f4, rfl, rfl, lstAt hl, rfl, ?_⟩⟩
      have S1 := S21.ext ext tb1
      refine ⟨_, rfl, _, rfl, _, rfl, vH, vP, v, .non, rfl, S1.tb, fun lst2 g1 g2 g3 g4 g5 cl2 H2 ext2 tb2 hl2 st2 k1 k2 k3 k4 k5 => ⟨lst2, _, 4, .ref g5, rfl, rfl, lstAt hl2, rfl, by show 2 ≤ sizeLine; decide, fun o ho => ?_⟩⟩
      have S2 := S1.ext ext2 tb2
      have s3 := same_new (o := .lst [.ref f4, .ref g5]) ho
      exact ⟨p, n, _, _, h, pg, _, _, _, _, _, _, _, _, _, _, _, _, rfl, S2.same s3, v, ((ni.ext ext).ext ext2).ext (same_ext s3), o, f4, g5, cl, cl2, rfl, upd_same, (m4.ext ext2).same s3, k5.same s3⟩
    clear S21 ni e21
    obtain ⟨p, n, vH, vP, h, pg, y2, y6, y7, y8, y9, y10, y11, y12, y13, y14, y15, y16, rfl, S22, v, ni, o, fa, fb, cl, cl2, e22, el, ma, mb⟩ := g22
    obtain rfl : y15 = some (.ref o) := Option.some.inj e22
    refine ⟨GS K (tabsL P1) a (fun _ _ _ _ _ _ _ => True), fun σ23 H23 g23 => ?_, ?_⟩
    case refine_2 =>
      have n2 := S22.hb.lo
      have n5 := S22.hb.hi
      have h8 := S22.l8
      have h1 := S22.l1
      have hkP := hk_pg S22.hP
      have gS : pgBad (n : Int) 200 false (some (pg.map insV)) = none := pg_fine h1 (by omega) (S22.okr false)
      have gR : pgBad (n : Int) 4000 true (some (pg.map insV)) = none := pg_fine h1 (by omega) (S22.okr true)
      obtain ⟨wos, hkH, hbH, hlH⟩ := S22.hk
      obtain ⟨wo, hwo, hbad⟩ := ni
      refine ⟨_, rfl, o, rfl, ⟨_, lstAt el⟩, fun D hD => ?_⟩
      refine lc_ref (fun _ v => v = .str "inputs") (fun H H' v f z => z) (lstAt el) (by show 2 ≤ 1000; decide) hD (fun i x H' hx sm Q Ex hq => ?_) (fun H' ys sm eD len all => ?_)
      · match i, hx with
        | 0, hx =>
          cases Option.some.inj hx
          exact ref_word (b := 3) rfl rfl K3 (rdyN (lokW4 A4) (ma.same sm) (fun Q E e => ⟨.int (n : Int), vP, v, .non, rfl, .int _, .inr ⟨(n : Int), rfl, in_places n2 n5, _, (hkP.on sm).era (ma.same sm).stand, .inr ⟨gS, wo, (hwo.on sm).era (ma.same sm).stand, .inl ⟨hbad, e⟩⟩⟩⟩)) hq
        | 1, hx =>
          cases Option.some.inj hx
          exact ref_word (b := 3) rfl rfl K3 (rdyN (lokW5 A5) (mb.same sm) (fun Q E e => ⟨vH, vP, v, .non, rfl, .inr ⟨wos, (hkH.on sm).era (mb.same sm).stand, hbH, _, (hkP.on sm).era (mb.same sm).stand, .inr ⟨by rw [hlH]; exact gR, wo, (hwo.on sm).era (mb.same sm).stand, .inl ⟨hbad, e⟩⟩⟩⟩)) hq
        | i + 2, hx => simp at hx
      · have sx := sm
        refine ⟨by show 1 ≤ sizeLine; decide, fun l hl' => ?_⟩
        have s4 := same_new (o := .lst [.str "inputs"]) hl'
        refine ⟨l, 2, [.str "inputs"], rfl, rfl, upd_same, by decide, by decide, by show 1 * 2 ≤ sizeLine; decide +kernel, fun l2 hl2 => ?_⟩
        have s5 := same_new (o := .lst (List.replicate ((2 : Int)).toNat [V.str "inputs"]).flatten) hl2
        have s35 := s4.trans s5
        obtain ⟨d, d1, d2, shd, ee⟩ := word_data (K := K) 2 "inputs" ⟨by decide +kernel, by decide +kernel⟩ (lstAt (s35 _ _ eD)) len all (zs := [V.str "inputs", V.str "inputs"]) (lstAt (upd_same (a := l2))) rfl (fun y hy => by simpa using hy)
        refine ⟨d, d, d1, d2, shd, shd, _, rfl, ifF (by rw [ee]; rfl) ?_⟩
        exact ⟨p, n, _, _, h, pg, _, _, _, _, _, _, _, _, _, _, _, _, rfl, (S22.same sx).same s35, True.intro⟩
    clear S22 ni e22 el ma mb
    obtain ⟨p, n, vH, vP, h, pg, y2, y6, y7, y8, y9, y10, y11, y12, y13, y14, y15, y16, rfl, S23, _⟩ := g23
    -- no number of steps
    refine ⟨GS K (tabsL P1) a (fun p n vH vP pg H ys => ∃ (t : Addr) (x y : V), ys[10]? = some (some (.ref t)) ∧ SqT K H t [x, y] ∧ Sw K H x ∧ Sw K H y ∧ inV2 0 5000 x = false ∧ inV2 0 100000 y = false), fun σ24 H24 g24 => ?_, ?_⟩
    case refine_2 =>
      refine ⟨_, rfl, by show 2 ≤ sizeLine; decide, fun t1 ht1 => ⟨by show 2 ≤ sizeLine; decide, fun t2 ht2 => ⟨0, 1, rfl, rfl, 0, 1, rfl, rfl, by show 2 ≤ sizeLine; decide, fun t3 ht3 => ⟨by show 2 ≤ sizeLine; decide, fun t4 ht4 => ⟨by show 2 ≤ sizeLine; decide, fun t5 ht5 => ⟨by show 5 ≤ sizeLine; decide, fun lo hlo => ?_⟩⟩⟩⟩⟩⟩
      have s1 := same_new (o := .tup [.non, .non]) ht1
      have s2 := same_new (o := .tup [.bl true, .bl true]) ht2
      have s3 := same_new (o := .tup [.int (0 - 1), .int (0 - 1)]) ht3
      have s4 := same_new (o := .tup [.int 5001, .int 100001]) ht4
      have s5 := same_new (o := .tup [.str "1", .str "1"]) ht5
      have s6 := same_new (o := .lst [.ref t1, .ref t2, .ref t3, .ref t4, .ref t5]) hlo
      have r4 := s5.trans s6
      have r3 := s4.trans r4
      have r2 := s3.trans r3
      have r1 := s2.trans r2
      have sB := s1.trans (s2.trans (s3.trans (s4.trans s5)))
      have S3 := S23.same (sB.trans s6)
      refine ⟨p, lo, _, rfl, S3.row, upd_same, (S23.same sB).neq hlo, by show 0 < 5; decide, by show 5 ≤ 1000; decide, fun iw wx H2 hwx hB2 hR2 => ?_⟩
      have np : ∀ v ∈ [V.ref t1, .ref t2, .ref t3, .ref t4, .ref t5], MoP K _ v := fun v hv => by
        rcases List.mem_cons.mp hv with rfl | hv
        · exact ⟨t1, _, _, rfl, tupAt (r1 _ _ upd_same), .non, .non, rfl, rfl⟩
        rcases List.mem_cons.mp hv with rfl | hv
        · exact ⟨t2, _, _, rfl, tupAt (r2 _ _ upd_same), .bl _, .bl _, rfl, rfl⟩
        rcases List.mem_cons.mp hv with rfl | hv
        · exact ⟨t3, _, _, rfl, tupAt (r3 _ _ upd_same), .int _, .int _, by decide, by decide⟩
        rcases List.mem_cons.mp hv with rfl | hv
        · exact ⟨t4, _, _, rfl, tupAt (r4 _ _ upd_same), .int _, .int _, by decide, by decide⟩
        rw [List.mem_singleton.mp hv]
        exact ⟨t5, _, _, rfl, tupAt (s6 _ _ upd_same), .str _, .str _, rfl, rfl⟩
      obtain ⟨t, x, y, rfl, hS, hx, hy, bx, by_⟩ := np wx (List.mem_of_getElem? hwx)
      exact ⟨p, n, _, _, h, pg, _, _, _, _, _, _, _, _, _, _, _, _, rfl, S3.but hB2 hR2, t, x, y, rfl, (S3.row.fix hB2).tups _ _ hS, hx.but hB2 S3.row hR2, hy.but hB2 S3.row hR2, bx, by_⟩
    clear S23
    obtain ⟨p, n, vH, vP, h, pg, y2, y6, y7, y8, y9, y10, y11, y12, y13, y14, y15, y16, rfl, S24, tm, x, y, e24, hM, hx, hy, bx, by_⟩ := g24
    obtain rfl : y16 = some (.ref tm) := Option.some.inj e24
    refine ⟨GS K (tabsL P1) a (fun p n vH vP pg H ys => ∃ (x y v w : V), Sw K H x ∧ Sw K H y ∧ inV2 0 5000 x = false ∧ inV2 0 100000 y = false ∧ Wd K H v (some []) ∧ Wd K H w (some []) ∧ ∃ (o fa fb : Addr) (cl cl2 : CL), ys[9]? = some (some (.ref o)) ∧ H o = some (.lst [.ref fa, .ref fb]) ∧ LamAt (lamW 4) ["one", "other", "third", "fourth"] [.int (n : Int), vP, v, x] cl fa H ∧ LamAt (lamW 5) ["one", "other", "third", "fourth"] [vH, vP, w, y] cl2 fb H), fun σ25 H25 g25 => ?_, ?_⟩
    case refine_2 =>
      refine ⟨_, rfl, _, rfl, Nat.zero_le _, fun t1 ht1 => ⟨_, rfl, tm, _, 0, x, rfl, rfl, onT (same_new ht1) hM, rfl, ?_⟩⟩
      have s1 := same_new (o := .tup []) ht1
      have S0 := S24.same s1
      have w1 : Wd K (upd H24 t1 (.tup [])) (.ref t1) (some []) := wd_ints (ns := []) (tupAt (upd_same (a := t1))) (by decide)
      refine ⟨.int (n : Int), vP, .ref t1, x, rfl, S0.tb, fun lst f1 f2 f3 f4 f5 cl H1 ext tb1 hl st m1 m2 m3 m4 m5 => ⟨lst, _, 3, .ref f4, rfl, rfl, lstAt hl, rfl, ?_⟩⟩
      have S1 := S0.ext ext tb1
      have hM1 := extN_tups ext _ _ (onT s1 hM)
      refine ⟨_, rfl, _, rfl, Nat.zero_le _, fun t2 ht2 => ⟨_, rfl, tm, _, 1, y, rfl, rfl, onT (same_new ht2) hM1, rfl, ?_⟩⟩
      have s2 := same_new (o := .tup []) ht2
      have S1' := S1.same s2
      have w2 : Wd K (upd H1 t2 (.tup [])) (.ref t2) (some []) := wd_ints (ns := []) (tupAt (upd_same (a := t2))) (by decide)
      refine ⟨vH, vP, .ref t2, y, rfl, S1'.tb, fun lst2 g1 g2 g3 g4 g5 cl2 H2 ext2 tb2 hl2 st2 k1 k2 k3 k4 k5 => ⟨lst2, _, 4, .ref g5, rfl, rfl, lstAt hl2, rfl, by show 2 ≤ sizeLine; decide, fun o ho => ?_⟩⟩
      have S2 := S1'.ext ext2 tb2
      have s3 := same_new (o := .lst [.ref f4, .ref g5]) ho
      have x3 := same_ext s3
      exact ⟨p, n, _, _, h, pg, _, _, _, _, _, _, _, _, _, _, _, _, rfl, S2.same s3, x, y, .ref t1, .ref t2, ((((hx.on s1).ext ext).on s2).ext ext2).on s3, ((((hy.on s1).ext ext).on s2).ext ext2).on s3, bx, by_, ((((w1.ext ext).on s2).ext ext2).on s3), ((w2.ext ext2).on s3), o, f4, g5, cl, cl2, rfl, upd_same, ((m4.same s2).ext ext2).same s3, k5.same s3⟩
    clear S24 e24 hM hx hy
    obtain ⟨p, n, vH, vP, h, pg, y2, y6, y7, y8, y9, y10, y11, y12, y13, y14, y15, y16, rfl, S25, x, y, v, u, swx, swy, bx, by_, wv, wu, o, fa, fb, cl, cl2, e25, el, ma, mb⟩ := g25
    obtain rfl : y15 = some (.ref o) := Option.some.inj e25
    · 
      have n2 := S25.hb.lo
      have n5 := S25.hb.hi
      have h8 := S25.l8
      have h1 := S25.l1
      have hkP := hk_pg S25.hP
      have gS : pgBad (n : Int) 200 false (some (pg.map insV)) = none := pg_fine h1 (by omega) (S25.okr false)
      have gR : pgBad (n : Int) 4000 true (some (pg.map insV)) = none := pg_fine h1 (by omega) (S25.okr true)
      obtain ⟨wos, hkH, hbH, hlH⟩ := S25.hk
      refine ⟨_, rfl, o, rfl, ⟨_, lstAt el⟩, fun D hD => ?_⟩
      refine lc_ref (fun _ v => v = .str "number") (fun H H' v f z => z) (lstAt el) (by show 2 ≤ 1000; decide) hD (fun i x H' hx sm Q Ex hq => ?_) (fun H' ys sm eD len all => ?_)
      · match i, hx with
        | 0, hx =>
          cases Option.some.inj hx
          exact ref_word (b := 1) rfl rfl K1 (rdyN (lokW4 A4) (ma.same sm) (fun Q E e => ⟨.int (n : Int), vP, v, x, rfl, .int _, .inr ⟨(n : Int), rfl, in_places n2 n5, _, (hkP.on sm).era (ma.same sm).stand, .inr ⟨gS, some [], (wv.on sm).era (ma.same sm).stand, .inr ⟨rfl, (swx.on sm).era (ma.same sm).stand, bx, e⟩⟩⟩⟩)) hq
        | 1, hx =>
          cases Option.some.inj hx
          exact ref_word (b := 1) rfl rfl K1 (rdyN (lokW5 A5) (mb.same sm) (fun Q E e => ⟨vH, vP, u, y, rfl, .inr ⟨wos, (hkH.on sm).era (mb.same sm).stand, hbH, _, (hkP.on sm).era (mb.same sm).stand, .inr ⟨by rw [hlH]; exact gR, some [], (wu.on sm).era (mb.same sm).stand, .inr ⟨rfl, (swy.on sm).era (mb.same sm).stand, .inl ⟨by_, e⟩⟩⟩⟩⟩)) hq
        | i + 2, hx => simp at hx
      · have sx := sm
        refine ⟨by show 1 ≤ sizeLine; decide, fun l hl' => ?_⟩
        have s4 := same_new (o := .lst [.str "number"]) hl'
        refine ⟨l, 2, [.str "number"], rfl, rfl, upd_same, by decide, by decide, by show 1 * 2 ≤ sizeLine; decide +kernel, fun l2 hl2 => ?_⟩
        have s5 := same_new (o := .lst (List.replicate ((2 : Int)).toNat [V.str "number"]).flatten) hl2
        have s35 := s4.trans s5
        obtain ⟨d, d1, d2, shd, ee⟩ := word_data (K := K) 2 "number" ⟨by decide +kernel, by decide +kernel⟩ (lstAt (s35 _ _ eD)) len all (zs := [V.str "number", V.str "number"]) (lstAt (upd_same (a := l2))) rfl (fun y hy => by simpa using hy)
        refine ⟨d, d, d1, d2, shd, shd, ?_⟩
        rw [ee]
        exact q _
end
end RH
set_option Elab.async false
set_option linter.all false
set_option maxRecDepth 100000
set_option maxHeartbeats 2000000
namespace RH
open PySem PySem.Spec PyProof.Rows L2
open LamX (Tabs TabS TabB ExtN CodeO codeO_ne)
/-! ### what the top has left -/
theorem df_mk {K : PySem.W.Frag} {h : Heap} {mg : Str → Option Value} (X : K.In h) (G : h.Ns mainGlobals mg) {x : Str} {st : Stmt} {ps : List Str} {f : Addr} {od an : Option Addr} {sl : Array (Option Value)} {oc kV dc pm cd ct : Value}
    (a : PySem.W.nsIn K mainGlobals x = some (some (.ref f))) (l : K.lookup f = some ⟨oc, od, .func (PySem.W.fnOf x x (defArgs st) (defBody st) (defScope st) .none kV dc pm an cd ct), sl⟩) (c : PySem.W.codeIn K cd x = true) (k : PySem.W.keepIn K (.ref f) = true)
    (b : ∀ (kV doc pm : Value) (an : Option Addr) (cdv ct : Value) (us : List Value), us.length = ps.length → bindArgs (PySem.W.fnOf x x (defArgs st) (defBody st) (defScope st) .none kV doc pm an cdv ct) ⟨us, []⟩ = pure (ps.zip us)) : Df K mg x st ps := by
  have F := fun_mk (st := st) l c k
  exact ⟨f, _, F, PySem.W.mg_of X G a, F.binds b⟩
theorem dfc_mk {K : PySem.W.Frag} {h : Heap} {mg : Str → Option Value} (X : K.In h) (G : h.Ns mainGlobals mg) {x : Str} {st : Stmt} {ps : List Str} {f c : Addr} {od an : Option Addr} {sl : Array (Option Value)} {oc kV dc pm ct : Value}
    (a : PySem.W.nsIn K mainGlobals x = some (some (.ref f))) (l : K.lookup f = some ⟨oc, od, .func (PySem.W.fnOf x x (defArgs st) (defBody st) (defScope st) .none kV dc pm an (.ref c) ct), sl⟩) (cc : PySem.W.codeIn K (.ref c) x = true) (k : PySem.W.keepIn K (.ref f) = true)
    (b : ∀ (kV doc pm : Value) (an : Option Addr) (cdv ct : Value) (us : List Value), us.length = ps.length → bindArgs (PySem.W.fnOf x x (defArgs st) (defBody st) (defScope st) .none kV doc pm an cdv ct) ⟨us, []⟩ = pure (ps.zip us)) : DfC K mg x st ps c := by
  have F := fun_mk (st := st) l cc k
  exact ⟨f, oc, od, kV, dc, pm, an, ct, sl, l, cc, k, PySem.W.mg_of X G a, F.binds b⟩
/-- where a code object's table stands -/
def tabOf (o : Obj) : Option Value := match o.data with
  | .fields vs => vs.toList[11]?
  | _ => none
/-- a maker: its code object, its table -/
structure Mkr (K : PySem.W.Frag) (h : Heap) (mg : Str → Option Value) (x : Str) (st : Stmt) (ps : List Str) (c p : Addr) : Prop where
  df : DfC K mg x st ps c
  hd : PySem.W.CodeHd h c p
  no : K.lookup p = none
  tab : h.get? p = some (PySem.W.tabObj #[])
theorem mkr {K : PySem.W.Frag} {h : Heap} {mg : Str → Option Value} (X : K.In h) (G : h.Ns mainGlobals mg) {x : Str} {st : Stmt} {ps : List Str} {f c p : Addr} {od an : Option Addr} {sl : Array (Option Value)} {oc kV dc pm ct : Value} {o : Obj}
    (a : PySem.W.nsIn K mainGlobals x = some (some (.ref f))) (l : K.lookup f = some ⟨oc, od, .func (PySem.W.fnOf x x (defArgs st) (defBody st) (defScope st) .none kV dc pm an (.ref c) ct), sl⟩) (cc : PySem.W.codeIn K (.ref c) x = true) (k : PySem.W.keepIn K (.ref f) = true)
    (lc : K.lookup c = some o) (t : tabOf o = some (.ref p)) (d : ∀ K' : PySem.W.Frag, K'.lookup c = some o → PySem.W.codeHdIn K' c p = true) (e : K.lookup p = none) (g : h.get? p = some (PySem.W.tabObj #[]))
    (b : ∀ (kV doc pm : Value) (an : Option Addr) (cdv ct : Value) (us : List Value), us.length = ps.length → bindArgs (PySem.W.fnOf x x (defArgs st) (defBody st) (defScope st) .none kV doc pm an cdv ct) ⟨us, []⟩ = pure (ps.zip us)) :
    Mkr K h mg x st ps c p := ⟨dfc_mk X G a l cc k b, PySem.W.codeHd_of_K X (d K lc), e, g⟩
theorem two {A B : Addr → Addr → Prop} {c p c2 p2 : Addr} (a : A c p) (b : B c2 p2) (n : (p != p2) = true) : ∃ c p c2 p2, A c p ∧ B c2 p2 ∧ p ≠ p2 := ⟨c, p, c2, p2, a, b, fun z => by
  rw [z] at n
  simp at n⟩
/-- the written part that is meant -/
abbrev kOf {K : PySem.W.Frag} {h : Heap} (_ : K.In h) : PySem.W.Frag := K
theorem const_mk {K : PySem.W.Frag} {h : Heap} {mg : Str → Option Value} (X : K.In h) (G : h.Ns mainGlobals mg) {x : Str} {i : Int} {t : Tok} (a : PySem.W.nsIn K mainGlobals x = some (some (.int i t))) : ∃ t, mg x = some (.int i t) := ⟨t, PySem.W.mg_of X G a⟩
/-- what the end asks of the law -/
def spEnd (K : PySem.W.Frag) (T : List (Addr × Str)) : Sp := fun vs H Q _ => ∃ (a : Addr) (ns : List Int), vs = [.ref a] ∧ SqL K H a (ns.map V.int) ∧ Tabs T H ∧ ∀ H', Q (.bl true) H'
/-- a list that no one writes may be told by its very object -/
theorem frozen {P : Program} {w : World} {K : PySem.W.Frag} {mg : Str → Option Value} {base : Heap} {k : Nat} {f : Addr} {fd : FuncData} {T : List (Addr × Str)} (F : FnOk P w K mg base CX0 k f fd ["script"] (spLaw K T)) : FnOk P w K mg base CX0 k f fd ["script"] (spEnd K T) := by
  refine ⟨fun vs H Q E h => ?_, fun A outer s H args us vs Q E hr e0 hb r h => ?_⟩
  · obtain ⟨a, ns, rfl, _⟩ := h
    rfl
  obtain ⟨a, ns, rfl, hS, hT, q⟩ := h
  rcases hS with (hS | ⟨o, hS⟩) | hS
  · obtain ⟨z, its, n, rv, ho⟩ := (show ObjOk P w H s.heap a (.lst (ns.map V.int)) from e0.hok a _ hS)
    have hne : ∀ b, H b = none ↔ upd H a (.frz { cls := .type "list", data := .seq its.toArray n } (.lst (ns.map V.int))) b = none := fun b => by
      by_cases e : b = a
      · subst e
        rw [hS, upd_same]
        exact ⟨fun z => (nomatch z), fun z => (nomatch z)⟩
      · rw [upd_ne e]
    have ext : ∀ b u, H b = some u → (∀ xs, u ≠ .lst xs) → upd H a (.frz { cls := .type "list", data := .seq its.toArray n } (.lst (ns.map V.int))) b = some u := fun b u e nu => by
      rw [upd_ne (fun z => by subst z; rw [hS] at e; exact nu _ (Option.some.inj e).symm)]
      exact e
    have hok : HOk P w (upd H a (.frz { cls := .type "list", data := .seq its.toArray n } (.lst (ns.map V.int)))) s.heap := fun b u e => by
      by_cases eb : b = a
      · subst eb
        rw [upd_same] at e
        cases e
        exact ⟨ho, z, its, n, rv, ho⟩
      · rw [upd_ne eb] at e
        exact (e0.hok b u e).stay (fun c v _ h => h) (fun c h => ext _ _ h (fun xs z => nomatch z)) (fun c xs h => ext _ _ h (fun xs z => nomatch z))
    have e1 : Env0 P w K mg base A outer s (upd H a (.frz { cls := .type "list", data := .seq its.toArray n } (.lst (ns.map V.int)))) :=
      ⟨e0.frames, e0.mod, fun b o e => ⟨(e0.bs b o e).1, (hne b).mp (e0.bs b o e).2⟩, e0.bsz, e0.funs, fun b h => (hne b).mp (e0.frf b h), hok, e0.bare⟩
    have hT1 : Tabs T (upd H a (.frz { cls := .type "list", data := .seq its.toArray n } (.lst (ns.map V.int)))) := Fix.tabs (fun b u e nu => ext b u e nu) hT
    refine codeAny_mono (F.run A outer s _ args us [.ref a] Q E hr e1 hb r ⟨a, ns, rfl, .inl ⟨_, upd_same⟩, hT1, q⟩) fun rr s' h => ?_
    cases rr with
    | error e => exact h
    | ok fl =>
      cases fl with
      | ret u =>
        obtain ⟨v, H', os, bare, un, hok', r', q'⟩ := h
        refine ⟨v, H', os, bare, ⟨fun b o e n => un.keep b o e ((hne b).mp n), fun b o e n => un.slot b o e ((hne b).mp n), fun b o e n => un.free b o e ((hne b).mp n), un.there, fun b xs e => un.tups b xs (ext b _ e (fun ys z => nomatch z)), fun b o u e => un.frzs b o u (ext b _ e (fun ys z => nomatch z)), fun b ps e => un.tbls b ps (ext b _ e (fun ys z => nomatch z))⟩, hok', r', q'⟩
      | next => exact h
      | brk => exact h
      | cont => exact h
  · exact F.run A outer s H args us [.ref a] Q E hr e0 hb r ⟨a, ns, rfl, .inl ⟨o, hS⟩, hT, q⟩
  · exact F.run A outer s H args us [.ref a] Q E hr e0 hb r ⟨a, ns, rfl, .inr fun H' => .inr hS, hT, q⟩
theorem ctup_mk {K : PySem.W.Frag} {h : Heap} {mg : Str → Option Value} (X : K.In h) (G : h.Ns mainGlobals mg) {x : Str} {zs : List Str} {a : Addr} {o : Obj} {its : List Value} {n : Nat} (ha : PySem.W.nsIn K mainGlobals x = some (some (.ref a))) (l : K.lookup a = some o) (c : o.cls = .type "tuple") (d : o.data = .seq its.toArray n) (s : its.length ≤ 100) (v : Vals (zs.map V.str) its) : CTup K mg x zs :=
  ⟨a, o, its.toArray, n, PySem.W.mg_of X G ha, l, c, d, by have : (100 : Nat) ≤ sizeLine := (by rw [sizeLine_eq]; decide +kernel); simpa using Nat.le_trans s this, by simpa using v⟩
/-- the code object's file is the law's -/
def fileV (P : Program) : Option Value → Bool
  | some (Value.str file _) => (P.main.file : Str) == file
  | _ => false
def fileOk (P : Program) (o : Obj) : Bool := match o.data with
  | Data.fields vs => fileV P vs[2]?
  | _ => false
theorem fileOk_ex {P : Program} {K : PySem.W.Frag} {c : Addr} {o : Obj} (l : K.lookup c = some o) (h : fileOk P o = true) : ∃ (ccl : Value) (cdd : Option Addr) (vs : Array Value) (ccs : Array (Option Value)) (file : Str) (tf : Tok), K.lookup c = some ⟨ccl, cdd, .fields vs, ccs⟩ ∧ vs[2]? = some (.str file tf) ∧ ((P.main.file : Str) == file) = true := by
  obtain ⟨a, b, d, e⟩ := o
  unfold fileOk at h
  dsimp only at h
  split at h
  · rename_i vs0 vs
    cases hv : vs[2]? with
    | none =>
      rw [hv] at h
      cases h
    | some u =>
      rw [hv] at h
      cases u <;> first | (cases h; done) | skip
      rename_i file tf
      exact ⟨a, b, vs, e, file, tf, l, hv, h⟩
  · cases h
/-- the errors, as the top has left them -/
theorem errs_mk {K : PySem.W.Frag} {h : Heap} {mg : Str → Option Value} (P : Program) (X : K.In h) (G : h.Ns mainGlobals mg) {S c0 c1 c2 c3 : Addr} (aS : PySem.W.nsIn K mainGlobals "ShelfError" = some (some (.ref S)))
    (a0 : PySem.W.nsIn K mainGlobals "BadHabit" = some (some (.ref c0)))
    (a1 : PySem.W.nsIn K mainGlobals "BadNumber" = some (some (.ref c1)))
    (a2 : PySem.W.nsIn K mainGlobals "BadProgram" = some (some (.ref c2)))
    (a3 : PySem.W.nsIn K mainGlobals "BadInputs" = some (some (.ref c3)))
    (kp0 : PySem.W.keepIn K (.ref c0) = true) (b0 : PySem.W.subIn K (.ref c0) (.type "BaseException") = some true) (t0 : PySem.W.typeIn K (.ref c0) = some (.type "type"))
    (xg0 : PySem.W.findIn K (.ref c0) "__getattribute__" = some (some (.builtin "BaseException.__getattribute__"))) (xk0 : PySem.W.findIn K (.ref c0) "__getattr__" = some none) (xd0 : PySem.W.hasDictIn K c0 = true) (xa0 : PySem.W.findIn K (.ref c0) "__class__" = some (some (.builtin "object.__class__"))) (xm0 : PySem.W.mroIn K c0 (.type "object") = some true) (es0 : PySem.W.exmOne K (.ref c0) (.ref S) = some true)
    (o0_0 : PySem.W.kitOne K (.ref c0) (.ref c0) = some true)
    (o0_1 : PySem.W.kitOne K (.ref c0) (.ref c1) = some false)
    (o0_2 : PySem.W.kitOne K (.ref c0) (.ref c2) = some false)
    (o0_3 : PySem.W.kitOne K (.ref c0) (.ref c3) = some false)
    (q1 : PySem.W.excIn K c1 [.type "ValueError", .type "Exception", .type "BaseException", .type "object"] "ValueError.__new__" = true)
    (kp1 : PySem.W.keepIn K (.ref c1) = true) (b1 : PySem.W.subIn K (.ref c1) (.type "BaseException") = some true) (t1 : PySem.W.typeIn K (.ref c1) = some (.type "type"))
    (xg1 : PySem.W.findIn K (.ref c1) "__getattribute__" = some (some (.builtin "BaseException.__getattribute__"))) (xk1 : PySem.W.findIn K (.ref c1) "__getattr__" = some none) (xd1 : PySem.W.hasDictIn K c1 = true) (xa1 : PySem.W.findIn K (.ref c1) "__class__" = some (some (.builtin "object.__class__"))) (xm1 : PySem.W.mroIn K c1 (.type "object") = some true) (es1 : PySem.W.exmOne K (.ref c1) (.ref S) = some true)
    (o1_0 : PySem.W.kitOne K (.ref c1) (.ref c0) = some false)
    (o1_1 : PySem.W.kitOne K (.ref c1) (.ref c1) = some true)
    (o1_2 : PySem.W.kitOne K (.ref c1) (.ref c2) = some false)
    (o1_3 : PySem.W.kitOne K (.ref c1) (.ref c3) = some false)
    (kp2 : PySem.W.keepIn K (.ref c2) = true) (b2 : PySem.W.subIn K (.ref c2) (.type "BaseException") = some true) (t2 : PySem.W.typeIn K (.ref c2) = some (.type "type"))
    (xg2 : PySem.W.findIn K (.ref c2) "__getattribute__" = some (some (.builtin "BaseException.__getattribute__"))) (xk2 : PySem.W.findIn K (.ref c2) "__getattr__" = some none) (xd2 : PySem.W.hasDictIn K c2 = true) (xa2 : PySem.W.findIn K (.ref c2) "__class__" = some (some (.builtin "object.__class__"))) (xm2 : PySem.W.mroIn K c2 (.type "object") = some true) (es2 : PySem.W.exmOne K (.ref c2) (.ref S) = some true)
    (o2_0 : PySem.W.kitOne K (.ref c2) (.ref c0) = some false)
    (o2_1 : PySem.W.kitOne K (.ref c2) (.ref c1) = some false)
    (o2_2 : PySem.W.kitOne K (.ref c2) (.ref c2) = some true)
    (o2_3 : PySem.W.kitOne K (.ref c2) (.ref c3) = some false)
    (q3 : PySem.W.excIn K c3 [.type "ValueError", .type "Exception", .type "BaseException", .type "object"] "ValueError.__new__" = true)
    (kp3 : PySem.W.keepIn K (.ref c3) = true) (b3 : PySem.W.subIn K (.ref c3) (.type "BaseException") = some true) (t3 : PySem.W.typeIn K (.ref c3) = some (.type "type"))
    (xg3 : PySem.W.findIn K (.ref c3) "__getattribute__" = some (some (.builtin "BaseException.__getattribute__"))) (xk3 : PySem.W.findIn K (.ref c3) "__getattr__" = some none) (xd3 : PySem.W.hasDictIn K c3 = true) (xa3 : PySem.W.findIn K (.ref c3) "__class__" = some (some (.builtin "object.__class__"))) (xm3 : PySem.W.mroIn K c3 (.type "object") = some true) (es3 : PySem.W.exmOne K (.ref c3) (.ref S) = some true)
    (o3_0 : PySem.W.kitOne K (.ref c3) (.ref c0) = some false)
    (o3_1 : PySem.W.kitOne K (.ref c3) (.ref c1) = some false)
    (o3_2 : PySem.W.kitOne K (.ref c3) (.ref c2) = some false)
    (o3_3 : PySem.W.kitOne K (.ref c3) (.ref c3) = some true)
    (xn : PySem.W.specialIn K (.builtin "object.__class__") "__get__" = some (some (.builtin "getset_descriptor.__get__"))) (xt : PySem.W.takesIn K (.builtin "object.__class__") = some true)
    {nm0 q0 : Str} {N0 : Addr} {bs0 bm0 : List Value} {sn0 : List Str} {sub0 : List Value} {ab0 : Bool} {col0 : Option Bool} {dd0 : Option Addr} {m0_0 m1_0 m2_0 m3_0 m5_0 : Option Value} {f0 cc0 cda0 : Addr} {oc0 kV0 dc0 pm0 ct0 ccl0 : Value} {od0 an0 cdd0 : Option Addr} {sl0 csl0 : Array (Option Value)} {oo0 : Obj}
    (yL0 : K.lookup c0 = some (excClassObj nm0 q0 c0 N0 bs0 bm0 true sn0 sub0 ab0 col0 dd0 m0_0 m1_0 m2_0 m3_0 m5_0 "ValueError.__new__")) (yR0 : PySem.HandSPX.refsVE bm0 = true) (ysa0 : PySem.W.findIn K (.ref c0) "__setattr__" = some (some (.builtin "object.__setattr__"))) (yno0 : PySem.W.findIn K (.ref c0) "place" = some none)
    (yi0 : PySem.W.findIn K (.ref c0) "__init__" = some (some (.ref f0))) (yt0 : PySem.W.typeIn K (.ref f0) = some (.type "function")) (yl0 : K.lookup f0 = some ⟨oc0, od0, .func (PySem.W.fnX "__init__" "BadHabit.__init__" (defArgs st_e_BadHabit) (defBody st_e_BadHabit) (defScope st_e_BadHabit) [("__class__", cc0)] .none kV0 dc0 pm0 an0 (.ref cda0) ct0), sl0⟩) (yc0 : PySem.W.codeIn K (.ref cda0) "BadHabit.__init__" = true)
    (yo0 : K.lookup cda0 = some oo0) (yf0 : fileOk P oo0 = true) (yk0 : K.lookup cc0 = some ⟨ccl0, cdd0, .cell (some (.ref c0)), csl0⟩) (ym0 : PySem.W.mroIn K c0 (.ref c0) = some true)
    (ys0 : PySem.W.ks_superIn K c0 c0 "__init__" = some (some (.builtin "ValueError.__init__"))) (yv0 : PySem.W.subIn K (.ref c0) (.type "ValueError") = some true)
    {nm2 q2 : Str} {N2 : Addr} {bs2 bm2 : List Value} {sn2 : List Str} {sub2 : List Value} {ab2 : Bool} {col2 : Option Bool} {dd2 : Option Addr} {m0_2 m1_2 m2_2 m3_2 m5_2 : Option Value} {f2 cc2 cda2 : Addr} {oc2 kV2 dc2 pm2 ct2 ccl2 : Value} {od2 an2 cdd2 : Option Addr} {sl2 csl2 : Array (Option Value)} {oo2 : Obj}
    (yL2 : K.lookup c2 = some (excClassObj nm2 q2 c2 N2 bs2 bm2 true sn2 sub2 ab2 col2 dd2 m0_2 m1_2 m2_2 m3_2 m5_2 "ValueError.__new__")) (yR2 : PySem.HandSPX.refsVE bm2 = true) (ysa2 : PySem.W.findIn K (.ref c2) "__setattr__" = some (some (.builtin "object.__setattr__"))) (yno2 : PySem.W.findIn K (.ref c2) "index" = some none)
    (yi2 : PySem.W.findIn K (.ref c2) "__init__" = some (some (.ref f2))) (yt2 : PySem.W.typeIn K (.ref f2) = some (.type "function")) (yl2 : K.lookup f2 = some ⟨oc2, od2, .func (PySem.W.fnX "__init__" "BadProgram.__init__" (defArgs st_e_BadProgram) (defBody st_e_BadProgram) (defScope st_e_BadProgram) [("__class__", cc2)] .none kV2 dc2 pm2 an2 (.ref cda2) ct2), sl2⟩) (yc2 : PySem.W.codeIn K (.ref cda2) "BadProgram.__init__" = true)
    (yo2 : K.lookup cda2 = some oo2) (yf2 : fileOk P oo2 = true) (yk2 : K.lookup cc2 = some ⟨ccl2, cdd2, .cell (some (.ref c2)), csl2⟩) (ym2 : PySem.W.mroIn K c2 (.ref c2) = some true)
    (ys2 : PySem.W.ks_superIn K c2 c2 "__init__" = some (some (.builtin "ValueError.__init__"))) (yv2 : PySem.W.subIn K (.ref c2) (.type "ValueError") = some true)
    (ya : PySem.W.nsIn K cStatics "thirdparty.any" = some none) (yg : PySem.W.nsIn K mainGlobals "super" = some none) (yp : (P.main.scope.names.lookup ("super" : Str)).isSome = false)
    : ∃ S c0 c1 c2 c3, Five mg S c0 c1 c2 c3 ∧ ExcC K c0 ∧ PySem.W.findIn K (.ref c0) "place" = some none ∧ (∀ w base, BhX P w K mg base "BadHabit" "place" c0 (spBI "place" c0)) ∧ ExcC K c2 ∧ PySem.W.findIn K (.ref c2) "index" = some none ∧ (∀ w base, BhX P w K mg base "BadProgram" "index" c2 (spBI "index" c2)) ∧ ExO K mg "BadNumber" c1 ∧ ExO K mg "BadInputs" c3 ∧ Knd K mg c0 0 ∧ Knd K mg c1 1 ∧ Knd K mg c2 2 ∧ Knd K mg c3 3 := by
  have mS := PySem.W.mg_of X G aS
  have m0 := PySem.W.mg_of X G a0
  have m1 := PySem.W.mg_of X G a1
  have m2 := PySem.W.mg_of X G a2
  have m3 := PySem.W.mg_of X G a3
  have x0 : ExcC K c0 := ⟨xg0, xk0, b0, xd0, xa0, xn, xt, xm0⟩
  have x1 : ExcC K c1 := ⟨xg1, xk1, b1, xd1, xa1, xn, xt, xm1⟩
  have x2 : ExcC K c2 := ⟨xg2, xk2, b2, xd2, xa2, xn, xt, xm2⟩
  have x3 : ExcC K c3 := ⟨xg3, xk3, b3, xd3, xa3, xn, xt, xm3⟩
  have ox0 : OexC K c0 := ⟨⟨_, _, _, _, _, _, _, _, _, _, _, _, _, _, _, yL0, yR0⟩, ysa0, b0, t0, kp0⟩
  have M0 : SupC P K mg c0 "BadHabit.__init__" st_e_BadHabit f0 _ cc0 cda0 := ⟨ox0, ⟨_, _, _, _, _, _, _, _, rfl, yl0⟩, yc0, fileOk_ex yo0 yf0, ⟨_, _, _, yk0⟩, ym0, ya, ys0, yv0, PySem.W.mg_none_of X G yg, yp⟩
  have bh0 : ∀ w base, BhX P w K mg base "BadHabit" "place" c0 (spBI "place" c0) := fun w base => ⟨ox0, m0, f0, _, ok_BadHabit M0 yno0, yi0, yt0, .all fun us hl => match us, hl with | [_, _], _ => rfl⟩
  have ox2 : OexC K c2 := ⟨⟨_, _, _, _, _, _, _, _, _, _, _, _, _, _, _, yL2, yR2⟩, ysa2, b2, t2, kp2⟩
  have M2 : SupC P K mg c2 "BadProgram.__init__" st_e_BadProgram f2 _ cc2 cda2 := ⟨ox2, ⟨_, _, _, _, _, _, _, _, rfl, yl2⟩, yc2, fileOk_ex yo2 yf2, ⟨_, _, _, yk2⟩, ym2, ya, ys2, yv2, PySem.W.mg_none_of X G yg, yp⟩
  have bh2 : ∀ w base, BhX P w K mg base "BadProgram" "index" c2 (spBI "index" c2) := fun w base => ⟨ox2, m2, f2, _, ok_BadProgram M2 yno2, yi2, yt2, .all fun us hl => match us, hl with | [_, _], _ => rfl⟩
  exact ⟨S, c0, c1, c2, c3, ⟨mS, m0, m1, m2, m3⟩, x0, yno0, bh0, x2, yno2, bh2, ⟨q1, m1, kp1, b1, t1⟩, ⟨q3, m3, kp3, b3, t3⟩, ⟨by decide, x0, ⟨S, mS, es0⟩, ⟨c0, m0, o0_0⟩, ⟨c1, m1, o0_1⟩, ⟨c2, m2, o0_2⟩, ⟨c3, m3, o0_3⟩⟩, ⟨by decide, x1, ⟨S, mS, es1⟩, ⟨c0, m0, o1_0⟩, ⟨c1, m1, o1_1⟩, ⟨c2, m2, o1_2⟩, ⟨c3, m3, o1_3⟩⟩, ⟨by decide, x2, ⟨S, mS, es2⟩, ⟨c0, m0, o2_0⟩, ⟨c1, m1, o2_1⟩, ⟨c2, m2, o2_2⟩, ⟨c3, m3, o2_3⟩⟩, ⟨by decide, x3, ⟨S, mS, es3⟩, ⟨c0, m0, o3_0⟩, ⟨c1, m1, o3_1⟩, ⟨c2, m2, o3_2⟩, ⟨c3, m3, o3_3⟩⟩⟩
/-- the class, as the top has left it -/
theorem cls_mk {K : PySem.W.Frag} {h : Heap} {mg : Str → Option Value} (X : K.In h) (G : h.Ns mainGlobals mg) {C : Addr} (aC : PySem.W.nsIn K mainGlobals "Machine" = some (some (.ref C)))
    (pg : PySem.W.plainGet K C Str.empty = true) (hd : PySem.W.hasDictIn K C = true) (po : PySem.W.plainOver K C = true) (sa : PySem.W.findIn K (.ref C) "__setattr__" = some (some (.builtin "object.__setattr__"))) (mk : PySem.W.makesIn K C = true) (kc : PySem.W.keepIn K (.ref C) = true)
    (n0 : PySem.W.findIn K (.ref C) "habit" = some none) (n1 : PySem.W.findIn K (.ref C) "program" = some none) (n2 : PySem.W.findIn K (.ref C) "inputs" = some none) (n3 : PySem.W.findIn K (.ref C) "asked" = some none) (n4 : PySem.W.findIn K (.ref C) "holding" = some none) (n5 : PySem.W.findIn K (.ref C) "hand" = some none) (n6 : PySem.W.findIn K (.ref C) "at" = some none) (n7 : PySem.W.findIn K (.ref C) "said" = some none)
    {f0 : Addr} {od0 an0 : Option Addr} {sl0 : Array (Option Value)} {oc0 kV0 dc0 pm0 cd0 ct0 : Value} (at0 : PySem.W.findIn K (.ref C) "__init__" = some (some (.ref f0))) (i0 : PySem.W.isFn K (.ref f0) = true) (l0 : K.lookup f0 = some ⟨oc0, od0, .func (PySem.W.fnOf "__init__" "Machine.__init__" (defArgs st_m___init__) (defBody st_m___init__) (defScope st_m___init__) .none kV0 dc0 pm0 an0 cd0 ct0), sl0⟩) (c0 : PySem.W.codeIn K cd0 "Machine.__init__" = true) (k0 : PySem.W.keepIn K (.ref f0) = true)
    {f1 : Addr} {od1 an1 : Option Addr} {sl1 : Array (Option Value)} {oc1 kV1 dc1 pm1 cd1 ct1 : Value} (at1 : PySem.W.findIn K (.ref C) "is_done" = some (some (.ref f1))) (i1 : PySem.W.isFn K (.ref f1) = true) (l1 : K.lookup f1 = some ⟨oc1, od1, .func (PySem.W.fnOf "is_done" "Machine.is_done" (defArgs st_m_is_done) (defBody st_m_is_done) (defScope st_m_is_done) .none kV1 dc1 pm1 an1 cd1 ct1), sl1⟩) (c1 : PySem.W.codeIn K cd1 "Machine.is_done" = true) (k1 : PySem.W.keepIn K (.ref f1) = true)
    {f2 : Addr} {od2 an2 : Option Addr} {sl2 : Array (Option Value)} {oc2 kV2 dc2 pm2 cd2 ct2 : Value} (at2 : PySem.W.findIn K (.ref C) "step" = some (some (.ref f2))) (i2 : PySem.W.isFn K (.ref f2) = true) (l2 : K.lookup f2 = some ⟨oc2, od2, .func (PySem.W.fnOf "step" "Machine.step" (defArgs st_m_step) (defBody st_m_step) (defScope st_m_step) .none kV2 dc2 pm2 an2 cd2 ct2), sl2⟩) (c2 : PySem.W.codeIn K cd2 "Machine.step" = true) (k2 : PySem.W.keepIn K (.ref f2) = true)
    {f3 : Addr} {od3 an3 : Option Addr} {sl3 : Array (Option Value)} {oc3 kV3 dc3 pm3 cd3 ct3 : Value} (at3 : PySem.W.findIn K (.ref C) "next_input" = some (some (.ref f3))) (i3 : PySem.W.isFn K (.ref f3) = true) (l3 : K.lookup f3 = some ⟨oc3, od3, .func (PySem.W.fnOf "next_input" "Machine.next_input" (defArgs st_m_next_input) (defBody st_m_next_input) (defScope st_m_next_input) .none kV3 dc3 pm3 an3 cd3 ct3), sl3⟩) (c3 : PySem.W.codeIn K cd3 "Machine.next_input" = true) (k3 : PySem.W.keepIn K (.ref f3) = true)
    {f4 : Addr} {od4 an4 : Option Addr} {sl4 : Array (Option Value)} {oc4 kV4 dc4 pm4 cd4 ct4 : Value} (at4 : PySem.W.findIn K (.ref C) "use" = some (some (.ref f4))) (i4 : PySem.W.isFn K (.ref f4) = true) (l4 : K.lookup f4 = some ⟨oc4, od4, .func (PySem.W.fnOf "use" "Machine.use" (defArgs st_m_use) (defBody st_m_use) (defScope st_m_use) .none kV4 dc4 pm4 an4 cd4 ct4), sl4⟩) (c4 : PySem.W.codeIn K cd4 "Machine.use" = true) (k4 : PySem.W.keepIn K (.ref f4) = true)
    {f5 : Addr} {od5 an5 : Option Addr} {sl5 : Array (Option Value)} {oc5 kV5 dc5 pm5 cd5 ct5 : Value} (at5 : PySem.W.findIn K (.ref C) "be_moved" = some (some (.ref f5))) (i5 : PySem.W.isFn K (.ref f5) = true) (l5 : K.lookup f5 = some ⟨oc5, od5, .func (PySem.W.fnOf "be_moved" "Machine.be_moved" (defArgs st_m_be_moved) (defBody st_m_be_moved) (defScope st_m_be_moved) .none kV5 dc5 pm5 an5 cd5 ct5), sl5⟩) (c5 : PySem.W.codeIn K cd5 "Machine.be_moved" = true) (k5 : PySem.W.keepIn K (.ref f5) = true)
    : ∃ C, MaC K mg C ∧ DfI K C "Machine.__init__" st_m___init__ ["self", "habit", "program", "inputs"] ∧ DfM K C "is_done" "Machine.is_done" st_m_is_done ["self"] ∧ DfM K C "step" "Machine.step" st_m_step ["self"] ∧ DfM K C "next_input" "Machine.next_input" st_m_next_input ["self"] ∧ DfM K C "use" "Machine.use" st_m_use ["self", "word", "place"] ∧ DfM K C "be_moved" "Machine.be_moved" st_m_be_moved ["self", "moves"] := by
  have F0 := fun_mk (st := st_m___init__) l0 c0 k0
  have F1 := fun_mk (st := st_m_is_done) l1 c1 k1
  have F2 := fun_mk (st := st_m_step) l2 c2 k2
  have F3 := fun_mk (st := st_m_next_input) l3 c3 k3
  have F4 := fun_mk (st := st_m_use) l4 c4 k4
  have F5 := fun_mk (st := st_m_be_moved) l5 c5 k5
  have no : ∀ f ∈ maAttrs, NoAttr K C f := fun f hf => by
    unfold maAttrs at hf
    simp only [List.mem_cons, List.not_mem_nil, or_false] at hf
    rcases hf with rfl | rfl | rfl | rfl | rfl | rfl | rfl | rfl
    · exact n0
    · exact n1
    · exact n2
    · exact n3
    · exact n4
    · exact n5
    · exact n6
    · exact n7
  exact ⟨C, ⟨⟨pg, hd, po, sa⟩, no, PySem.W.mg_of X G aC⟩, ⟨f0, _, F0, ⟨mk, at0, i0, kc⟩, F0.binds (fun _ _ _ _ _ _ us hl => match us, hl with | [_, _, _, _], _ => rfl)⟩, ⟨f1, _, F1, ⟨at1, i1, k1⟩, F1.binds (fun _ _ _ _ _ _ us hl => match us, hl with | [_], _ => rfl)⟩, ⟨f2, _, F2, ⟨at2, i2, k2⟩, F2.binds (fun _ _ _ _ _ _ us hl => match us, hl with | [_], _ => rfl)⟩, ⟨f3, _, F3, ⟨at3, i3, k3⟩, F3.binds (fun _ _ _ _ _ _ us hl => match us, hl with | [_], _ => rfl)⟩, ⟨f4, _, F4, ⟨at4, i4, k4⟩, F4.binds (fun _ _ _ _ _ _ us hl => match us, hl with | [_, _, _], _ => rfl)⟩, ⟨f5, _, F5, ⟨at5, i5, k5⟩, F5.binds (fun _ _ _ _ _ _ us hl => match us, hl with | [_, _], _ => rfl)⟩⟩
theorem top {P : Program} {w : World} {K : PySem.W.Frag} {mg : Str → Option Value} {fa : Addr} (hfa : mg "law" = some (.ref fa)) (B : Bu mg) (c_FEWEST_PLACES : ∃ t, mg "FEWEST_PLACES" = some (.int 2 t)) (c_MOST_PLACES : ∃ t, mg "MOST_PLACES" = some (.int 5 t)) (c_MOST_INPUTS : ∃ t, mg "MOST_INPUTS" = some (.int 50 t)) (c_MOST_STILL : ∃ t, mg "MOST_STILL" = some (.int 200 t)) (c_MOST_RESTLESS : ∃ t, mg "MOST_RESTLESS" = some (.int 4000 t)) (c_GREATEST : ∃ t, mg "GREATEST" = some (.int 1000000 t)) (c_MOST_STILL_STEPS : ∃ t, mg "MOST_STILL_STEPS" = some (.int 5000 t)) (c_MOST_RESTLESS_STEPS : ∃ t, mg "MOST_RESTLESS_STEPS" = some (.int 100000 t)) (t_BARE : CTup K mg "BARE" bareZ) (t_JUMPS : CTup K mg "JUMPS" jumpZ) (t_ACCESSES : CTup K mg "ACCESSES" accZ)
    {k1 p1 : Addr}
    {C : Addr} (T : MaC K mg C) (FI : DfI K C "Machine.__init__" st_m___init__ ["self", "habit", "program", "inputs"]) (M_is_done : DfM K C "is_done" "Machine.is_done" st_m_is_done ["self"]) (M_step : DfM K C "step" "Machine.step" st_m_step ["self"]) (M_next_input : DfM K C "next_input" "Machine.next_input" st_m_next_input ["self"]) (M_use : DfM K C "use" "Machine.use" st_m_use ["self", "word", "place"]) (M_be_moved : DfM K C "be_moved" "Machine.be_moved" st_m_be_moved ["self", "moves"])
    {S c0 c1 c2 c3 : Addr} (Fv : Five mg S c0 c1 c2 c3) (x0 : ExcC K c0) (no0 : PySem.W.findIn K (.ref c0) "place" = some none) (bh0 : ∀ base, BhX P w K mg base "BadHabit" "place" c0 (spBI "place" c0)) (x2 : ExcC K c2) (no2 : PySem.W.findIn K (.ref c2) "index" = some none) (bh2 : ∀ base, BhX P w K mg base "BadProgram" "index" c2 (spBI "index" c2)) (X1 : ExO K mg "BadNumber" c1) (X3 : ExO K mg "BadInputs" c3)
    (K0 : Knd K mg c0 0) (K1 : Knd K mg c1 1) (K2 : Knd K mg c2 2) (K3 : Knd K mg c3 3)
    (F_is_integer : Df K mg "is_integer" st_is_integer ["value"])
    (F_is_number : Df K mg "is_number" st_is_number ["value", "low", "high"])
    (F_is_row : Df K mg "is_row" st_is_row ["value", "low", "high"])
    (F_is_place : Df K mg "is_place" st_is_place ["value", "places"])
    (F_are_places : Df K mg "are_places" st_are_places ["value", "places"])
    (F_is_layout : Df K mg "is_layout" st_is_layout ["value", "places"])
    (F_is_instruction : Df K mg "is_instruction" st_is_instruction ["value", "places", "count", "is_restless"])
    (F_check_number : Df K mg "check_number" st_check_number ["value", "low", "high"])
    (F_check_places : Df K mg "check_places" st_check_places ["places"])
    (F_check_habit : Df K mg "check_habit" st_check_habit ["habit"])
    (F_check_program : Df K mg "check_program" st_check_program ["program", "places", "most", "is_restless"])
    (F_check_still : Df K mg "check_still" st_check_still ["program", "places"])
    (F_check_restless : Df K mg "check_restless" st_check_restless ["program", "places"])
    (F_check_inputs : Df K mg "check_inputs" st_check_inputs ["inputs"])
    (F_has_ended : Df K mg "has_ended" st_has_ended ["program", "at"])
    (F_run : Df K mg "run" st_run ["habit", "program", "inputs", "most"])
    (F_run_still : Df K mg "run_still" st_run_still ["places", "program", "inputs", "most"])
    (F_run_restless : Df K mg "run_restless" st_run_restless ["habit", "program", "inputs", "most"])
    (F_reached : Df K mg "reached" st_reached ["places", "program"])
    (F_used : Df K mg "used" st_used ["places", "program"])
    (F_flow : Df K mg "flow" st_flow ["places", "program"])
    (F__law_taken : Df K mg "_law_taken" st__law_taken ["row", "many"])
    (F__law_pick : Df K mg "_law_pick" st__law_pick ["row", "things"])
    (F__law_refused : Df K mg "_law_refused" st__law_refused ["work"])
    (F__law_works : DfC K mg "_law_works" st__law_works ["one", "other", "third", "fourth"] k1)
    (F__law_order : Df K mg "_law_order" st__law_order ["row", "many"])
    (F__law_habit : Df K mg "_law_habit" st__law_habit ["row", "places"])
    (F__law_program : Df K mg "_law_program" st__law_program ["row", "places", "many"])
    (F_law : Df K mg "law" st_law ["script"])
    : ∃ fd : FuncData, (∀ (s : Shared) (v : Value), BindsTo s fd ⟨[v], []⟩ [("script", v)]) ∧ ∀ base : Heap, TabB base mg k1 p1 → FnOk P w K mg base CX0 11 fa fd ["script"] (spEnd K (tabsL p1)) := by
  obtain ⟨f, fd, F, g, b⟩ := F_law.ex
  have e := hfa.symm.trans g
  cases e
  refine ⟨fd, fun s v => ?_, fun base T1 => ?_⟩
  · obtain ⟨oc, od, kV, doc, pm, an, cdv, ct, osl, rfl, _⟩ := F.ex
    exact .of_eq rfl
  · have C1 := ok_is_integerW (P := P) (w := w) (K := K) (base := base) F_is_integer B
    have C2 := ok_is_numberW F_is_number C1
    have CR := ok_is_rowW (P := P) (w := w) (K := K) (base := base) F_is_row B
    have C3 := ok_is_placeW F_is_place C2
    have C4 := ok_are_placesW F_are_places B C3
    have C5 := ok_is_layoutW F_is_layout B C4
    have CI := ok_is_insW F_is_instruction B t_BARE t_JUMPS t_ACCESSES c_GREATEST CR C2 C3
    have CH := ok_check_habitX F_check_habit B c_FEWEST_PLACES c_MOST_PLACES (bh0 base) CR C5
    have CPs := ok_check_placesX F_check_places c_FEWEST_PLACES c_MOST_PLACES (ok_check_numberX F_check_number X1 C2)
    have CNS := ok_check_numberS F_check_number X1 C2
    have CNR := ok_check_numberR F_check_number X1 C2
    have CPg := ok_check_programX F_check_program B (bh2 base) CR CI
    have CPr := ok_check_restlessX F_check_restless c_MOST_RESTLESS CPg
    have CPs2 := ok_check_stillX F_check_still c_MOST_STILL CPg
    have CIn := ok_check_inputsX F_check_inputs B c_MOST_INPUTS c_GREATEST X3 CR C2
    have CE := ok_has_ended (P := P) (w := w) (K := K) (base := base) F_has_ended B
    have MB := ok_be_moved (P := P) (w := w) (base := base) M_be_moved B T
    have MU := ok_use M_use T MB
    have MN := ok_next_input (P := P) (w := w) (base := base) M_next_input B T
    have MD := ok_is_done M_is_done T CE
    have MS := ok_step M_step B T t_JUMPS MU MN
    have MI := ok_initM (P := P) (w := w) (base := base) FI B T
    have CRn := ok_run F_run B T MI MD MS
    have CT := ok_taken (P := P) (w := w) (K := K) (base := base) F__law_taken B
    have COd := ok_order F__law_order B CT
    have CPk := ok_pick F__law_pick B CT
    have u1 : ∀ p ∈ tabsL p1, p.1 = p1 → p.2 = lamQ "_law_works" := fun p hp e => by
      rw [List.mem_singleton.mp hp]
    exact frozen (ok_law F B CT CPk (ok_habit F__law_habit B CT COd) (ok_lprogram F__law_program B CT CPk) (ok_works (List.Mem.head _) u1 F__law_works T1) (ok_refused F__law_refused B Fv x0 no0 x2 no2)
      (ok_flowX F_flow CPs CPs2) (ok_reachedX F_reached CPs CPs2) (ok_usedX F_used CPs CPs2) (ok_run_stillX F_run_still c_MOST_STILL_STEPS CPs CPs2 CIn CNS) (ok_run_restlessX F_run_restless B c_MOST_RESTLESS_STEPS CH CPr CIn CNR CRn) Fv.h0 Fv.h2 K0 K1 K2 K3)
end RH
set_option Elab.async false
set_option linter.all false
open PySem PySem.W PyProof.Rows
set_option maxRecDepth 100000 in
set_option maxHeartbeats 0 in
theorem PySem.Challenge.cw_restlesshelf_k05_programs_refused_holds : PySem.Challenge.rw_restlesshelf_k05_programs_refused.Holds := by
  w_on; o_law; k_head; (case hw => w_witness2)
  k_fill
  refine LamX.walk_ofTs (l := PySem.Challenge.rw_restlesshelf_k05_programs_refused) (n := 63) (k := 11) (x := "script") (CX := fun _ => L2.CX0) rfl (by decide) rfl ⟨rfl, by decide, by decide⟩ (fun w h Y => PySem.W.km_in_of Y) ?F (fun _ _ _ _ _ h => h)
  case F =>
    intro w mg fa h Y KX G hmg
    have TT := PySem.W.km_tabs_of Y
    have B : RH.Bu mg := by
      refine' RH.Bu.mk (PySem.W.mg_none_of KX G ?z0) (PySem.W.mg_none_of KX G ?z1) (PySem.W.mg_none_of KX G ?z2) (PySem.W.mg_none_of KX G ?z3) (PySem.W.mg_none_of KX G ?z4) (PySem.W.mg_none_of KX G ?z5) (PySem.W.mg_none_of KX G ?z6) (PySem.W.mg_none_of KX G ?z7) (PySem.W.mg_none_of KX G ?z8) (PySem.W.mg_none_of KX G ?z9) (PySem.W.mg_none_of KX G ?z10) (PySem.W.mg_none_of KX G ?z11) (PySem.W.mg_none_of KX G ?z12)
      (case z0 => k_is); (case z1 => k_is); (case z2 => k_is); (case z3 => k_is); (case z4 => k_is); (case z5 => k_is); (case z6 => k_is); (case z7 => k_is); (case z8 => k_is); (case z9 => k_is); (case z10 => k_is); (case z11 => k_is); (case z12 => k_is)
    have c_FEWEST_PLACES : ∃ t, mg "FEWEST_PLACES" = some (.int 2 t) := by
      refine' RH.const_mk KX G ?a
      (case a => k_is)
    have c_MOST_PLACES : ∃ t, mg "MOST_PLACES" = some (.int 5 t) := by
      refine' RH.const_mk KX G ?a
      (case a => k_is)
    have c_MOST_INPUTS : ∃ t, mg "MOST_INPUTS" = some (.int 50 t) := by
      refine' RH.const_mk KX G ?a
      (case a => k_is)
    have c_MOST_STILL : ∃ t, mg "MOST_STILL" = some (.int 200 t) := by
      refine' RH.const_mk KX G ?a
      (case a => k_is)
    have c_MOST_RESTLESS : ∃ t, mg "MOST_RESTLESS" = some (.int 4000 t) := by
      refine' RH.const_mk KX G ?a
      (case a => k_is)
    have c_GREATEST : ∃ t, mg "GREATEST" = some (.int 1000000 t) := by
      refine' RH.const_mk KX G ?a
      (case a => k_is)
    have c_MOST_STILL_STEPS : ∃ t, mg "MOST_STILL_STEPS" = some (.int 5000 t) := by
      refine' RH.const_mk KX G ?a
      (case a => k_is)
    have c_MOST_RESTLESS_STEPS : ∃ t, mg "MOST_RESTLESS_STEPS" = some (.int 100000 t) := by
      refine' RH.const_mk KX G ?a
      (case a => k_is)
    have t_BARE : RH.CTup (RH.kOf KX) mg "BARE" RH.bareZ := by
      refine' RH.ctup_mk KX G ?a ?l ?c ?d ?s ?v
      (case a => k_is); (case l => k_is); (case c => exact rfl); (case d => exact rfl); (case v => exact (.cons ⟨_, rfl⟩ (.cons ⟨_, rfl⟩ (.cons ⟨_, rfl⟩ .nil)))); (case s => decide)
    have t_JUMPS : RH.CTup (RH.kOf KX) mg "JUMPS" RH.jumpZ := by
      refine' RH.ctup_mk KX G ?a ?l ?c ?d ?s ?v
      (case a => k_is); (case l => k_is); (case c => exact rfl); (case d => exact rfl); (case v => exact (.cons ⟨_, rfl⟩ (.cons ⟨_, rfl⟩ .nil))); (case s => decide)
    have t_ACCESSES : RH.CTup (RH.kOf KX) mg "ACCESSES" RH.accZ := by
      refine' RH.ctup_mk KX G ?a ?l ?c ?d ?s ?v
      (case a => k_is); (case l => k_is); (case c => exact rfl); (case d => exact rfl); (case v => exact (.cons ⟨_, rfl⟩ (.cons ⟨_, rfl⟩ (.cons ⟨_, rfl⟩ (.cons ⟨_, rfl⟩ .nil))))); (case s => decide)
    have F_is_integer : RH.Df (RH.kOf KX) mg "is_integer" RH.st_is_integer ["value"] := by
      refine' RH.df_mk KX G ?a ?l ?c ?k (fun _ _ _ _ _ _ us hl => match us, hl with | [_], _ => rfl)
      (case a => k_is); (case l => k_is); (case c => k_is); (case k => k_is)
    have F_is_number : RH.Df (RH.kOf KX) mg "is_number" RH.st_is_number ["value", "low", "high"] := by
      refine' RH.df_mk KX G ?a ?l ?c ?k (fun _ _ _ _ _ _ us hl => match us, hl with | [_, _, _], _ => rfl)
      (case a => k_is); (case l => k_is); (case c => k_is); (case k => k_is)
    have F_is_row : RH.Df (RH.kOf KX) mg "is_row" RH.st_is_row ["value", "low", "high"] := by
      refine' RH.df_mk KX G ?a ?l ?c ?k (fun _ _ _ _ _ _ us hl => match us, hl with | [_, _, _], _ => rfl)
      (case a => k_is); (case l => k_is); (case c => k_is); (case k => k_is)
    have F_is_place : RH.Df (RH.kOf KX) mg "is_place" RH.st_is_place ["value", "places"] := by
      refine' RH.df_mk KX G ?a ?l ?c ?k (fun _ _ _ _ _ _ us hl => match us, hl with | [_, _], _ => rfl)
      (case a => k_is); (case l => k_is); (case c => k_is); (case k => k_is)
    have F_are_places : RH.Df (RH.kOf KX) mg "are_places" RH.st_are_places ["value", "places"] := by
      refine' RH.df_mk KX G ?a ?l ?c ?k (fun _ _ _ _ _ _ us hl => match us, hl with | [_, _], _ => rfl)
      (case a => k_is); (case l => k_is); (case c => k_is); (case k => k_is)
    have F_is_layout : RH.Df (RH.kOf KX) mg "is_layout" RH.st_is_layout ["value", "places"] := by
      refine' RH.df_mk KX G ?a ?l ?c ?k (fun _ _ _ _ _ _ us hl => match us, hl with | [_, _], _ => rfl)
      (case a => k_is); (case l => k_is); (case c => k_is); (case k => k_is)
    have F_is_instruction : RH.Df (RH.kOf KX) mg "is_instruction" RH.st_is_instruction ["value", "places", "count", "is_restless"] := by
      refine' RH.df_mk KX G ?a ?l ?c ?k (fun _ _ _ _ _ _ us hl => match us, hl with | [_, _, _, _], _ => rfl)
      (case a => k_is); (case l => k_is); (case c => k_is); (case k => k_is)
    have F_check_number : RH.Df (RH.kOf KX) mg "check_number" RH.st_check_number ["value", "low", "high"] := by
      refine' RH.df_mk KX G ?a ?l ?c ?k (fun _ _ _ _ _ _ us hl => match us, hl with | [_, _, _], _ => rfl)
      (case a => k_is); (case l => k_is); (case c => k_is); (case k => k_is)
    have F_check_places : RH.Df (RH.kOf KX) mg "check_places" RH.st_check_places ["places"] := by
      refine' RH.df_mk KX G ?a ?l ?c ?k (fun _ _ _ _ _ _ us hl => match us, hl with | [_], _ => rfl)
      (case a => k_is); (case l => k_is); (case c => k_is); (case k => k_is)
    have F_check_habit : RH.Df (RH.kOf KX) mg "check_habit" RH.st_check_habit ["habit"] := by
      refine' RH.df_mk KX G ?a ?l ?c ?k (fun _ _ _ _ _ _ us hl => match us, hl with | [_], _ => rfl)
      (case a => k_is); (case l => k_is); (case c => k_is); (case k => k_is)
    have F_check_program : RH.Df (RH.kOf KX) mg "check_program" RH.st_check_program ["program", "places", "most", "is_restless"] := by
      refine' RH.df_mk KX G ?a ?l ?c ?k (fun _ _ _ _ _ _ us hl => match us, hl with | [_, _, _, _], _ => rfl)
      (case a => k_is); (case l => k_is); (case c => k_is); (case k => k_is)
    have F_check_still : RH.Df (RH.kOf KX) mg "check_still" RH.st_check_still ["program", "places"] := by
      refine' RH.df_mk KX G ?a ?l ?c ?k (fun _ _ _ _ _ _ us hl => match us, hl with | [_, _], _ => rfl)
      (case a => k_is); (case l => k_is); (case c => k_is); (case k => k_is)
    have F_check_restless : RH.Df (RH.kOf KX) mg "check_restless" RH.st_check_restless ["program", "places"] := by
      refine' RH.df_mk KX G ?a ?l ?c ?k (fun _ _ _ _ _ _ us hl => match us, hl with | [_, _], _ => rfl)
      (case a => k_is); (case l => k_is); (case c => k_is); (case k => k_is)
    have F_check_inputs : RH.Df (RH.kOf KX) mg "check_inputs" RH.st_check_inputs ["inputs"] := by
      refine' RH.df_mk KX G ?a ?l ?c ?k (fun _ _ _ _ _ _ us hl => match us, hl with | [_], _ => rfl)
      (case a => k_is); (case l => k_is); (case c => k_is); (case k => k_is)
    have F_has_ended : RH.Df (RH.kOf KX) mg "has_ended" RH.st_has_ended ["program", "at"] := by
      refine' RH.df_mk KX G ?a ?l ?c ?k (fun _ _ _ _ _ _ us hl => match us, hl with | [_, _], _ => rfl)
      (case a => k_is); (case l => k_is); (case c => k_is); (case k => k_is)
    have F_run : RH.Df (RH.kOf KX) mg "run" RH.st_run ["habit", "program", "inputs", "most"] := by
      refine' RH.df_mk KX G ?a ?l ?c ?k (fun _ _ _ _ _ _ us hl => match us, hl with | [_, _, _, _], _ => rfl)
      (case a => k_is); (case l => k_is); (case c => k_is); (case k => k_is)
    have F_run_still : RH.Df (RH.kOf KX) mg "run_still" RH.st_run_still ["places", "program", "inputs", "most"] := by
      refine' RH.df_mk KX G ?a ?l ?c ?k (fun _ _ _ _ _ _ us hl => match us, hl with | [_, _, _, _], _ => rfl)
      (case a => k_is); (case l => k_is); (case c => k_is); (case k => k_is)
    have F_run_restless : RH.Df (RH.kOf KX) mg "run_restless" RH.st_run_restless ["habit", "program", "inputs", "most"] := by
      refine' RH.df_mk KX G ?a ?l ?c ?k (fun _ _ _ _ _ _ us hl => match us, hl with | [_, _, _, _], _ => rfl)
      (case a => k_is); (case l => k_is); (case c => k_is); (case k => k_is)
    have F_reached : RH.Df (RH.kOf KX) mg "reached" RH.st_reached ["places", "program"] := by
      refine' RH.df_mk KX G ?a ?l ?c ?k (fun _ _ _ _ _ _ us hl => match us, hl with | [_, _], _ => rfl)
      (case a => k_is); (case l => k_is); (case c => k_is); (case k => k_is)
    have F_used : RH.Df (RH.kOf KX) mg "used" RH.st_used ["places", "program"] := by
      refine' RH.df_mk KX G ?a ?l ?c ?k (fun _ _ _ _ _ _ us hl => match us, hl with | [_, _], _ => rfl)
      (case a => k_is); (case l => k_is); (case c => k_is); (case k => k_is)
    have F_flow : RH.Df (RH.kOf KX) mg "flow" RH.st_flow ["places", "program"] := by
      refine' RH.df_mk KX G ?a ?l ?c ?k (fun _ _ _ _ _ _ us hl => match us, hl with | [_, _], _ => rfl)
      (case a => k_is); (case l => k_is); (case c => k_is); (case k => k_is)
    have F__law_taken : RH.Df (RH.kOf KX) mg "_law_taken" RH.st__law_taken ["row", "many"] := by
      refine' RH.df_mk KX G ?a ?l ?c ?k (fun _ _ _ _ _ _ us hl => match us, hl with | [_, _], _ => rfl)
      (case a => k_is); (case l => k_is); (case c => k_is); (case k => k_is)
    have F__law_pick : RH.Df (RH.kOf KX) mg "_law_pick" RH.st__law_pick ["row", "things"] := by
      refine' RH.df_mk KX G ?a ?l ?c ?k (fun _ _ _ _ _ _ us hl => match us, hl with | [_, _], _ => rfl)
      (case a => k_is); (case l => k_is); (case c => k_is); (case k => k_is)
    have F__law_refused : RH.Df (RH.kOf KX) mg "_law_refused" RH.st__law_refused ["work"] := by
      refine' RH.df_mk KX G ?a ?l ?c ?k (fun _ _ _ _ _ _ us hl => match us, hl with | [_], _ => rfl)
      (case a => k_is); (case l => k_is); (case c => k_is); (case k => k_is)
    have F__law_order : RH.Df (RH.kOf KX) mg "_law_order" RH.st__law_order ["row", "many"] := by
      refine' RH.df_mk KX G ?a ?l ?c ?k (fun _ _ _ _ _ _ us hl => match us, hl with | [_, _], _ => rfl)
      (case a => k_is); (case l => k_is); (case c => k_is); (case k => k_is)
    have F__law_habit : RH.Df (RH.kOf KX) mg "_law_habit" RH.st__law_habit ["row", "places"] := by
      refine' RH.df_mk KX G ?a ?l ?c ?k (fun _ _ _ _ _ _ us hl => match us, hl with | [_, _], _ => rfl)
      (case a => k_is); (case l => k_is); (case c => k_is); (case k => k_is)
    have F__law_program : RH.Df (RH.kOf KX) mg "_law_program" RH.st__law_program ["row", "places", "many"] := by
      refine' RH.df_mk KX G ?a ?l ?c ?k (fun _ _ _ _ _ _ us hl => match us, hl with | [_, _, _], _ => rfl)
      (case a => k_is); (case l => k_is); (case c => k_is); (case k => k_is)
    have F_law : RH.Df (RH.kOf KX) mg "law" RH.st_law ["script"] := by
      refine' RH.df_mk KX G ?a ?l ?c ?k (fun _ _ _ _ _ _ us hl => match us, hl with | [_], _ => rfl)
      (case a => k_is); (case l => k_is); (case c => k_is); (case k => k_is)
    obtain ⟨S, c0, c1, c2, c3, Fv, x0, no0, bh0, x2, no2, bh2, X1, X3, K0, K1, K2, K3⟩ : ∃ S c0 c1 c2 c3, RH.Five mg S c0 c1 c2 c3 ∧ L2.ExcC (RH.kOf KX) c0 ∧ PySem.W.findIn (RH.kOf KX) (.ref c0) "place" = some none ∧ (∀ w base, RH.BhX (PySem.Challenge.rw_restlesshelf_k05_programs_refused).prog w (RH.kOf KX) mg base "BadHabit" "place" c0 (RH.spBI "place" c0)) ∧ L2.ExcC (RH.kOf KX) c2 ∧ PySem.W.findIn (RH.kOf KX) (.ref c2) "index" = some none ∧ (∀ w base, RH.BhX (PySem.Challenge.rw_restlesshelf_k05_programs_refused).prog w (RH.kOf KX) mg base "BadProgram" "index" c2 (RH.spBI "index" c2)) ∧ RH.ExO (RH.kOf KX) mg "BadNumber" c1 ∧ RH.ExO (RH.kOf KX) mg "BadInputs" c3 ∧ RH.Knd (RH.kOf KX) mg c0 0 ∧ RH.Knd (RH.kOf KX) mg c1 1 ∧ RH.Knd (RH.kOf KX) mg c2 2 ∧ RH.Knd (RH.kOf KX) mg c3 3 := by
      refine' Exists.elim (RH.errs_mk (PySem.Challenge.rw_restlesshelf_k05_programs_refused).prog KX G ?aS ?a0 ?a1 ?a2 ?a3 ?kp0 ?b0 ?t0 ?xg0 ?xk0 ?xd0 ?xa0 ?xm0 ?es0 ?o0_0 ?o0_1 ?o0_2 ?o0_3 ?q1 ?kp1 ?b1 ?t1 ?xg1 ?xk1 ?xd1 ?xa1 ?xm1 ?es1 ?o1_0 ?o1_1 ?o1_2 ?o1_3 ?kp2 ?b2 ?t2 ?xg2 ?xk2 ?xd2 ?xa2 ?xm2 ?es2 ?o2_0 ?o2_1 ?o2_2 ?o2_3 ?q3 ?kp3 ?b3 ?t3 ?xg3 ?xk3 ?xd3 ?xa3 ?xm3 ?es3 ?o3_0 ?o3_1 ?o3_2 ?o3_3 ?xn ?xt ?yL0 ?yR0 ?ysa0 ?yno0 ?yi0 ?yt0 ?yl0 ?yc0 ?yo0 ?yf0 ?yk0 ?ym0 ?ys0 ?yv0 ?yL2 ?yR2 ?ysa2 ?yno2 ?yi2 ?yt2 ?yl2 ?yc2 ?yo2 ?yf2 ?yk2 ?ym2 ?ys2 ?yv2 ?ya ?yg ?yp) (fun C hC => ⟨C, hC⟩)
      (case aS => k_is); (case a0 => k_is); (case a1 => k_is); (case a2 => k_is); (case a3 => k_is); (case kp0 => k_is); (case b0 => k_is); (case t0 => k_is)
      (case xg0 => k_is); (case xk0 => k_is); (case xd0 => k_is); (case xa0 => k_is); (case xm0 => k_is); (case es0 => kts_exm); (case o0_0 => kit_is); (case o0_1 => kit_is)
      (case o0_2 => kit_is); (case o0_3 => kit_is); (case q1 => k_exc); (case kp1 => k_is); (case b1 => k_is); (case t1 => k_is); (case xg1 => k_is); (case xk1 => k_is)
      (case xd1 => k_is); (case xa1 => k_is); (case xm1 => k_is); (case es1 => kts_exm); (case o1_0 => kit_is); (case o1_1 => kit_is); (case o1_2 => kit_is); (case o1_3 => kit_is)
      (case kp2 => k_is); (case b2 => k_is); (case t2 => k_is); (case xg2 => k_is); (case xk2 => k_is); (case xd2 => k_is); (case xa2 => k_is); (case xm2 => k_is)
      (case es2 => kts_exm); (case o2_0 => kit_is); (case o2_1 => kit_is); (case o2_2 => kit_is); (case o2_3 => kit_is); (case q3 => k_exc); (case kp3 => k_is); (case b3 => k_is)
      (case t3 => k_is); (case xg3 => k_is); (case xk3 => k_is); (case xd3 => k_is); (case xa3 => k_is); (case xm3 => k_is); (case es3 => kts_exm); (case o3_0 => kit_is)
      (case o3_1 => kit_is); (case o3_2 => kit_is); (case o3_3 => kit_is); (case xn => k_is); (case xt => k_is); (case yL0 => k_is); (case yR0 => first | rfl | decide +kernel | kernel_rfl); (case ysa0 => k_is)
      (case yno0 => k_is); (case yi0 => k_is); (case yt0 => k_is); (case yl0 => k_is); (case yc0 => k_is); (case yo0 => k_is); (case yf0 => first | rfl | decide +kernel | kernel_rfl); (case yk0 => k_is)
      (case ym0 => k_is); (case ys0 => ks_is); (case yv0 => k_is); (case yL2 => k_is); (case yR2 => first | rfl | decide +kernel | kernel_rfl); (case ysa2 => k_is); (case yno2 => k_is); (case yi2 => k_is)
      (case yt2 => k_is); (case yl2 => k_is); (case yc2 => k_is); (case yo2 => k_is); (case yf2 => first | rfl | decide +kernel | kernel_rfl); (case yk2 => k_is); (case ym2 => k_is); (case ys2 => ks_is)
      (case yv2 => k_is); (case ya => k_is); (case yg => k_is); (case yp => first | rfl | decide +kernel | kernel_rfl)
    obtain ⟨C, T, FI, M_is_done, M_step, M_next_input, M_use, M_be_moved⟩ : ∃ C, RH.MaC (RH.kOf KX) mg C ∧ RH.DfI (RH.kOf KX) C "Machine.__init__" RH.st_m___init__ ["self", "habit", "program", "inputs"] ∧ RH.DfM (RH.kOf KX) C "is_done" "Machine.is_done" RH.st_m_is_done ["self"] ∧ RH.DfM (RH.kOf KX) C "step" "Machine.step" RH.st_m_step ["self"] ∧ RH.DfM (RH.kOf KX) C "next_input" "Machine.next_input" RH.st_m_next_input ["self"] ∧ RH.DfM (RH.kOf KX) C "use" "Machine.use" RH.st_m_use ["self", "word", "place"] ∧ RH.DfM (RH.kOf KX) C "be_moved" "Machine.be_moved" RH.st_m_be_moved ["self", "moves"] := by
      refine' Exists.elim (RH.cls_mk KX G ?aC ?pg ?hd ?po ?sa ?mk ?kc ?n0 ?n1 ?n2 ?n3 ?n4 ?n5 ?n6 ?n7 ?at0 ?i0 ?l0 ?c0 ?k0 ?at1 ?i1 ?l1 ?c1 ?k1 ?at2 ?i2 ?l2 ?c2 ?k2 ?at3 ?i3 ?l3 ?c3 ?k3 ?at4 ?i4 ?l4 ?c4 ?k4 ?at5 ?i5 ?l5 ?c5 ?k5) (fun C hC => ⟨C, hC⟩)
      (case aC => k_is); (case pg => k_is); (case hd => k_is); (case po => k_is); (case sa => k_is); (case mk => k_is); (case kc => k_is); (case n0 => k_is)
      (case n1 => k_is); (case n2 => k_is); (case n3 => k_is); (case n4 => k_is); (case n5 => k_is); (case n6 => k_is); (case n7 => k_is); (case at0 => k_is)
      (case i0 => k_is); (case l0 => k_is); (case c0 => k_is); (case k0 => k_is); (case at1 => k_is); (case i1 => k_is); (case l1 => k_is); (case c1 => k_is)
      (case k1 => k_is); (case at2 => k_is); (case i2 => k_is); (case l2 => k_is); (case c2 => k_is); (case k2 => k_is); (case at3 => k_is); (case i3 => k_is)
      (case l3 => k_is); (case c3 => k_is); (case k3 => k_is); (case at4 => k_is); (case i4 => k_is); (case l4 => k_is); (case c4 => k_is); (case k4 => k_is)
      (case at5 => k_is); (case i5 => k_is); (case l5 => k_is); (case c5 => k_is); (case k5 => k_is)
    obtain ⟨k1, p1, M1⟩ : ∃ k1 p1, RH.Mkr (RH.kOf KX) h mg "_law_works" RH.st__law_works ["one", "other", "third", "fourth"] k1 p1 := by
      refine' ⟨_, _, RH.mkr KX G ?a ?l ?c ?k ?lc ?t ?d ?e ?g (fun _ _ _ _ _ _ us hl => match us, hl with | [_, _, _, _], _ => rfl)⟩
      (case a => k_is); (case l => k_is); (case c => k_is); (case k => k_is); (case lc => k_is); (case t => rfl); (case e => first | rfl | kernel_rfl | (with_unfolding_all rfl)); (case g => exact TT _ (by decide)); (case d => exact fun K' e => by unfold PySem.W.codeHdIn; rw [e]; rfl)
    obtain ⟨F__law_works, hk1, hl1, hm1⟩ := M1
    obtain ⟨fd, hb, hF⟩ := RH.top (P := (PySem.Challenge.rw_restlesshelf_k05_programs_refused).prog) (w := w) hmg B c_FEWEST_PLACES c_MOST_PLACES c_MOST_INPUTS c_MOST_STILL c_MOST_RESTLESS c_GREATEST c_MOST_STILL_STEPS c_MOST_RESTLESS_STEPS t_BARE t_JUMPS t_ACCESSES  T FI M_is_done M_step M_next_input M_use M_be_moved Fv x0 no0 (bh0 w) x2 no2 (bh2 w) X1 X3 K0 K1 K2 K3 F_is_integer F_is_number F_is_row F_is_place F_are_places F_is_layout F_is_instruction F_check_number F_check_places F_check_habit F_check_program F_check_still F_check_restless F_check_inputs F_has_ended F_run F_run_still F_run_restless F_reached F_used F_flow F__law_taken F__law_pick F__law_refused F__law_works F__law_order F__law_habit F__law_program F_law
    refine ⟨fd, [(k1, p1)], RH.spEnd (RH.kOf KX) (RH.tabsL p1), ?_, ?_, ?_, hb, ?_, ?_⟩
    · intro p hp
      rw [List.mem_singleton.mp hp]; exact hm1
    · intro p hp
      rw [List.mem_singleton.mp hp]; exact hl1
    · intro p hp
      rw [List.mem_singleton.mp hp]; exact hk1
    · intro H a ns _ _ hH hS
      refine ⟨a, ns, rfl, hS, fun p hp => ?_, fun _ => rfl⟩
      rw [List.mem_singleton.mp hp]; exact LamX.TabS.nil (hH (k1, p1) (List.mem_cons_self ..))
    · intro base _ _ TB
      exact hF base (TB (k1, p1) (List.mem_cons_self ..))
