import PyProof.Rows.All
import Wide.All
import OpenK.AllK
import Wide.FinOn
import HandS.ForMost
import HandS.Exc
import HandS.TryOnly
import HandS.ExcOwn
import HandS.WordsExc
import HandS.IsInst
import HandS.Conv
import HandS.Sort
import HandS.SortInts
import HandS.Zip
import HandS.Zip0
import HandS.Wide
import HandS.Deep
import HandS.Flow
import HandS.Style
import HandS.TupAny
import KE.GoesEnum
import KE.KEqSeq
import KE.KEqDeep
import PyProof.TupleOfSeq
import HandS.Lambda
import HandS.Nested
import HandS.EndTab
import KE.KDictDisplayH
import KE.KDictCopyH
import KE.KIndexOf
import HandS.Dict
import HandS.DictTup
import HandS.TupLen
import HandS.Defaults
import HandS.SortRule
import KE.GoesZip
import HandS.ExcIs
import HandS.RaiseMore
import HandS.FStr
import HandS.Property
import KE.KExcSuper
import HandS.ExcInit
import HandS.ExcField
import HandS.TupMul
import PyProof.FString2
import HandS.Strs
import HandS.SetFor
import HandS.SetBool
import HandS.SetIn
import HandS.More
import KE.KDictSum
import KE.KDflt
import HandS.TryMany
import PySem.Challenge.RW_restlesshelf_k84_whole_joins
set_option Elab.async false
set_option linter.all false
set_option maxRecDepth 100000
set_option maxHeartbeats 2000000
/-! Two rules more: a walk over enumerate of a tuple, sorted of a tuple of ints. -/
namespace RH
open PySem PySem.Spec PyProof.Rows L2
theorem made_enumB {v : Value} {o : Obj} {H : Heap → Prop} (B : Begins v o H) :
    Meets (Builtin.«enumerate.__new__» ⟨[.type "enumerate", v], []⟩) (fun _ R s => H s.heap ∧
      R (.ok (.ret (.ref (s.heap.push o).objs.size))) { s with heap := (s.heap.push o).push { cls := .type "enumerate", data := .fields #[.none, .bool false, .ref s.heap.objs.size, rawInt 0, .none, .none] } }) :=
  .of_wp fun prog w A R s h => by
    obtain ⟨hp, g, d, tz, oz⟩ := s; obtain ⟨h1, h⟩ := h
    have hsub := sub_enumerate
    have q1 : ∀ {A' : Around} {E : Value → Shared → Prop} {Q : Value → Shared → Prop}, Q (.ref hp.objs.size) ⟨hp.push o, g, d, tz, oz⟩ → wpAny (model prog w) A' (pyIter v) Q E ⟨hp, g, d, tz, oz⟩ :=
      fun q => B.iter prog w _ _ ⟨hp, g, d, tz, oz⟩ _ h1 q
    wp_walk using q1
    refine wpAny_stack_any fun st => wpAny_pure ?_
    split
    · rename_i c _ _ _ _ _
      cases (c == Value.type "enumerate")
      · wp_walk using q1
        exact ⟨_, rfl, h⟩
      · wp_walk using q1
        exact ⟨_, rfl, h⟩
    · wp_walk using q1
      exact ⟨_, rfl, h⟩
section
variable {prog : Program} {w : World} {A : Around} {E : Value → Shared → Prop} {s : Shared}
theorem enum_one {v : Value} {o : Obj} {H : Heap → Prop} {Q : Value → Shared → Prop} (B : Begins v o H) (h1 : H s.heap)
    (h : ∀ h', IsEnum h' (s.heap.objs.size + 1) s.heap.objs.size 0 .none → h'.get? s.heap.objs.size = some o → h'.objs.size = s.heap.objs.size + 2 →
      (∀ b o, s.heap.get? b = some o → h'.get? b = some o) → Q (.ref (s.heap.objs.size + 1)) { s with heap := h' }) :
    wpAny (model prog w) A (call (.type "enumerate") [v]) Q E s := by
  refine callType_new F.called_enumerate (by decide) (F.typeCall_enumerate_1 _) (F.newCall_enumerate_1 _) (fun obj => F.args_object_init_2 obj _) F.entry_enumerate_new
    (made_enumB B) ⟨h1, ?_⟩
  have hZ : (s.heap.push o).objs.size = s.heap.objs.size + 1 := Heap.size_push ..
  show _ ∧ _
  rw [hZ]
  have he : IsEnum ((s.heap.push o).push { cls := .type "enumerate", data := .fields #[.none, .bool false, .ref s.heap.objs.size, rawInt 0, .none, .none] }) (s.heap.objs.size + 1) s.heap.objs.size 0 .none := by
    have := Heap.get?_push_size (s.heap.push o) (o := { cls := .type "enumerate", data := .fields #[.none, .bool false, .ref s.heap.objs.size, rawInt 0, .none, .none] }) rfl
    rw [hZ] at this; exact this
  refine ⟨⟨_, he, rfl⟩, h _ he (Heap.get?_push_of_some _ (Heap.get?_push_size _ B.free)) (by rw [Heap.size_push, hZ]) fun b o x => Heap.get?_push_of_some _ (Heap.get?_push_of_some _ x)⟩
end
/-- the tuple at a, each item with vz number in a new pair -/
def IteT (K : PySem.W.Frag) (a : Addr) : It :=
  ⟨fun i H => ∃ (xs : List V) (x : V), SqT K H a xs ∧ xs[i]? = some x, fun i H v H' => ∃ T x, v = .ref T ∧ H T = none ∧ H' = upd H T (.tup [.int (i : Nat), x]) ∧ ∀ xs, SqT K H a xs → xs[i]? = some x, fun i H => ∃ xs : List V, SqT K H a xs ∧ xs.length ≤ i⟩
theorem ne_enum {h : Heap} {e it a : Addr} {i : Int} {old : Value} {vz : Array Value} (he : IsEnum h e it i old) (p : IsTup h a vz) : e ≠ a := fun z => by
  obtain ⟨o, hO, hC, _⟩ := p
  rw [← z, he] at hO
  cases hO
  exact absurd (Value.type.inj hC) (by decide)
theorem turn_enumT {P : Program} {w : World} {K : PySem.W.Frag} {elts : List Expr} {kk : Nat} {tpos : Pos} (a e it : Addr) :
    Turn P w K (.Tuple elts kk tpos) (IteT K a) [e, it] e (fun i h => (∃ old, IsEnum h e it ((i : Nat) : Int) old) ∧ h.IsTupleIter it a i ∧ e ≠ it ∧ a ≠ it) where
  mem := by simp
  obj := fun i h st b hb => by
    obtain ⟨⟨old, he⟩, ⟨o, hO, hC, hD⟩, _⟩ := st
    have e' : b = e ∨ b = it := by simpa using hb
    rcases e' with z | z
    · rw [z]; exact ⟨_, he, fun v q => nomatch q⟩
    · rw [z]; exact ⟨o, hO, fun v q => by rw [hD] at q; cases q⟩
  keep := fun i h h' st k => let ⟨⟨old, he⟩, hi, nEI⟩ := st; ⟨⟨old, k e (by simp) _ he⟩, hi.at fun o q => k it (by simp) o q, nEI⟩
  item := by
    intro X hP hw hK hC i pins s σ H E I hf st hg
    subst hP hw hK
    obtain ⟨⟨old, he⟩, hIt, nEI, nAI⟩ := st
    obtain ⟨xs, x, hSq, hx⟩ := hg
    obtain ⟨vz, rz, p, hZ⟩ := I.tuple hSq
    obtain ⟨u, hu, ru⟩ := rz.get hx
    have ltE : e < s.heap.objs.size := Heap.lt_size he
    have ltI : it < s.heap.objs.size := by obtain ⟨_, q, _⟩ := hIt; exact Heap.lt_size q
    have hlt : i < vz.toArray.size := by
      have := (List.getElem?_eq_some_iff.mp hu).1
      simpa using this
    refine wpAny_pyNext_enum_itemD (Draws.tuple (show X.A.in1.handled = none from I.ok.hd hC) it a nAI vz.toArray) he ⟨hIt, p⟩ hlt nEI (by
      intro hm
      have e' : e = it ∨ e = a := by simpa using hm
      rcases e' with z | z
      · exact nEI z
      · exact ne_enum he p z) fun x' h' tz hP' hO hit' hT hSz kp => ?_
    have ex : x' = u := by
      have h2 : vz.toArray[i]? = some u := by simpa using hu
      rw [h2] at hP'
      exact (Option.some.inj hP').symm
    subst ex
    refine ⟨_, rfl, wpAny_letOwnedTupleGo_enum (s := { s with heap := h', toks := tz + 1 }) hO fun h'' he' sbu => ?_⟩
    have hT2 : h''.get? s.heap.objs.size = some { cls := .type "tuple", data := .seq #[.int i tz, x'] } := (sbu.2 _ (Nat.ne_of_gt ltE)).trans hT
    have new : ObjOk X.prog X.w (upd H s.heap.objs.size (.tup [.int (i : Nat), x])) h'' s.heap.objs.size (.tup [.int (i : Nat), x]) :=
      ⟨by show 2 ≤ sizeLine; decide, [.int i tz, x'], .cons ⟨_, rfl⟩ (.cons ru .nil), ⟨_, hT2, rfl, _, rfl⟩⟩
    have I1 : Inv X pins σ (upd H s.heap.objs.size (.tup [.int (i : Nat), x])) { s with heap := h'', toks := tz + 1 } :=
      I.turnedNew (ch := [e, it]) (fun b ob hb q => (sbu.2 b (fun z => hb (by simp [z]))).trans (kp b ob (fun z => hb (by simp [z])) (fun z => hb (by simp [z])) q)) hf (Nat.le_refl _) new
    refine ⟨.ref s.heap.objs.size, _, I1, rfl, ⟨_, x, rfl, I.hok.fresh (Nat.le_refl _), rfl, fun ys hy => by rw [I.tuple_inj hy hSq]; exact hx⟩, ⟨⟨x', ?_⟩, hit'.1.at fun o q => (sbu.2 it (Ne.symm nEI)).trans q, nEI, nAI⟩, fun b hb => ?_⟩
    · have e1 : ((i + 1 : Nat) : Int) = (i : Int) + 1 := by omega
      rw [e1]; exact he'
    · have hb' : b < s.heap.objs.size := by
        have e' : b = e ∨ b = it := by simpa using hb
        rcases e' with z | z
        · rw [z]; exact ltE
        · rw [z]; exact ltI
      rw [upd_ne (Nat.ne_of_lt hb')]
      exact (hf b hb).1
  done := by
    intro X hP hw hK hC i pins s σ H E I hf st hg
    subst hP hw hK
    obtain ⟨⟨old, he⟩, hIt, nEI, nAI⟩ := st
    obtain ⟨xs, hSq, hx⟩ := hg
    obtain ⟨vz, rz, p, hZ⟩ := I.tuple hSq
    obtain ⟨f0, f1, f2, f3, f4, f5⟩ := hf it (by simp)
    have hl := rz.length
    have hT : s.TypeIs (.ref e) "enumerate" := ⟨_, he, rfl⟩
    unfold pyNext
    refine wpAny_bind (wpAny_attempt (wpAny_callSpecial?_slot (name := Str.ofString "__next__") hT F.slot_enumerate_next
      (wpAny_call_entry F.slot_enumerate_next hT F.entry_enumerate_next ?_ (F.args_enumerate_next_1 _))))
    show wpAny _ _ (field (.ref e) 2 >>= _) _ _ _
    refine wpAny_bind (wpAny_field he rfl (x := .ref it) rfl ?_)
    refine wpAny_bind (wpAny_nextOf_tuple_end (show X.A.in1.handled = none from I.ok.hd hC) hIt p (by simp; omega) fun h' x he' hx' => ?_)
    obtain ⟨o, hO, hc'⟩ := hx'
    refine wpAny_bind (wpAny_isInstance (T := "StopIteration") (b := true) ⟨o, hO, hc'⟩ isSubtype_stop ?_)
    exact wpAny_pure ⟨rfl, I.turned (t' := s.toks) (fun b o hb q => he' b o hb q) f0 f1 f3 f4 f5⟩
  self := fun A i s Q E st h => let ⟨⟨_, he⟩, _⟩ := st; wpAny_pyIter_enum he h
def iEnumT (K : PySem.W.Frag) (ta : TA) : TI := fun σ H R => ta σ H fun vs H1 => ∃ a xs, vs = [.ref a] ∧ SqT K H1 a xs ∧ R (IteT K a) H1
theorem pi_enumT {X : Cx} {e : Expr} {ta : TA} {p pos tpos : Pos} {elts : List Expr} {kk : Nat} (hg : Gl X "enumerate") (hm : X.mg "enumerate" = none) (ha : PA X [e] ta) (hs : starEach [e] X.env = [(false, eval e X.env)] := by rfl) :
    PI X (.Tuple elts kk tpos) (.Call (.Name "enumerate" p) [e] [] pos) (iEnumT X.K ta) := by
  refine ⟨fun pins s σ H R I h => ?_⟩
  refine Call_ (ld_blt I hg hm boot_enumerate (PyProof.Rows.callWith_type1 (thn (ha.run pos pins s σ H _ I h) fun us s1 ⟨vs, H1, I1, r1, q1⟩ => ?_) hs rfl))
  obtain ⟨a, xs, ex, hSq, q⟩ := q1
  subst ex
  cases r1 with
  | cons r rr =>
    cases rr
    cases r
    obtain ⟨vz, rz, p', hZ⟩ := I1.tuple hSq
    have hal : a < s1.heap.objs.size := by obtain ⟨_, q', _⟩ := id p'; exact Heap.lt_size q'
    refine enum_one (begins_tuple a vz.toArray) p' fun h' he hIt hSz kp => wpAny_pyIter_enum he ?_
    have I2 : Inv X pins σ H1 { s1 with heap := h' } := I1.kept (t' := s1.toks) kp
    refine ⟨s1.heap.objs.size + 1, [s1.heap.objs.size + 1, s1.heap.objs.size], _, _, H1, rfl, I2, turn_enumT a (s1.heap.objs.size + 1) s1.heap.objs.size, ⟨⟨.none, he⟩, ⟨_, hIt, rfl, rfl⟩, Nat.succ_ne_self _, Nat.ne_of_lt hal⟩, fun b hb => ?_, q⟩
    have e' : b = s1.heap.objs.size + 1 ∨ b = s1.heap.objs.size := by simpa using hb
    have hle : s1.heap.objs.size ≤ b := by
      rcases e' with z | z
      · rw [z]; exact Nat.le_add_right _ _
      · rw [z]; exact Nat.le_refl _
    exact I1.fpOk hle (I1.hok.fresh hle)
/-! ### sorted(a tuple of ints) -/
def rSortedTup (K : PySem.W.Frag) : List V → Hp → VK → Prop := fun vs H Q => ∃ (a : Addr) (ns : List Int), vs = [V.ref a] ∧ SqT K H a (ns.map V.int) ∧ ns.length < 64 ∧
  ∀ (ns' : List Int) (p : Addr), ns'.Perm ns → ns'.Pairwise (· ≤ ·) → H p = none → Q (.ref p) (upd H p (.lst (ns'.map V.int)))
section
variable {prog : Program} {w : World} {A : Around} {E : Value → Shared → Prop} {s : Shared}
theorem collect_tup {l : Addr} {vs : List Value} {Q : List Value → Shared → Prop} (hl : IsTup s.heap l vs.toArray)
    (h : Q vs { s with heap := (s.heap.push (seqObj "list" #[] 0)).update s.heap.objs.size (Obj.mapSeq (· ++ vs.toArray)) }) (hSz : vs.length ≤ sizeLine := by size_fits) :
    wpAny (model prog w) A (collect (.ref l)) Q E s := by
  obtain ⟨o, hO, hC, n, hD⟩ := id hl
  unfold collect
  refine wpAny_bind (wpAny_runValue (codeAny_builtin F.entry_proto_collect ?_))
  rw [Around.under_plainId F.plain_proto_collect _]
  show wpAny _ A.in1 (newList [] >>= fun l' => again (.builtin "list.__iadd__" ⟨[l', .ref l], []⟩)) _ _ s
  refine wpAny_bind (wpAny_newList (wpAny_pure ⟨plainId_quiet F.plain_list_iadd _, codeAny_builtin F.entry_list_iadd ?_⟩))
  rw [Around.under_plainId F.plain_list_iadd _]
  show wpAny _ _ (Builtin.List.listExtendWith (.ref s.heap.objs.size) (.ref l) (.ref s.heap.objs.size)) _ _ { s with heap := s.heap.push (seqObj "list" #[] 0) }
  unfold Builtin.List.listExtendWith
  have ho' : (s.heap.push (seqObj "list" #[] 0)).get? l = some o := Heap.get?_push_of_some _ hO
  refine wpAny_bind (wpAny_typeOf (T := "tuple") ⟨o, ho', hC⟩ ?_)
  have hT0 : (Value.type "tuple" == Value.type "tuple") = true := by rfl
  rw [if_pos (by rw [hT0]; simp)]
  refine wpAny_bind (listItems_at ho' hD ?_)
  refine wpAny_bind (listItems_at (xs := #[]) (n := 0) (Heap.get?_push_size _ rfl) rfl ?_)
  rw [if_neg (by simp)]
  refine wpAny_bind (listUpdate_at (xs := #[]) (n := 0) (Heap.get?_push_size _ rfl) rfl ?_ (Nat.zero_le _) (by show (#[] ++ vs.toArray).size ≤ sizeLine + 1; simp only [Array.size_append, List.size_toArray, List.length_nil]; omega))
  refine wpAny_pure ?_
  show wpAny (model prog w) A (do
      let o ← load s.heap.objs.size
      match o.data with
      | .seq xs _ => pure xs.toList
      | _ => unsupported "internal:collect") Q E { s with heap := (s.heap.push (seqObj "list" #[] 0)).update s.heap.objs.size (Obj.mapSeq (· ++ vs.toArray)) }
  refine wpAny_bind (wpAny_load (get?_update_seq (Heap.get?_push_size _ rfl) _) ?_)
  show wpAny _ _ (pure ((#[] : Array Value) ++ vs.toArray).toList) Q E _
  rw [show ((#[] : Array Value) ++ vs.toArray).toList = vs by simp]
  exact wpAny_pure h
theorem sorted_intsT {l : Addr} {vs : List Value} {ns : List Int} {Q : Value → Shared → Prop} (hl : IsTup s.heap l vs.toArray) (hI : IntsAre vs ns) (h64 : vs.length < 64)
    (h : ∀ (out : Array Value) (ns' : List Int), IntsAre out.toList ns' → ns'.Perm ns → ns'.Pairwise (· ≤ ·) → Q (.ref (s.heap.objs.size + 1)) { s with heap := sortedAll s.heap vs out }) :
    wpAny (model prog w) A (call (.builtin "sorted") [.ref l]) Q E s := by
  refine Calls.call_function_entry kind_sorted plain_sorted entry_sorted (args_sorted1 _) ?_
  unfold Builtin.«sorted»
  refine wpAny_bind (m := checkCount "sorted" 1 1 _) (wpAny_pure ?_)
  have hsz0 : vs.length ≤ sizeLine := by
    rw [sizeLine_eq]
    omega
  refine wpAny_bind (collect_tup (hSz := hsz0) hl ?_)
  refine wpAny_bind (wpAny_newList ?_)
  have hSz : ((s.heap.push (seqObj "list" #[] 0)).update s.heap.objs.size (Obj.mapSeq (· ++ vs.toArray))).objs.size = s.heap.objs.size + 1 := by
    rw [Heap.size_update, size_push']
  have hOL : (((s.heap.push (seqObj "list" #[] 0)).update s.heap.objs.size (Obj.mapSeq (· ++ vs.toArray))).push (seqObj "list" vs.toArray 0)).get? (s.heap.objs.size + 1) = some (seqObj "list" vs.toArray 0) := by
    rw [← hSz]; exact Heap.get?_push_size _ rfl
  show wpAny _ _ _ _ _ { s with heap := ((s.heap.push (seqObj "list" #[] 0)).update s.heap.objs.size (Obj.mapSeq (· ++ vs.toArray))).push (seqObj "list" vs.toArray 0) }
  rw [hSz]
  refine wpAny_bind (wpAny_holding (wpAny_call_entry slot_list_sort ⟨_, hOL, rfl⟩ entry_list_sort (list_sort_tree hOL hI h64 fun out ns' a1 a2 a3 => ⟨_, rfl, ?_⟩) (args_list_sort _)))
  exact wpAny_pure ⟨_, rfl, h out ns' a1 a2 a3⟩
end
theorem cr_sortedTup {X : Cx} : CallR X (.builtin "sorted") (rSortedTup X.K) := by
  intro pins s σ H vs us Q I r h
  obtain ⟨a, ns, rfl, hs, h64, q⟩ := h
  obtain ⟨vz, rz, hl, _⟩ := I.tuple hs
  rw [Vals.ref1 r]
  have hi := rz.ints
  refine sorted_intsT hl hi (by rw [hi.length]; exact h64) fun out ns' h1 h2 h3 => ?_
  obtain ⟨ep, he'⟩ := PyProof.Rows.sortedAll_at s.heap vz out
  have hLn : (ns'.map V.int).length ≤ sizeLine := by rw [List.length_map, h2.length_eq]; exact small64 h64
  exact ⟨.ref _, upd H (s.heap.objs.size + 1) (.lst (ns'.map V.int)), I.laid (t' := s.toks) (fun _ _ => PyProof.Rows.sortedAll_old) (Nat.le_succ _) ⟨hLn, out.toList, ep, vals_of_ints h1, he'⟩, rfl, q ns' _ h2 h3 (I.hok.fresh (Nat.le_succ _))⟩
end RH
set_option Elab.async false
set_option linter.all false
set_option maxRecDepth 100000
set_option maxHeartbeats 2000000
/-! Lambdas with parameters and captured names, as values: made, handed to a def of the text, called there. -/
namespace RH
open PySem PySem.Spec PyProof.Rows L2
open LamX (Tabs TabS TabB ExtN CodeO codeO_ne inv_table among_app)
open NdefX (NF CellsAt NScope startF ncx inv_startN codeO_at slotAt Caps cells_of upd_none)
/-- a lambda's words, what it captured, its code object -/
structure LF where
  qual : Str
  params : Arguments
  body : Expr
  scope : Scope
  cl : List (Str × Addr)
  c : Addr
abbrev LF.fd (F : LF) (pm ctv : Value) : FuncData := PySem.W.kla_fn "<lambda>" F.qual F.params F.body F.scope F.cl pm (.ref F.c) ctv
abbrev LF.nf (F : LF) : NF := ⟨"<lambda>", F.qual, F.params, [], F.scope, F.cl, F.c⟩
/-- the object at f is this lambda -/
def FnL (f : Addr) (F : LF) : HO := .ext fun h => ∃ (od : Option Addr) (sl : Array (Option Value)) (pm ctv : Value), h.get? f = some (⟨.type "function", od, .func (F.fd pm ctv), sl⟩ : Obj)
theorem fnL_ne {f : Addr} {F : LF} (ps : Array Value) : FnL f F ≠ .tbl ps := fun z => by
  unfold FnL at z
  cases z
theorem fnL_at {P : Program} {w : World} {H : Hp} {h : Heap} {f : Addr} {F : LF} (hok : HOk P w H h) (e : H f = some (FnL f F)) : ∃ (od : Option Addr) (sl : Array (Option Value)) (pm ctv : Value), h.get? f = some (⟨.type "function", od, .func (F.fd pm ctv), sl⟩ : Obj) := (hok f _ e).1
section
variable {X : Cx} {pins : List (Addr × Obj)} {σ : L2.St} {H : Hp} {s : Shared}
theorem inv_lam {F : LF} {h' : Heap} {t' : Nat} {pm ctv : Value} (I : Inv X pins σ H { s with heap := h', toks := t' }) :
    Inv X pins σ (upd H h'.objs.size (FnL h'.objs.size F)) { s with heap := h'.push { cls := .type "function", data := .func (F.fd pm ctv) }, toks := t' } := by
  refine I.laid (t' := t') (a := h'.objs.size) (fun b u e => Heap.get?_push_of_some _ e) (Nat.le_refl _) ?_
  have e : (h'.push ({ cls := .type "function", data := .func (F.fd pm ctv) } : Obj)).get? h'.objs.size = some ({ cls := .type "function", data := .func (F.fd pm ctv) } : Obj) := Heap.get?_push_size _ rfl
  exact ⟨⟨_, _, pm, ctv, e⟩, ⟨_, e⟩, fun h1 h2 ⟨od, sl, p, t, z⟩ st => ⟨od, sl, p, t, st _ z⟩⟩
/-- the lambda is made -/
theorem lam_made {T : List (Addr × Str)} {c P : Addr} {params : Arguments} {body : Expr} {scope : Scope} {pos : Pos} {E : Value → Shared → Prop} {Q : Value → Shared → Prop} (I : Inv X pins σ H s) (TB : TabB X.base X.mg c P) (hcode : X.env.code = .ref c)
    (hm : (P, X.env.qual ++ "<lambda>") ∈ T) (hu : ∀ p ∈ T, p.1 = P → p.2 = X.env.qual ++ "<lambda>") (hT : Tabs T H) (hdef : defaultsOf params X.env = ([], [])) (hfree : ∀ y ∈ scope.names, y.2 = .free → ∃ c, X.env.cells.lookup y.1 = some c)
    (h : ∀ (f c' : Addr) (H1 : Hp) (s' : Shared), Inv X pins σ H1 s' → ExtN H H1 → (∀ b, H1 b = none → H b = none) → Tabs T H1 → H f = none →
      H1 f = some (FnL f ⟨X.env.qual ++ "<lambda>", params, body, scope, cloFrom X.env.cells scope.names [], c'⟩) → H1 c' = some (CodeO c' (X.env.qual ++ "<lambda>")) → Q (.ref f) s') :
    wpAny (model X.prog X.w) X.A (eval (.Lambda params body scope pos) X.env) Q E s := by
  obtain ⟨ps, hP, ht, ha⟩ := hT _ hm
  refine PySem.W.kla_eval hdef ?_
  have bP : s.heap.BuiltinsAt X.mg P := TB.bm.keeps I.bk
  have hP' : s.heap.get? P = some { cls := .none, data := .fields ps } := I.hok P _ hP
  cases hc : codeAmong pos ps.toList with
  | none =>
    refine PySem.W.kla_makeFunction (mg := X.mg) (c := c) (P := P) (ps := ps) (closure_ok hfree) I.ok.glob (I.mod.glob.keeps I.bk) hcode (TB.code.keeps I.bk) hP' ht hc TB.gP bP fun c' ctv h' tk hx hge hlt hrec htb => ?_
    obtain ⟨c2, oc, vs, t, e2, hoc, hd, hv⟩ := hrec
    cases e2
    have nC : H c' = none := I.hok.fresh hge
    have I1 := inv_table (t' := tk) (more := #[rawInt pos.line, rawInt pos.col, .ref c']) (h' := h') I hP (fun b o hb e => hx b o hb e) htb hge ⟨oc, vs, t, hoc, hd, hv⟩
    generalize hG : upd (upd H P (.tbl (ps ++ #[rawInt pos.line, rawInt pos.col, .ref c']))) c' (CodeO c' (X.env.qual ++ "<lambda>")) = G at I1
    have hE : ExtN H G := fun b o e n => by
      rw [← hG, upd_ne (ne_of_none e nC), upd_ne (fun z => n ps (Option.some.inj (e.symm.trans (by rw [z]; exact hP))))]
      exact e
    have gP : G P = some (.tbl (ps ++ #[rawInt pos.line, rawInt pos.col, .ref c'])) := by rw [← hG, upd_ne (ne_of_none hP nC), upd_same]
    have gC : G c' = some (CodeO c' (X.env.qual ++ "<lambda>")) := by rw [← hG, upd_same]
    have gO : ∀ b ps', b ≠ P → H b = some (.tbl ps') → G b = some (.tbl ps') := fun b ps' nb e => by
      rw [← hG, upd_ne (ne_of_none e nC), upd_ne nb]
      exact e
    have gN : ∀ b, G b = none → H b = none := fun b e => by
      rw [← hG] at e
      exact upd_none (upd_none e)
    have eL : (ps ++ #[rawInt pos.line, rawInt pos.col, .ref c']).toList = ps.toList ++ [rawInt pos.line, rawInt pos.col, .ref c'] := by simp
    have T1 : Tabs T G := fun p hp => by
      by_cases hb : p.1 = P
      · rw [hu p hp hb, hb]
        refine ⟨_, gP, by rw [eL]; exact PySem.TriplesOk_snoc _ _ _ _ ht, fun p' cv hcv => ?_⟩
        rw [eL] at hcv
        rcases among_app _ ht hcv with z | z
        · obtain ⟨c0, e1, e2⟩ := ha p' cv z
          exact ⟨c0, e1, hE _ _ e2 codeO_ne⟩
        · exact ⟨c', z, gC⟩
      · obtain ⟨ps', a1, a2, a3⟩ := hT p hp
        refine ⟨ps', gO _ _ hb a1, a2, fun p' cv hcv => ?_⟩
        obtain ⟨c0, e1, e2⟩ := a3 p' cv hcv
        exact ⟨c0, e1, hE _ _ e2 codeO_ne⟩
    have nF : G h'.objs.size = none := I1.hok.fresh (Nat.le_refl _)
    have I2 := inv_lam (F := ⟨X.env.qual ++ "<lambda>", params, body, scope, cloFrom X.env.cells scope.names [], c'⟩) (pm := (X.mg "__name__").getD .none) (ctv := ctv) I1
    refine h h'.objs.size c' _ _ I2 (fun b o e n => ?_) (fun b e => gN b (upd_none e)) (T1.ext fun b o e => ?_) (gN _ nF) upd_same ?_
    · have e1 := hE b o e n
      exact (upd_ne (ne_of_none e1 nF)).trans e1
    · exact (upd_ne (ne_of_none e nF)).trans e
    · exact (upd_ne (ne_of_none gC nF)).trans gC
  | some cv =>
    obtain ⟨c', e, hco⟩ := ha pos cv hc
    subst e
    refine PySem.W.kla_makeFunctionHit (mg := X.mg) (c := c) (P := P) (ps := ps) (closure_ok hfree) I.ok.glob (I.mod.glob.keeps I.bk) hcode (TB.code.keeps I.bk) hP' ht hc bP fun ctv h' tk hx hsz => ?_
    have I1 : Inv X pins σ H { s with heap := h', toks := tk } := I.kept hx
    have nF : H h'.objs.size = none := I1.hok.fresh (Nat.le_refl _)
    have I2 := inv_lam (F := ⟨X.env.qual ++ "<lambda>", params, body, scope, cloFrom X.env.cells scope.names [], c'⟩) (pm := (X.mg "__name__").getD .none) (ctv := ctv) I1
    refine h h'.objs.size c' _ _ I2 (fun b o e n => ?_) (fun b e => upd_none e) (hT.ext fun b o e => ?_) nF upd_same ?_
    · exact (upd_ne (ne_of_none e nF)).trans e
    · exact (upd_ne (ne_of_none e nF)).trans e
    · exact (upd_ne (ne_of_none hco nF)).trans hco
end
/-- lambda a, b: .. as a value -/
def tLamE (T : List (Addr × Str)) (mk : Addr → LF) : TE := fun _ H Q => Tabs T H ∧ ∀ (f c' : Addr) (H1 : Hp), ExtN H H1 → (∀ b, H1 b = none → H b = none) → Tabs T H1 → H f = none → H1 f = some (FnL f (mk c')) → H1 c' = some (CodeO c' (mk c').qual) → Q (.ref f) H1
theorem pe_lam {X : Cx} {T : List (Addr × Str)} {c P : Addr} {params : Arguments} {body : Expr} {scope : Scope} {pos : Pos} (TB : TabB X.base X.mg c P) (hcode : X.env.code = .ref c)
    (hm : (P, X.env.qual ++ "<lambda>") ∈ T) (hu : ∀ p ∈ T, p.1 = P → p.2 = X.env.qual ++ "<lambda>") (hdef : defaultsOf params X.env = ([], []))
    (hfree : ∀ y ∈ scope.names, y.2 = .free → X.env.scope.names.lookup y.1 = some .cell ∨ X.env.scope.names.lookup y.1 = some .free) :
    PE X (.Lambda params body scope pos) (tLamE T fun c' => ⟨X.env.qual ++ "<lambda>", params, body, scope, cloFrom X.env.cells scope.names [], c'⟩) := by
  refine ⟨fun pins s σ H Q I h => ?_⟩
  obtain ⟨hT, q⟩ := h
  refine lam_made I TB hcode hm hu hT hdef (fun y hy e => (hfree y hy e).elim (fun z => I.ok.has _ (.inl z)) fun z => I.ok.has _ (.inr z)) fun f c' H1 s' I' e n T' hf h1 h2 => ?_
  exact ⟨.ref f, H1, I', rfl, q f c' H1 e n T' hf h1 h2⟩
/-! ### what a lambda promises -/
structure LOk (P : Program) (w : World) (K : PySem.W.Frag) (mg : Str → Option Value) (base : Heap) (CX : CXT) (k : Nat) (f : Addr) (F : LF) (ps fr : List Str) (sp : List (Option V) → Sp) : Prop where
  len : ∀ ws vs H Q E, sp ws vs H Q E → vs.length = ps.length
  run : ∀ (A : Around) (outer : List Env) (s : Shared) (H : Hp) (us : List Value) (vs : List V) (ws : List (Option V)) (Q : VK) (E : XK), Room k A → Env0 P w K mg base A outer s H → H f = some (FnL f F) → H F.c = some (CodeO F.c F.qual) →
    CellsAt F.cl fr ws s.heap H → Vals vs us → sp ws vs H Q E → codeAny (model P w) A (.call (.ref f) ⟨us, []⟩) (CR CX outer P w H s Q E) s
section
variable {CX : CXT} {P : Program} {w : World} {K : PySem.W.Frag} {mg : Str → Option Value} {base : Heap} {N ps fr : List Str} {F : LF} {f : Addr} {k j : Nat} {sp : List (Option V) → Sp}
/-- a lambda by its body -/
theorem lok_of (S : NScope N ps fr F.scope) (hb : ∀ (pm ctv : Value) (us : List Value), us.length = ps.length → bindArgs (F.fd pm ctv) ⟨us, []⟩ = pure (ps.zip us)) (len : ∀ ws vs H Q E, sp ws vs H Q E → vs.length = ps.length)
    (hbody : ∀ (A : Around) (outer : List Env) (s : Shared) (H : Hp) (vs : List V) (ws : List (Option V)) (Q : VK) (E : XK), Room k (A.deeper (NdefX.envF F.nf f s.heap.objs.size)) → ws.length = fr.length → sp ws vs H Q E →
      ∃ t, PE (ncx CX P w K mg base N F.nf f A outer s H E) F.body t ∧ t (startF N vs ws) H Q) :
    LOk P w K mg base CX (k + 1) f F ps fr sp := by
  refine ⟨len, fun A outer s H us vs ws Q E hr e0 hf hc C r hsp => ?_⟩
  have hl := len _ _ _ _ _ hsp
  have lim : s.heap.NoLimit := e0.mod.nolimit.keeps fun b o e => (e0.bs b o e).1
  obtain ⟨od, sl, pm, ctv, ho⟩ := fnL_at e0.hok hf
  refine PySem.W.kla_callFunE hr.depth ho rfl S.co S.gen rfl (codeO_at e0.hok hc) ?_
  rw [hb pm ctv us (by rw [← r.length]; exact hl)]
  refine wpAny_pure (wpAny_newFunctionEnv S.nocell (fun ⟨n, _⟩ hy => S.par n (List.of_mem_zip hy).1) (fun h₁ hns hsb => ⟨lim.fresh _ hsb, ?_⟩) S.kind)
  show codeAny _ _ (.expr F.body (NdefX.envF F.nf f s.heap.objs.size)) _ _
  have kp : ∀ b o, s.heap.get? b = some o → h₁.get? b = some o := fun b o e => hsb.extBut b o (Nat.ne_of_lt (Heap.lt_size e)) (Heap.get?_push_of_some _ e)
  obtain ⟨t, ht, hq⟩ := hbody A outer s H vs ws Q E (hr.deeper _) C.len hsp
  have I : Inv (ncx CX P w K mg base N F.nf f A outer s H E) [] (startF N vs ws) H { s with heap := h₁, toks := s.toks + (ps.zip us).length } := inv_startN (F := F.nf) S hr.hd e0 hl r C hns kp
  refine PySem.W.kla_codeExpr (wpAny_mono (ht.run [] _ (startF N vs ws) H Q I hq) (fun v s' hs => ?_) fun e s' hs => hs)
  obtain ⟨v', H', J, rv, q⟩ := hs
  exact ⟨v', H', J.os, J.bare, J.base, J.hok, rv, q⟩
end
/-! ### a def that is handed things that can be called -/
/-- f may be called, from any frame that began at s, H below outer, while live holds -/
structure Callable (P : Program) (w : World) (K : PySem.W.Frag) (mg : Str → Option Value) (base : Heap) (CX : CXT) (k : Nat) (f : Addr) (live : Hp → Prop) (sp : Sp) (outer : List Env) (s : Shared) (H : Hp) : Prop where
  at_ : ∀ (X : Cx), X.prog = P → X.w = w → X.K = K → X.base = base → X.s_0 = s → X.H_0 = H → ∀ pins σ H' s', Inv X pins σ H' s' → live H' → PySem.W.FnAt f s'.heap
  run : ∀ (X : Cx), X.prog = P → X.w = w → X.K = K → X.mg = mg → X.base = base → X.s_0 = s → X.H_0 = H → X.outer = outer → X.ex = [] → Room k X.A → ∀ pins σ H' s' us vs Q E, Inv X pins σ H' s' → live H' → Vals vs us → Passes CX X E → sp vs H' Q E →
    wpAny (model P w) X.A (call (.ref f) us) (EP X pins σ Q) X.xe s'
section
variable {CX : CXT} {P : Program} {w : World} {K : PySem.W.Frag} {mg : Str → Option Value} {base : Heap} {ps fr : List Str} {k : Nat} {f : Addr} {ws : List (Option V)} {outer : List Env} {s : Shared} {H : Hp}
/-- a lambda is alive while its object and its code stand -/
def liveL (f : Addr) (F : LF) : Hp → Prop := fun H => H f = some (FnL f F) ∧ H F.c = some (CodeO F.c F.qual)
theorem callable_lam {F : LF} {sp : List (Option V) → Sp} (Fn : LOk P w K mg base CX k f F ps fr sp) (C : CellsAt F.cl fr ws s.heap H) (nf : ∀ y c, F.cl.lookup y = some c → c ∉ frs outer) :
    Callable P w K mg base CX k f (liveL f F) (sp ws) outer s H := by
  refine ⟨fun X _ _ _ _ _ _ pins σ H' s' I l => ?_, fun X e1 e2 e3 e4 e5 e6 e7 e8 e9 hr pins σ H' s' us vs Q E I l r hx q => ?_⟩
  · obtain ⟨od, sl, pm, ctv, ho⟩ := fnL_at I.hok l.1
    exact ⟨_, od, _, sl, ho⟩
  · subst e1 e2 e3 e4 e5 e6 e7 e8
    have C2 := NdefX.CellsAt.later (X := X) C nf (fun y c _ z => by rw [e9] at z; exact absurd z (by simp)) I
    refine wpAny_call (codeAny_mono (Fn.run X.A X.stack s' H' us vs ws Q E hr I.env0 l.1 l.2 C2 r q) fun r s' hq => ?_)
    cases r with
    | error e => exact hx pins σ H' _ e s' I hq
    | ok fl =>
      cases fl with
      | ret u => exact I.after hq
      | next => exact False.elim hq
      | brk => exact False.elim hq
      | cont => exact False.elim hq
end
def tCan (f : Addr) (live : Hp → Prop) (i : Nat) (sp : Sp) (E : XK) (t : TA) : TE := fun σ H Q => σ[i]? = some (some (.ref f)) ∧ live H ∧ t σ H fun vs H1 => live H1 ∧ sp vs H1 Q E
section
variable {X : Cx} {CX : CXT} {f : Addr} {live : Hp → Prop} {i j k : Nat} {x : Str} {sp : Sp} {E : XK} {t : TA} {e : Expr} {es : List Expr} {p pos : Pos}
theorem pe_can (Cb : Callable X.prog X.w X.K X.mg X.base CX k f live sp X.outer X.s_0 X.H_0) (nx : X.ex = []) (hr : Room j X.A) (hk : k ≤ j) (hx : Passes CX X E)
    (hN : X.N[i]? = some x) (hv : Vis X.env.scope x) (ha : PA X (e :: es) t) (hd : (x == ("__debug__" : Str)) = false := by decide) (hcd : (x == ("__classdict__" : Str)) = false := by decide)
    (he : starEach (e :: es) X.env = (false, eval e X.env) :: starEach es X.env := by rfl) (hpl : (backTo pos (starEach es X.env)).any (·.1) = false := by rfl) :
    PE X (.Call (.Name x p) (e :: es) [] pos) (tCan f live i sp E t) := by
  refine ⟨fun pins s σ H Q I h => ?_⟩
  obtain ⟨hs, hl, ht⟩ := h
  refine wpAny_Call_Name_kw (thn ((pe_var (pos := p) hN hv hd hcd).run pins s σ H (fun v H1 => v = .ref f ∧ H1 = H) I ⟨.ref f, hs, rfl, rfl⟩) fun u s1 ⟨v, H1, I1, r1, q1⟩ => ?_)
  obtain ⟨ev, eH⟩ := q1
  subst ev
  rw [eH] at I1
  obtain rfl : u = Value.ref f := r1
  refine PySem.W.callWith_F (first := []) (Cb.at_ X rfl rfl rfl rfl rfl rfl pins σ H s1 I1 hl) (thn (ha.run pos pins s1 σ H _ I1 ht) fun us s2 ⟨vs, H2, I2, r, h1, q⟩ => ⟨Cb.at_ X rfl rfl rfl rfl rfl rfl pins σ H2 s2 I2 h1, ?_⟩) he hpl
  exact Cb.run X rfl rfl rfl rfl rfl rfl rfl rfl nx (hr.mono hk) pins σ H2 s2 us vs Q E I2 h1 r hx q
end
/-- a def's promise that leans on what it is handed -/
structure FnC (P : Program) (w : World) (K : PySem.W.Frag) (mg : Str → Option Value) (base : Heap) (CX : CXT) (k : Nat) (f : Addr) (fd : FuncData) (ps : List Str) (Pre : List Env → Shared → Hp → Prop) (sp : Sp) : Prop where
  len : ∀ vs H Q E, sp vs H Q E → vs.length = ps.length
  run : ∀ (A : Around) (outer : List Env) (s : Shared) (H : Hp) (args : Args) (us : List Value) (vs : List V) (Q : VK) (E : XK), Room k A → Env0 P w K mg base A outer s H → BindsTo s fd args (ps.zip us) → Vals vs us → Pre outer s H → sp vs H Q E →
    codeAny (model P w) A (.call (.ref f) args) (CR CX outer P w H s Q E) s
section
variable {P : Program} {w : World} {K : PySem.W.Frag} {mg : Str → Option Value} {base : Heap}
theorem fnC_of {x qual : Str} {st : Stmt} {f : Addr} {fd : FuncData} {N ps : List Str} {k : Nat} {sp : Sp} {Pre : List Env → Shared → Hp → Prop} (F : Fun K x qual st f fd) (S : FnScope N ps (defScope st)) (len : ∀ vs H Q E, sp vs H Q E → vs.length = ps.length)
    (hbody : ∀ (cdv : Value) (A : Around) (outer : List Env) (s : Shared) (H : Hp) (vs : List V) (Q : VK) (E : XK), Room k (A.deeper (envOfC qual (defScope st) s.heap.objs.size f cdv)) → Pre outer s H → sp vs H Q E →
      ∃ t, PSs (cxOf CX0 P w K mg base N qual (defScope st) f cdv A outer s H E).nox (defBody st) t ∧ t { nx := fun _ H' => Q .non H', rt := Q } (start N vs) H) : FnC P w K mg base CX0 (k + 1) f fd ps Pre sp := by
  obtain ⟨oc, od, kV, doc, pm, an, cdv, ct, osl, rfl, lk, hcd⟩ := F.ex
  refine ⟨len, fun A outer s H args us vs Q E hr e0 hb r hP hsp => ?_⟩
  have hl := len _ _ _ _ hsp
  have KX : K.In s.heap := e0.mod.kin.keeps fun b o e => (e0.bs b o e).1
  have lim : s.heap.NoLimit := e0.mod.nolimit.keeps fun b o e => (e0.bs b o e).1
  have hkind : ∀ y ∈ ps.zip us, (defScope st).names.lookup y.1 = some .local ∨ ((defScope st).names.lookup y.1 = some .cell ∧ ((cellsFrom (s.heap.objs.size + 1) (defScope st).names []).lookup y.1).isSome = true) := fun y hy =>
    (S.par y.1 (List.of_mem_zip (a := y.1) (b := y.2) hy).1).elim .inl fun q => .inr ⟨q, PySem.W.cellsFrom_some _ _ _ (.inl q)⟩
  refine codeAny_call_function hr.depth (KX _ _ lk) rfl S.co S.gen rfl (PySem.W.codeRec_of KX hcd) (hb _ _ _ _ ?_)
  refine wpAny_newFunctionEnv_cells S.kind hkind fun env he s1 y => ?_
  subst he
  refine ⟨lim.keeps y.toInCall.keep, codeAny_func ?_⟩
  obtain ⟨t, ht, hq⟩ := hbody cdv A outer s H vs Q E (hr.deeper _) hP hsp
  have I : Inv (cxOf CX0 P w K mg base N qual (defScope st) f cdv A outer s H E) [] (L2.start N vs) H s1 := inv_start S hr.hd e0 hl r y
  refine wpAny_mono (ht.nox.run [] s1 (L2.start N vs) H _ I hq) (fun fl s' hs => ?_) fun e s' hs => hs
  cases fl with
  | ret u =>
    obtain ⟨v, σ', H', J, rv, q⟩ := hs
    exact ⟨v, H', J.os, J.bare, J.base, J.hok, rv, q⟩
  | next =>
    obtain ⟨σ', H', J, q⟩ := hs
    exact ⟨V.non, H', J.os, J.bare, J.base, J.hok, rfl, q⟩
  | brk => exact hs.choose_spec.choose_spec.2.elim
  | cont => exact hs.choose_spec.choose_spec.2.elim
end
/-- such a def called: g says with what -/
def tCallC {G : Type} (preS : G → L2.St → Hp → Prop) (sp : G → Sp) (E : XK) (t : TA) : TE := fun σ H Q => t σ H fun vs H1 => ∃ g, preS g σ H1 ∧ sp g vs H1 Q E
theorem pe_callC {G : Type} {X : Cx} {CX : CXT} {k j : Nat} {f : Addr} {fd : FuncData} {ps : List Str} {Pre : G → List Env → Shared → Hp → Prop} {preS : G → L2.St → Hp → Prop} {sp : G → Sp} {E : XK} {x : Str} {p pos : Pos} {e : Expr} {es : List Expr} {t : TA}
    (F : ∀ g, FnC X.prog X.w X.K X.mg X.base CX k f fd ps (Pre g) (sp g)) (hP : ∀ g pins σ H s, Inv X pins σ H s → preS g σ H → Pre g X.stack s H) (hr : Room j X.A) (hk : k ≤ j) (hg : Gl X x) (hm : X.mg x = some (.ref f)) (kp : PySem.W.keepIn X.K (.ref f) = true) (hb : Binds X.K fd ps []) (hx : Passes CX X E)
    (ha : PA X (e :: es) t) (hdb : (x == ("__debug__" : Str)) = false := by decide) (he : starEach (e :: es) X.env = (false, eval e X.env) :: starEach es X.env := by rfl) (hpl : (backTo pos (starEach es X.env)).any (·.1) = false := by rfl) :
    PE X (.Call (.Name x p) (e :: es) [] pos) (tCallC preS sp E t) := by
  refine ⟨fun pins s σ H Q I h => ?_⟩
  refine wpAny_Call_Name_kw (ld_glob I hg hm ?_ hdb)
  refine PySem.W.callWith_K (h₀ := X.base) I.ok.mod.kin kp (thn (ha.run pos pins s σ H _ I h) fun us s1 ⟨vs, H1, I1, r, g, pg, q⟩ => ⟨I1.kIn, ?_⟩) he hpl
  have hl : us.length = ps.length := by rw [← r.length]; exact (F g).len _ _ _ _ q
  have hb' := hb s1 us I1.kIn (by rw [List.append_nil]; exact hl)
  rw [List.append_nil] at hb'
  refine wpAny_call (codeAny_mono ((F g).run X.A X.stack s1 H1 ⟨us, []⟩ us vs Q E (hr.mono hk) I1.env0 hb' r (hP g pins σ H1 s1 I1 pg) q) fun r s' hq => ?_)
  cases r with
  | error e => exact hx pins σ H1 s1 e s' I1 hq
  | ok fl =>
    cases fl with
    | ret u => exact I1.after hq
    | next => exact False.elim hq
    | brk => exact False.elim hq
    | cont => exact False.elim hq
end RH
set_option Elab.async false
set_option linter.all false
set_option maxRecDepth 100000
set_option maxHeartbeats 2000000
/-! Dicts with tuples for keys: one pair written out, their values; where an int stands in a tuple. -/
namespace RH
open PySem PySem.Spec PyProof.Rows L2
theorem one_shape {X : Cx} {k v : Expr} {pos : Pos} : (evalEachOpt [some k] X.env).zip ((evalEach [v] X.env).map fun z => do let x ← z; standAt pos; pure x) = [(eval k X.env, (do let x ← eval v X.env; standAt pos; pure x : Sem Value))].map fun p => (some p.1, p.2) := rfl
end RH
set_option Elab.async false
set_option linter.all false
set_option maxRecDepth 100000
set_option maxHeartbeats 2000000
/-! Tuples told by their very object, and dicts whose keys are such tuples of ints. -/
namespace RH
open PySem PySem.Spec PyProof.Rows L2
def keyOf (s : List Int) : List L2.Key := s.map Sum.inl
theorem keyOf_kV (s : List Int) : (keyOf s).map kV = s.map V.int := by
  unfold keyOf
  rw [List.map_map]
  rfl
theorem mapInt_inj : ∀ {s t : List Int}, s.map V.int = t.map V.int → s = t
  | [], [], _ => rfl
  | [], _ :: _, e => by simp at e
  | _ :: _, [], e => by simp at e
  | a :: s, b :: t, e => by
    rw [List.map_cons, List.map_cons] at e
    injection e with e1 e2
    rw [V.int.inj e1, mapInt_inj e2]
theorem keyOf_inj {s t : List Int} (h : keyOf s = keyOf t) : s = t := by
  have e : (keyOf s).map kV = (keyOf t).map kV := by rw [h]
  rw [keyOf_kV, keyOf_kV] at e
  exact mapInt_inj e
/-- b is a tuple of these ints -/
def KX (H : Hp) (b : Addr) (s : List Int) : Prop := Rd H b (.tup (s.map V.int))
/-- the same, and its very object is known, one without a dict -/
def FT (H : Hp) (b : Addr) (s : List Int) : Prop := ∃ ob, H b = some (.frz ob (.tup (s.map V.int))) ∧ ob.dict = none
theorem FT.kx {H : Hp} {b : Addr} {s : List Int} (h : FT H b s) : KX H b s := let ⟨ob, h, _⟩ := h; .inr ⟨ob, h⟩
inductive XS : List (List Int × V) → List Addr → List (List L2.Key × Addr × Value) → Prop
  | nil : XS [] [] []
  | cons {q : List Int × V} {b : Addr} {u : Value} {as : List (List Int × V)} {bs : List Addr} {xs : List (List L2.Key × Addr × Value)} : RelV q.2 u → XS as bs xs → XS (q :: as) (b :: bs) ((keyOf q.1, b, u) :: xs)
inductive KB (H : Hp) : List (List Int × V) → List Addr → Prop
  | nil : KB H [] []
  | cons {q : List Int × V} {b : Addr} {as : List (List Int × V)} {bs : List Addr} : KX H b q.1 → KB H as bs → KB H (q :: as) (b :: bs)
theorem KB.snoc {H : Hp} {q : List Int × V} {b : Addr} (h : KX H b q.1) : ∀ {as : List (List Int × V)} {bs : List Addr}, KB H as bs → KB H (as ++ [q]) (bs ++ [b])
  | _, _, .nil => .cons h .nil
  | _, _, .cons g t => .cons g (t.snoc h)
theorem KB.imp {H H' : Hp} (f : ∀ b s, KX H b s → KX H' b s) : ∀ {as : List (List Int × V)} {bs : List Addr}, KB H as bs → KB H' as bs
  | _, _, .nil => .nil
  | _, _, .cons g t => .cons (f _ _ g) (t.imp f)
theorem XS.len : ∀ {as : List (List Int × V)} {bs : List Addr} {xs : List (List L2.Key × Addr × Value)}, XS as bs xs → xs.length = as.length
  | _, _, _, .nil => rfl
  | _, _, _, .cons _ t => congrArg (· + 1) t.len
theorem XS.snoc {q : List Int × V} {b : Addr} {u : Value} (h : RelV q.2 u) : ∀ {as : List (List Int × V)} {bs : List Addr} {xs : List (List L2.Key × Addr × Value)}, XS as bs xs → XS (as ++ [q]) (bs ++ [b]) (xs ++ [(keyOf q.1, b, u)])
  | _, _, _, .nil => .cons h .nil
  | _, _, _, .cons g t => .cons g (t.snoc h)
theorem atKey_pos {x : List L2.Key × Addr × Value} {xs : List (List L2.Key × Addr × Value)} {k : List L2.Key} (e : x.1 = k) : atKey (x :: xs) k = some x.2 := by simp [atKey, List.find?_cons, e]
theorem atKey_neg {x : List L2.Key × Addr × Value} {xs : List (List L2.Key × Addr × Value)} {k : List L2.Key} (e : ¬ x.1 = k) : atKey (x :: xs) k = atKey xs k := by simp [atKey, List.find?_cons, e]
theorem XS.no {s : List Int} : ∀ {as : List (List Int × V)} {bs : List Addr} {xs : List (List L2.Key × Addr × Value)}, XS as bs xs → s ∉ as.map Prod.fst → atKey xs (keyOf s) = none
  | _, _, _, .nil, _ => rfl
  | _, _, _, .cons g t, h => (atKey_neg fun e => h (by rw [← keyOf_inj e]; exact List.mem_cons_self ..)).trans (t.no fun z => h (List.mem_cons_of_mem _ z))
theorem XS.yes {s : List Int} : ∀ {as : List (List Int × V)} {bs : List Addr} {xs : List (List L2.Key × Addr × Value)}, XS as bs xs → s ∈ as.map Prod.fst → ∃ v p, atKey xs (keyOf s) = some p ∧ (s, v) ∈ as ∧ RelV v p.2
  | _, _, _, .nil, h => by simp at h
  | q :: as, _, _, .cons (u := u) g t, h => by
    by_cases e : q.1 = s
    · subst e
      exact ⟨q.2, _, atKey_pos rfl, List.mem_cons_self .., g⟩
    · rcases List.mem_cons.mp h with z | z
      · exact absurd z.symm e
      · obtain ⟨v, p, h1, h2, h3⟩ := t.yes z
        exact ⟨v, p, (atKey_neg fun z => e (keyOf_inj z)).trans h1, List.mem_cons_of_mem _ h2, h3⟩
theorem key_ofR {P : Program} {w : World} {H : Hp} {h : Heap} {a : Addr} {s : List Int} (ok : HOk P w H h) (e : KX H a s) : (tupleKind (mixKind P w)).is h (keyOf s) a := by
  obtain ⟨_, its, r, o, h1, h2, n, h3⟩ := (show ObjOk P w H h a (.tup (s.map V.int)) from e.ok ok)
  rw [← keyOf_kV] at r
  exact ⟨o, its.toArray, n, h1, h2, h3, by simpa using items_are r⟩
theorem XS.keys {P : Program} {w : World} {H : Hp} {h : Heap} (ok : HOk P w H h) : ∀ {as : List (List Int × V)} {bs : List Addr} {xs : List (List L2.Key × Addr × Value)}, XS as bs xs → KB H as bs → ∀ x ∈ xs, (tupleKind (mixKind P w)).is h x.1 x.2.1
  | _, _, _, .nil, _, x, hx => nomatch hx
  | _, _, _, .cons g t, .cons k r, x, hx => by
    rcases List.mem_cons.mp hx with e | hx
    · subst e
      exact key_ofR ok k
    · exact t.keys ok r x hx
/-- the dict at d: as with its values, bs its keys' tuples -/
abbrev DE (P : Program) (w : World) (as : List (List Int × V)) (bs : List Addr) (d : Addr) : HO := .ext fun h => (d == sysModules) = false ∧ as.length ≤ sizeLine ∧ ∃ xs : List (List L2.Key × Addr × Value), XS as bs xs ∧
  ∃ o es ep, h.get? d = some o ∧ o.ExactDict ∧ o.data = .dict es ep ∧ es.toList = xs.map (entryOfKey (tupleKind (mixKind P w))) ∧ (xs.map (·.1)).Nodup
theorem DE.ok {P : Program} {w : World} {H : Hp} {h : Heap} {as : List (List Int × V)} {bs : List Addr} {d : Addr} {xs : List (List L2.Key × Addr × Value)} (hd : (d == sysModules) = false) (hl : as.length ≤ sizeLine) (hx : XS as bs xs) (dd : h.DictOfH (tupleKind (mixKind P w)) d xs) : ObjOk P w H h d (DE P w as bs d) := by
  obtain ⟨o, es, ep, h1, h2, h3, h4, _, h5⟩ := dd
  refine ⟨⟨hd, hl, xs, hx, o, es, ep, h1, h2, h3, h4, h5⟩, ⟨o, h1⟩, fun h1 h2 ⟨a1, a2, xs, a3, o, es, ep, b1, b2⟩ k => ⟨a1, a2, xs, a3, o, es, ep, k _ b1, b2⟩⟩
section
variable {X : Cx} {pins : List (Addr × Obj)} {σ : L2.St} {H : Hp} {s : Shared} {a : Addr} {as : List (List Int × V)} {bs : List Addr}
theorem de_of (I : Inv X pins σ H s) (e : H a = some (DE X.prog X.w as bs a)) (k : KB H as bs) : (a == sysModules) = false ∧ as.length ≤ sizeLine ∧ ∃ xs, XS as bs xs ∧ s.heap.DictOfH (tupleKind (mixKind X.prog X.w)) a xs := by
  obtain ⟨h1, h2, xs, h3, o, es, ep, b1, b2, b3, b4, b5⟩ := (show ObjOk X.prog X.w H s.heap a (DE X.prog X.w as bs a) from I.hok a _ e).1
  exact ⟨h1, h2, xs, h3, o, es, ep, b1, b2, b3, b4, h3.keys I.hok k, b5⟩
end
/-! ### the rules -/
def tDisp1E (P : Program) (w : World) (tk tv : TE) : TE := fun σ H Q => ∀ p, H p = none → tk σ (upd H p (DE P w [] [] p)) fun x H1 => tv σ H1 fun y H2 => H2 p = some (DE P w [] [] p) ∧ ∃ (b : Addr) (s : List Int), x = .ref b ∧ KX H2 b s ∧ Q (.ref p) (upd H2 p (DE P w [(s, y)] [b] p))
def tDGetE (P : Program) (w : World) (td ty : TE) : TE := fun σ H Q => td σ H fun x H1 => ty σ H1 fun y H2 => ∃ (a b : Addr) (as : List (List Int × V)) (bs : List Addr) (s : List Int), x = .ref a ∧ y = .ref b ∧ H2 a = some (DE P w as bs a) ∧ KB H2 as bs ∧ KX H2 b s ∧ s ∈ as.map Prod.fst ∧ ∀ v, (s, v) ∈ as → Q v H2
def tDNotInE (P : Program) (w : World) (ty td : TE) : TE := fun σ H Q => ty σ H fun y H1 => td σ H1 fun x H2 => ∃ (a b : Addr) (as : List (List Int × V)) (bs : List Addr) (s : List Int), x = .ref a ∧ y = .ref b ∧ H2 a = some (DE P w as bs a) ∧ KB H2 as bs ∧ KX H2 b s ∧ Q (.bl (!decide (s ∈ as.map Prod.fst))) H2
def sDPutE (P : Program) (w : World) (td ty tv : TE) : TS := fun D σ H => tv σ H fun v H1 => td σ H1 fun x H2 => ty σ H2 fun y H3 => ∃ (a b : Addr) (as : List (List Int × V)) (bs : List Addr) (s : List Int), x = .ref a ∧ y = .ref b ∧ H3 a = some (DE P w as bs a) ∧ KB H3 as bs ∧ KX H3 b s ∧
  s ∉ as.map Prod.fst ∧ as.length < sizeLine ∧ D.nx σ (upd H3 a (DE P w (as ++ [(s, v)]) (bs ++ [b]) a))
section
variable {X : Cx} {o i k v value : Expr} {pos pos' tpos : Pos} {td ty tk tv : TE}
theorem de_typeIs {pins : List (Addr × Obj)} {σ : L2.St} {H : Hp} {s : Shared} {a : Addr} {as : List (List Int × V)} {bs : List Addr} (I : Inv X pins σ H s) (e : H a = some (DE X.prog X.w as bs a)) : s.TypeIs (.ref a) "dict" ∧ ∃ ob, s.heap.get? a = some ob ∧ ob.dict = none := by
  obtain ⟨_, _, xs, _, o, es, ep, b1, b2, _⟩ := (show ObjOk X.prog X.w H s.heap a (DE X.prog X.w as bs a) from I.hok a _ e).1
  exact ⟨⟨o, b1, b2.1⟩, o, b1, b2.2.1⟩
theorem pe_disp1E (hu : X.A.units < cLine) (hk : PE X k tk) (hv : PE X v tv) : PE X (.Dict [some k] [v] pos) (tDisp1E X.prog X.w tk tv) := by
  refine ⟨fun pins s σ H Q I q => ?_⟩
  have hn := I.hok.fresh (Nat.le_refl s.heap.objs.size)
  have hsys : (s.heap.objs.size == sysModules) = false := beq_eq_false_iff_ne.mpr (Ne.symm (Nat.ne_of_lt I.big))
  have I1 := I.laid (a := s.heap.objs.size) (o := DE X.prog X.w [] [] s.heap.objs.size) (h' := s.heap.push { cls := .type "dict", data := .dict #[] }) (t' := s.toks) (fun _ _ q => Heap.get?_push_of_some _ q) (Nat.le_refl _)
    (DE.ok hsys (Nat.zero_le _) .nil (Heap.DictOfH.new s.heap))
  rw [arm_eval_Dict, one_shape, dictDisplay_pairs _ (by simp) (by simp)]
  have ru : (tupleKind (mixKind X.prog X.w)).room X.A := hu
  refine wpAny_bind (wpAny_standAt (wpAny_bind (PySem.wpAny_subDictH (knd := tupleKind (mixKind X.prog X.w)) (Q := fun d s' => wpAny (model X.prog X.w) X.A (pure (Value.ref d)) (EP X pins σ Q) X.xe s') ru (by simp) ?_)))
  show wpAny _ _ (evalPairs (pairTrees [some k] [v] X.env pos)) _ _ _
  refine pairTrees_cons_walk (thn (hk.run pins _ σ _ _ I1 (q _ hn)) fun u s1 ⟨x, H1, I3, rx, q1⟩ => thn (hv.run pins s1 σ H1 _ I3 q1) fun w2 s2 ⟨y, H2, I2, ry, e, b, st, ex, eb, q2⟩ => pairTrees_nil_walk ?_)
  subst ex
  obtain rfl : u = Value.ref b := rx
  obtain ⟨hd, z, xs, rl, dd⟩ := de_of I2 e .nil
  cases rl
  refine ⟨[(keyOf st, b, w2)], ⟨rfl, rfl, key_ofR I2.hok eb, trivial⟩, dd, fun h' tk dd' hs => wpAny_pure ?_⟩
  have hq : ∃ q, h'.get? s.heap.objs.size = some q := let ⟨o, _, _, hq, _⟩ := dd'; ⟨o, hq⟩
  have I4 : Inv X pins σ (upd H2 s.heap.objs.size (DE X.prog X.w [(st, y)] [b] s.heap.objs.size)) { s2 with heap := h', toks := tk } :=
    d_write I2 (by rw [e]; exact True.intro) hs hq (DE.ok hd (by show 1 ≤ sizeLine; decide) (.cons (q := (st, y)) ry .nil) dd')
  exact ⟨.ref s.heap.objs.size, _, I4, rfl, q2⟩
theorem pe_dgetE (hu : X.A.units + 1 < cLine) (ho : PE X o td) (hi : PE X i ty) (hs : NoSl i) : PE X (.Subscript o i pos) (tDGetE X.prog X.w td ty) := by
  refine ⟨fun pins s σ H Q I h => ?_⟩
  refine subD_of PySem.F.slot_dict_getitem.lookup hs (thn (ho.run pins s σ H _ I h) fun u s1 ⟨x, H1, I1, rx, q1⟩ => thn (hi.run pins s1 σ H1 _ I1 q1) fun iv s2 ⟨y, H2, I2, ry, a, b, as, bs, st, ex, ey, e, kb, eb, hm, q2⟩ => ?_)
  subst ex ey
  obtain rfl : u = Value.ref a := rx
  obtain rfl : iv = Value.ref b := ry
  obtain ⟨hd, z, xs, hx, dd⟩ := de_of I2 e kb
  obtain ⟨v, p, h1, h2, h3⟩ := hx.yes hm
  exact ⟨(de_typeIs I2 e).1, wpAny_getItem_heap (tupleKind_room_in1 hu) (key_ofR I2.hok eb) dd h1 ⟨v, H2, I2.tok _, h3, q2 v h2⟩⟩
theorem pc_dnotinE (hu : X.A.units + 1 < cLine) (hi : PE X i ty) (ho : PE X o td) : PC X .NotIn i o (tDNotInE X.prog X.w ty td) := by
  refine ⟨fun pins s σ H Q I h => ?_⟩
  refine thn (hi.run pins s σ H _ I h) fun iv s1 ⟨y, H1, I1, ry, q1⟩ => thn (ho.run pins s1 σ H1 _ I1 q1) fun u s2 ⟨x, H2, I2, rx, a, b, as, bs, st, ex, ey, e, kb, eb, q2⟩ => ?_
  subst ex ey
  obtain rfl : u = Value.ref a := rx
  obtain rfl : iv = Value.ref b := ry
  obtain ⟨hd, z, xs, hx, dd⟩ := de_of I2 e kb
  refine wpAny_notIn_heap (tupleKind_room_in1 hu) (key_ofR I2.hok eb) hd dd ⟨_, H2, I2.tok _, ?_, q2⟩
  by_cases hm : st ∈ as.map Prod.fst
  · obtain ⟨v, p, h1, _⟩ := hx.yes hm
    rw [h1, decide_eq_true hm]
    rfl
  · rw [hx.no hm, decide_eq_false hm]
    rfl
theorem ps_dputE (hu : X.A.units + 1 < cLine) (ho : PE X o td) (hi : PE X i ty) (hv : PE X value tv) (hs : swapsWith value (some (.Subscript o i pos')) pos.line X.env = pure false) : PS X (.Assign [.Subscript o i pos'] value pos) (sDPutE X.prog X.w td ty tv) := by
  refine ⟨fun pins s σ H D I h => ?_⟩
  refine wpAny_Assign_Subscript (thn (hv.run pins s σ H _ I h) fun r s1 ⟨v, H1, I1, rv, q1⟩ => thn (ho.run pins s1 σ H1 _ I1 q1) fun u s2 ⟨x, H2, I2, rx, q2⟩ => thn (hi.run pins s2 σ H2 _ I2 q2) fun iv s3 ⟨y, H3, I3, ry, a, b, as, bs, st, ex, ey, e, kb, eb, hn, hl, q3⟩ => ?_) hs
  subst ex ey
  obtain rfl : u = Value.ref a := rx
  obtain rfl : iv = Value.ref b := ry
  obtain ⟨hd, z, xs, hx, dd⟩ := de_of I3 e kb
  refine wpAny_setItem_heap (hsz := by rw [hx.len]; exact z) (tupleKind_room_in1 hu) (key_ofR I3.hok eb) dd fun h' dd' hs => ?_
  rw [storedH_new (hx.no hn)] at dd'
  have hq : ∃ q, h'.get? a = some q := let ⟨o, _, _, hq, _⟩ := dd'; ⟨o, hq⟩
  exact ⟨σ, _, d_write I3 (by rw [e]; exact True.intro) hs hq (DE.ok hd (by rw [List.length_append]; exact hl) (hx.snoc (q := (st, v)) rv) dd'), q3⟩
def rLenE (P : Program) (w : World) : List V → Hp → VK → Prop := fun xs H Q => ∃ (p : Addr) (as : List (List Int × V)) (bs : List Addr), xs = [.ref p] ∧ H p = some (DE P w as bs p) ∧ KB H as bs ∧ Q (.int ((as.length : Nat) : Int)) H
theorem call_lenE : CallR X (.builtin "len") (rLenE X.prog X.w) := by
  intro pins s σ H xs us Q I r h
  obtain ⟨p, as, bs, rfl, hp, kb, q⟩ := h
  obtain ⟨u, rfl, rx⟩ := vals1 r
  obtain rfl : u = .ref p := rx
  obtain ⟨hd, z, ys, hx, dd⟩ := de_of I hp kb
  refine call_len_dictH hd dd (by rw [hx.len]; rw [sizeLine_eq] at z; omega) ?_
  rw [hx.len]
  exact ⟨.int ((as.length : Nat) : Int), H, I.tok _, ⟨_, rfl⟩, q⟩
/-- tuple(xs) of a list, told by its very object -/
def kTupF (K : PySem.W.Frag) (x : V) (H : Hp) (Q : VK) : Prop := ∃ p xs, x = .ref p ∧ SqL K H p xs ∧ ∀ q ob, H q = none → ob.dict = none → Q (.ref q) (upd H q (.frz ob (.tup xs)))
theorem pe_tupleF {a : Expr} {ta : TE} {p : Pos} (hg : Gl X "tuple") (hm : X.mg "tuple" = none) (ha : PE X a ta) (na : starEach [a] X.env = (false, eval a X.env) :: starEach [] X.env := by rfl) : PE X (.Call (.Name "tuple" p) [a] [] pos) (tThen ta (kTupF X.K)) := by
  refine ⟨fun pins s σ H Q I h => ?_⟩
  refine Call_ (ld_blt I hg hm boot_tuple (PyProof.Rows.callWith_type1 (one_arg ha I h (fun v s2 x H2 I2 r q => ?_) na) na))
  obtain ⟨p, xs, rfl, hs, q⟩ := q
  obtain rfl : v = .ref p := r
  obtain ⟨its, rv, pl, hz⟩ := I2.list hs
  refine call_tuple_list pl.isList (fun h' hk => ?_) (by rw [List.size_toArray, ← rv.length]; exact hz)
  have I3 : Inv X pins σ H2 { s2 with heap := h' } := I2.kept (t' := s2.toks) hk
  have e : (h'.push { cls := .type "tuple", data := .seq its.toArray }).get? h'.objs.size = some { cls := .type "tuple", data := .seq its.toArray } := Heap.get?_push_size _ rfl
  have I4 : Inv X pins σ (upd H2 h'.objs.size (.frz { cls := .type "tuple", data := .seq its.toArray } (.tup xs))) { s2 with heap := h'.push { cls := .type "tuple", data := .seq its.toArray } } :=
    I3.laid (t' := s2.toks) (fun b o e => Heap.get?_push_of_some _ e) (Nat.le_refl _) ⟨e, hz, its, rv, IsTup.new _ _⟩
  exact ⟨.ref h'.objs.size, _, I4, rfl, q _ _ (I3.hok.fresh (Nat.le_refl _)) rfl⟩
/-- t.index(k) -/
def tTIdxF (to te : TE) : TE := fun σ H Q => to σ H fun x H1 => ∃ (p : Addr) (ns : List Int), x = .ref p ∧ FT H1 p ns ∧ te σ H1 fun y H2 => ∃ k : Int, y = .int k ∧ FT H2 p ns ∧ k ∈ ns ∧ Q (.int (ns.idxOf k : Nat)) H2
theorem pe_tidxF {e : Expr} {to te : TE} {apos cpos : Pos} (ho : PE X o to) (he : PE X e te)
    (hbase : attributeBase o "index" X.env (eval o X.env) = eval o X.env := by rfl) (hline : (apos.endLine == cpos.line) = true := by rfl) (htrees : backTo cpos (starEach [e] X.env) = [(false, eval e X.env)] := by rfl) :
    PE X (.Call (.Attribute o "index" apos) [e] [] cpos) (tTIdxF to te) := by
  refine ⟨fun pins s σ H Q I h => ?_⟩
  refine wpAny_Call_method1_late hbase hline htrees (thn (ho.run pins s σ H _ I h) fun v s1 ⟨x, H1, I1, r1, p, ns, ex, ⟨ob, hp, hdn⟩, q1⟩ => ?_)
  subst ex
  obtain rfl : v = Value.ref p := r1
  obtain ⟨g, z, its, rv, hl⟩ := (show ObjOk X.prog X.w H1 s1.heap p (.frz ob (.tup (ns.map V.int))) from I1.hok p _ hp)
  have tI : s1.TypeIs (.ref p) "tuple" := let ⟨o, ho, hc, _⟩ := hl; ⟨o, ho, hc⟩
  refine ⟨"tuple", "tuple.index", PySem.F.plainAttrs_tuple, PySem.F.slot_tuple_index, PySem.F.type_tuple_index, tI, fun b eb => by cases eb; exact ⟨ob, g, hdn⟩, ?_⟩
  refine Calls.callWith_builtin rfl (Calls.evalArgs_plain (Calls.spliced_cons (thn (he.run pins s1 σ H1 _ I1 q1) fun iv s2 ⟨y, H2, I2, ry, k, ey, ⟨ob2, hp2, _⟩, hk, q2⟩ => Calls.spliced_nil ?_)))
  subst ey
  obtain ⟨t, rfl⟩ := (show ∃ t, iv = Value.int k t from ry)
  obtain ⟨_, _, its2, rv2, hl2⟩ := (show ObjOk X.prog X.w H2 s2.heap p (.frz ob2 (.tup (ns.map V.int))) from I2.hok p _ hp2)
  exact PySem.SeqAt.tuple_index_ints hl2 rv2.ints hk ⟨.int (ns.idxOf k : Nat), H2, I2.tok _, ⟨_, rfl⟩, q2⟩
end
end RH
set_option Elab.async false
set_option linter.all false
set_option maxRecDepth 100000
set_option maxHeartbeats 2000000
/-! Sorted lists of tuples of ints, of any length; more rules for dicts whose keys are such tuples. -/
namespace RH
open PySem PySem.Spec PyProof.Rows L2
open SrtO (Swo Srtd Stb SortableO Cmp lt2)
open TS (TupInts intsOf code Bd lex_ints firsts_of)
/-- each of xs is a tuple of the ints -/
inductive EX (H : Hp) : List V → List (List Int) → Prop
  | nil : EX H [] []
  | cons {b : Addr} {s : List Int} {xs : List V} {ls : List (List Int)} : KX H b s → EX H xs ls → EX H (.ref b :: xs) (s :: ls)
theorem EX.len {H : Hp} : ∀ {xs : List V} {ls : List (List Int)}, EX H xs ls → xs.length = ls.length
  | _, _, .nil => rfl
  | _, _, .cons _ t => congrArg (· + 1) t.len
theorem EX.imp {H H' : Hp} (f : ∀ b s, KX H b s → KX H' b s) : ∀ {xs : List V} {ls : List (List Int)}, EX H xs ls → EX H' xs ls
  | _, _, .nil => .nil
  | _, _, .cons g t => .cons (f _ _ g) (t.imp f)
theorem EX.snoc {H : Hp} {b : Addr} {s : List Int} (h : KX H b s) : ∀ {xs : List V} {ls : List (List Int)}, EX H xs ls → EX H (xs ++ [.ref b]) (ls ++ [s])
  | _, _, .nil => .cons h .nil
  | _, _, .cons g t => .cons g (t.snoc h)
theorem EX.at {H : Hp} : ∀ {xs : List V} {ls : List (List Int)} {i : Nat} {s : List Int}, EX H xs ls → ls[i]? = some s → ∃ b, xs[i]? = some (V.ref b) ∧ KX H b s
  | _, _, _, _, .nil, e => by simp at e
  | _, _, 0, _, .cons h _, e => by
    cases Option.some.inj e
    exact ⟨_, rfl, h⟩
  | _, _, i + 1, _, .cons _ t, e => t.at (i := i) e
theorem EX.of {P : Program} {w : World} {H : Hp} {h : Heap} : ∀ {out : List Value}, (∀ v ∈ out, ∃ b, v = Value.ref b ∧ KX H b (intsOf h v)) → Vals (out.map backV) out ∧ EX H (out.map backV) (out.map (intsOf h))
  | [], _ => ⟨.nil, .nil⟩
  | v :: out, hv => by
    obtain ⟨r, e⟩ := EX.of (P := P) (w := w) (H := H) (h := h) (out := out) fun u hu => hv u (List.mem_cons_of_mem _ hu)
    obtain ⟨b, rfl, k⟩ := hv v (List.mem_cons_self ..)
    exact ⟨.cons rfl r, .cons k e⟩
end RH
set_option Elab.async false
set_option linter.all false
set_option maxRecDepth 100000
set_option maxHeartbeats 2000000
namespace RH
open PySem PySem.Spec PyProof.Rows L2
open SrtO (Swo Srtd Stb SortableO Cmp lt2)
open TS (TupInts intsOf code Bd lex_ints firsts_of)
theorem KB.ex {H : Hp} : ∀ {as : List (List Int × V)} {bs : List Addr}, KB H as bs → EX H (bs.map V.ref) (as.map Prod.fst)
  | _, _, .nil => .nil
  | _, _, .cons g t => .cons g t.ex
/-! ### get, in, a new one, [..] = -/
end RH
set_option Elab.async false
set_option linter.all false
set_option maxRecDepth 100000
set_option maxHeartbeats 2000000
/-! Lambdas that a def hands back: the cells that they caught are tracked from then on. -/
namespace RH
open PySem PySem.Spec PyProof.Rows L2
open LamX (Tabs TabS TabB ExtN CodeO codeO_ne)
open NdefX (NF CellsAt NScope startF ncx codeO_at slotAt Caps cells_of)
/-- the cell at c holds v -/
def CellO (c : Addr) (v : V) : HO := .ext fun h => ∃ u, L2.RelV v u ∧ h.IsCell c (some u)
theorem cellO_ne {c : Addr} {v : V} : (∀ y, CellO c v ≠ .own y) ∧ (∀ xs, CellO c v ≠ .tup xs) ∧ (∀ o u, CellO c v ≠ .frz o u) ∧ (∀ ps, CellO c v ≠ .tbl ps) := by
  unfold CellO
  exact ⟨fun _ z => (nomatch z), fun _ z => (nomatch z), fun _ _ z => (nomatch z), fun _ z => (nomatch z)⟩
abbrev CL := List (Addr × V)
/-- without the cells, with them -/
def era (l : CL) (H : Hp) : Hp := fun b => match l.lookup b with
  | some _ => none
  | none => H b
def lay (l : CL) (H : Hp) : Hp := fun b => match l.lookup b with
  | some v => some (CellO b v)
  | none => H b
theorem era_in {l : CL} {H : Hp} {b : Addr} {v : V} (e : l.lookup b = some v) : era l H b = none := by
  unfold era
  rw [e]
theorem era_no {l : CL} {H : Hp} {b : Addr} (e : l.lookup b = none) : era l H b = H b := by
  unfold era
  rw [e]
theorem lay_in {l : CL} {H : Hp} {b : Addr} {v : V} (e : l.lookup b = some v) : lay l H b = some (CellO b v) := by
  unfold lay
  rw [e]
theorem lay_no {l : CL} {H : Hp} {b : Addr} (e : l.lookup b = none) : lay l H b = H b := by
  unfold lay
  rw [e]
/-- the cells stand -/
def Stand (l : CL) (H : Hp) : Prop := ∀ b v, l.lookup b = some v → H b = some (CellO b v)
theorem Stand.ext {l : CL} {H H' : Hp} (s : Stand l H) (e : ExtN H H') : Stand l H' := fun b v q => e b _ (s b v q) cellO_ne.2.2.2
theorem Stand.same {l : CL} {H H' : Hp} (s : Stand l H) (e : Same H H') : Stand l H' := fun b v q => e b _ (s b v q)
theorem Stand.cases {l : CL} {H : Hp} (s : Stand l H) {b : Addr} {o : HO} (e : H b = some o) : (∃ v, l.lookup b = some v ∧ o = CellO b v) ∨ (l.lookup b = none ∧ era l H b = some o) := by
  cases q : l.lookup b with
  | some v => exact .inl ⟨v, rfl, Option.some.inj (e.symm.trans (s b v q))⟩
  | none => exact .inr ⟨rfl, (era_no q).trans e⟩
theorem Stand.tup {l : CL} {H : Hp} (s : Stand l H) {b : Addr} {xs : List V} (e : H b = some (.tup xs)) : era l H b = some (.tup xs) := by
  rcases s.cases e with ⟨v, _, z⟩ | ⟨_, z⟩
  · exact absurd z.symm (cellO_ne.2.1 xs)
  · exact z
theorem Stand.frz {l : CL} {H : Hp} (s : Stand l H) {b : Addr} {o : Obj} {u : HO} (e : H b = some (.frz o u)) : era l H b = some (.frz o u) := by
  rcases s.cases e with ⟨v, _, z⟩ | ⟨_, z⟩
  · exact absurd z.symm (cellO_ne.2.2.1 o u)
  · exact z
/-- the heap with the cells goes on as the one without them does -/
theorem Stand.on {l : CL} {H H2 : Hp} (s : Stand l H) (e : Same (era l H) H2) : Same H (RH.lay l H2) := fun b o q => by
  rcases s.cases q with ⟨v, z, rfl⟩ | ⟨z, y⟩
  · exact lay_in z
  · exact (lay_no z).trans (e b o y)
theorem Stand.hok {P : Program} {w : World} {l : CL} {H : Hp} {h : Heap} (s : Stand l H) (k : HOk P w H h) : HOk P w (era l H) h := fun a o e => by
  cases q : l.lookup a with
  | some v =>
    rw [era_in q] at e
    cases e
  | none =>
    rw [era_no q] at e
    refine (k a o e).stay (fun _ _ _ z => z) (fun b z => ?_) fun b xs z => s.tup z
    rcases s.cases z with ⟨v, _, y⟩ | ⟨_, y⟩
    · exact absurd y.symm (cellO_ne.1 a)
    · exact y
/-- the lambda at f stands, with its code and its cells -/
structure LiveK (f : Addr) (F : LF) (l : CL) (H : Hp) : Prop where
  fn : H f = some (FnL f F)
  code : H F.c = some (CodeO F.c F.qual)
  st : Stand l H
theorem LiveK.same {f : Addr} {F : LF} {l : CL} {H H' : Hp} (k : LiveK f F l H) (e : Same H H') : LiveK f F l H' := ⟨e _ _ k.fn, e _ _ k.code, k.st.same e⟩
theorem LiveK.ext {f : Addr} {F : LF} {l : CL} {H H' : Hp} (k : LiveK f F l H) (e : ExtN H H') : LiveK f F l H' := ⟨e _ _ k.fn (fun ps => fnL_ne ps), e _ _ k.code (fun ps => codeO_ne ps), k.st.ext e⟩
/-! ### a body that ends with a return, its names kept -/
end RH
set_option Elab.async false
set_option linter.all false
set_option maxRecDepth 100000
set_option maxHeartbeats 2000000
/-! A walk over zip of a tuple and a list. -/
set_option Elab.async false
set_option linter.all false
set_option maxRecDepth 100000
set_option maxHeartbeats 2000000
/-! Defs and methods that may raise, lambdas handed back that are called without arguments and may raise, what an except suite asks of its error. -/
namespace RH
open PySem PySem.Spec PyProof.Rows L2
open LamX (Tabs TabS TabB ExtN CodeO codeO_ne)
open NdefX (NF CellsAt NScope startF ncx codeO_at slotAt Caps cells_of)
/-! ### a lambda that was handed back, called without arguments -/
/-! ### what an except suite asks of its error -/
/-! ### list.count of flat things -/
/-- what leaves a def that may raise -/
theorem passE {P : Program} {w : World} {K : PySem.W.Frag} {mg : Str → Option Value} {base : Heap} {N : List Str} {qual : Str} {scope : Scope} {f : Addr} {cd : Value} {A : Around} {outer : List Env} {s : Shared} {H : Hp} {E : XK} :
    Passes (L2.CX P w) (cxOf (L2.CX P w) P w K mg base N qual scope f cd A outer s H E) E := passes_call (W := fun cls d _ H => E cls d H) (takes_of rfl rfl rfl rfl) (fun _ _ _ _ h => h)
theorem takesE {P : Program} {w : World} {K : PySem.W.Frag} {mg : Str → Option Value} {base : Heap} {N : List Str} {qual : Str} {scope : Scope} {f : Addr} {cd : Value} {A : Around} {outer : List Env} {s : Shared} {H : Hp} {E : XK} :
    Takes (cxOf (L2.CX P w) P w K mg base N qual scope f cd A outer s H E) (fun cls d _ H => E cls d H) := takes_of rfl rfl rfl rfl
end RH
set_option Elab.async false
set_option linter.all false
set_option maxRecDepth 100000
set_option maxHeartbeats 4000000
/-! own errors whose __init__ asks super().__init__ first -/
namespace L2
open PySem PySem.Calls PySem.Spec PyProof.Rows PySem.W
open NdefX (NScope NF CellsAt startF ncx envF inv_startN)
section
variable {X : Cx} {pins : List (Addr × Obj)} {σ : St} {H : Hp} {s : Shared} {a C u : Addr} {E : Value → Shared → Prop} {A : Around}
/-- the bound ValueError.__init__ is called: nothing of it is told -/
theorem call_mw {us : List Value} {Q : Value → Shared → Prop} (T : OexC X.K C) (I : Inv X pins σ H s) (hu : s.heap.get? u = some (kxs_mw "ValueError.__init__" a)) (e : H a = some (exo a C none)) (hl : us.length ≤ sizeLine) (h : ∀ s', Inv X pins σ H s' → Q .none s') :
    wpAny (model X.prog X.w) A (call (.ref u) us) Q E s := by
  obtain ⟨nm, q, N, bs, bm, sn, sub, ab, col, dd, k0, k1, k2, k3, k5, hC, hbm⟩ := T.cls
  obtain ⟨t1, ho⟩ := exo_at I.hok e
  obtain ⟨hp, g, d, t, os⟩ := s
  refine wpAny_call (codeAny_of_tree ?_)
  show wpAny _ A.in1 (callAny (.ref u) ⟨us, []⟩) _ _ _
  simp only [callAny]
  refine wpAny_bind (wpAny_load hu ?_)
  simp only [kxs_mw, show (Value.type "method-wrapper" == Value.type "method" || Value.type "method-wrapper" == Value.type "builtin_function_or_method" || Value.type "method-wrapper" == Value.type "method-wrapper") = true by decide, if_true]
  refine KFB.if_so (by decide) ?_
  refine wpAny_bind (check_bound_init PySem.F.excBase_ValueError.toExcCallFacts (I.kIn _ _ hC) ho rfl ?_)
  refine wpAny_bind (wpAny_pure (wpAny_pure ?_))
  refine ⟨plainId_quiet PySem.F.excBase_ValueError.init.plain _, codeAny_builtin PySem.F.excBase_ValueError.initEntry ?_⟩
  refine exc_init_tree (cls := .ref C) (t0 := t1) (dv := none) (c2 := .none) (c3 := .none) (b4 := .bool false) ho hl fun h' k hx _ => ?_
  have J := I.write (t' := t) (x := a) (e := a) (o := exo a C none) (by rw [e]; exact True.intro) (.inl rfl) k ⟨_, hx⟩ (exo_ok hx)
  have eu : upd H a (exo a C none) = H := by
    funext b
    by_cases hb : b = a
    · rw [hb, upd_same, e]
    · rw [upd_ne hb]
  rw [eu] at J
  exact h _ J
end
theorem mw_args {M : Model} {i : String} {a u : Addr} {s : Shared} {A : Around} {E : Value → Shared → Prop} {pos : Pos} {env : Env} {e : Expr} {es : List Expr} {Q : Value → Shared → Prop}
    (h : wpAny M A (spliced (backTo pos (starEach (e :: es) env))) (fun vs s₁ => KxsAt i u a s₁.heap ∧ wpAny M A (call (.ref u) vs) Q E s₁) E s)
    (he : starEach (e :: es) env = (false, eval e env) :: starEach es env) (hp : (backTo pos (starEach es env)).any (·.1) = false) : wpAny M A (callWith pos (.ref u) [] (backTo pos (starEach (e :: es) env)) []) Q E s := by
  rw [he] at h ⊢
  exact kxs_callWith (i := i) (x := a) (by show (false || (backTo pos (starEach es env)).any (·.1)) = false; rw [hp]; rfl) (evalArgs_plain h)
/-- the class C with an own __init__ that asks super().__init__ first -/
structure SupC (P : Program) (K : Frag) (mg : Str → Option Value) (C : Addr) (qual : Str) (st : Stmt) (f : Addr) (fd : FuncData) (cc cda : Addr) : Prop where
  t : OexC K C
  ex : ∃ (oc : Value) (od : Option Addr) (kV doc pm : Value) (an : Option Addr) (ct : Value) (osl : Array (Option Value)), fd = fnX "__init__" qual (defArgs st) (defBody st) (defScope st) [("__class__", cc)] .none kV doc pm an (.ref cda) ct ∧ K.lookup f = some ⟨oc, od, .func fd, osl⟩
  code : codeIn K (.ref cda) qual = true
  rec_ : ∃ (ccl : Value) (cdd : Option Addr) (vs : Array Value) (ccs : Array (Option Value)) (file : Str) (tf : Tok), K.lookup cda = some ⟨ccl, cdd, .fields vs, ccs⟩ ∧ vs[2]? = some (.str file tf) ∧ ((P.main.file : Str) == file) = true
  cell : ∃ (cl : Value) (cld : Option Addr) (csl : Array (Option Value)), K.lookup cc = some ⟨cl, cld, .cell (some (.ref C)), csl⟩
  mro : mroIn K C (.ref C) = some true
  any : nsIn K cStatics "thirdparty.any" = some none
  sup : ks_superIn K C C "__init__" = some (some (.builtin "ValueError.__init__"))
  ve : subIn K (.ref C) (.type "ValueError") = some true
  gs : mg "super" = none
  top : (P.main.scope.names.lookup ("super" : Str)).isSome = false
def supF (qual : Str) (st : Stmt) (cc cda : Addr) : NF := ⟨"__init__", qual, defArgs st, defBody st, defScope st, [("__class__", cc)], cda⟩
section
variable {P : Program} {w : World} {K : Frag} {mg : Str → Option Value} {base : Heap}
theorem fn_super {pl : Env → Sem Bool} {CX : CXT} {N ps : List Str} {k : Nat} {sp : Sp} {C f cc cda : Addr} {fd : FuncData} {qual self : Str} {st : Stmt} {rest : List Stmt} {e : Expr} {es : List Expr} {p0 p1 p2 p3 p4 : Pos} {ar : Arg} (M : SupC P K mg C qual st f fd cc cda) (S : NScope N ps ["__class__"] (defScope st))
    (hps : ps[0]? = some self) (har : ((defArgs st).posonlyargs ++ (defArgs st).args).head? = some ar) (hse : ar.arg = self) (hks : (defScope st).names.lookup ("super" : Str) = some .globalImplicit)
    (hb0 : defBody st = .Expr (.Call (.Attribute (.Call (.Name "super" p0) [] [] p1) "__init__" p2) (e :: es) [] p3) p4 :: rest) (len : ∀ vs H Q E, sp vs H Q E → vs.length = ps.length)
    (hbody : ∀ (A : Around) (outer : List Env) (s : Shared) (H : Hp) (vs : List V) (Q : VK) (E : XK), Room k (A.deeper (envF (supF qual st cc cda) f s.heap.objs.size)) → sp vs H Q E →
      ∃ (a : Addr) (ta : TA) (t : TS), vs[0]? = some (.ref a) ∧ H a = some (exo a C none) ∧ PA (ncx CX P w K mg base N (supF qual st cc cda) f A outer s H E) (e :: es) ta ∧ PSs (ncx CX P w K mg base N (supF qual st cc cda) f A outer s H E) rest t ∧
        ta (startF N vs [some (.ref C)]) H (fun us H1 => us.length ≤ 1000 ∧ H1 a = some (exo a C none) ∧ t { nx := fun _ H' => Q .non H', rt := Q } (startF N vs [some (.ref C)]) H1))
    (he : ∀ env, starEach (e :: es) env = (false, eval e env) :: starEach es env := by intro _; rfl) (hpl : ∀ env, (backTo p3 (starEach es env)).any (·.1) = false := by intro _; rfl)
    (hev : ∀ env : Env, eval (.Call (.Attribute (.Call (.Name "super" p0) [] [] p1) "__init__" p2) (e :: es) [] p3) env = (do
      let ov ← attributeBase (.Call (.Name "super" p0) [] [] p1) "__init__" env (eval (.Call (.Name "super" p0) [] [] p1) env)
      standAt p2.atName
      let (f, first) ← holding [ov] (getMethod ov "__init__" (pl env))
      callWith p3 f first (backTo p3 (starEach (e :: es) env)) []) := by intro _; rfl)
    (hsw : ∀ env, swapsWith (.Call (.Attribute (.Call (.Name "super" p0) [] [] p1) "__init__" p2) (e :: es) [] p3) none p4.line env = pure false := by intro _; rfl) :
    FnOk P w K mg base CX (k + 1) f fd ps sp := by
  obtain ⟨oc, od, kV, doc, pm, an, ct, osl, efd, lk⟩ := M.ex
  obtain ⟨ccl, cdd, fvs, ccs, file, tf, hcode, hvs, hfile⟩ := M.rec_
  obtain ⟨cl, cld, csl, hcell⟩ := M.cell
  obtain ⟨nm, qn, Nn, bs, bm, sn, sub, ab, col, dd, k0, k1, k2, k3, k5, hC, hbm⟩ := M.t.cls
  subst efd
  refine ⟨len, fun A outer s H args us vs Q E hr e0 hb r hsp => ?_⟩
  have hl := len _ _ _ _ hsp
  have KX : K.In s.heap := e0.mod.kin.keeps fun b o e => (e0.bs b o e).1
  have lim : s.heap.NoLimit := e0.mod.nolimit.keeps fun b o e => (e0.bs b o e).1
  have kH : ∀ b o, K.lookup b = some o → H b = none := fun b o e => (e0.bs b o (e0.mod.kin _ _ e)).2
  have hkc : (defScope st).names.lookup ("__class__" : Str) = some .free := S.frk _ (List.mem_singleton.mpr rfl)
  have CA : CellsAt (supF qual st cc cda).cl ["__class__"] [some (.ref C)] s.heap H := by
    have one : ∀ y c, ([("__class__", cc)] : List (Str × Addr)).lookup y = some c → y = ("__class__" : Str) ∧ c = cc := fun y c e => by
      have := PySem.mem_of_lookup e
      obtain ⟨rfl, rfl⟩ := Prod.mk.inj (List.mem_singleton.mp this)
      exact ⟨rfl, rfl⟩
    have ic : s.heap.IsCell cc (some (.ref C)) := ⟨_, KX _ _ hcell, rfl⟩
    refine ⟨rfl, fun y c e => ?_, fun x y c e1 e2 => (one x c e1).1.trans (one y c e2).1.symm, fun i y hi => ?_⟩
    · obtain ⟨_, rfl⟩ := one y c e
      exact ⟨kH _ _ hcell, _, ic⟩
    · match i, hi with
      | 0, hi =>
        cases Option.some.inj hi
        refine ⟨cc, by show ([("__class__", cc)] : List (Str × Addr)).lookup ("__class__" : Str) = some cc; rw [List.lookup_cons]; simp, fun v hv => ?_⟩
        cases Option.some.inj (Option.some.inj hv)
        exact ⟨_, rfl, ic⟩
      | i + 1, hi => simp at hi
  refine ks_codeAny_call_defAt (body := defBody st) (binds := ps.zip us) hr.depth (KX _ _ lk) rfl lim (codeRec_of KX M.code) rfl hb S.nocell (fun ⟨n, _⟩ hy => S.par n (List.of_mem_zip hy).1) (fun h₁ hns kp => ?_) S.co S.gen S.kind
  show _root_.PySem.wpAt _ (A.deeper (envF (supF qual st cc cda) f s.heap.objs.size)) (.func (defBody st) (envF (supF qual st cc cda) f s.heap.objs.size)) (execs (defBody st) (envF (supF qual st cc cda) f s.heap.objs.size)) _ _ _
  obtain ⟨a, ta, t, hv0, ha0, hA, ht, hT⟩ := hbody A outer s H vs Q E (hr.deeper _) hsp
  have I : Inv (ncx CX P w K mg base N (supF qual st cc cda) f A outer s H E) [] (startF N vs [some (.ref C)]) H { s with heap := h₁, toks := s.toks + (ps.zip us).length } := inv_startN S hr.hd e0 hl r CA hns kp
  have hx := r.get hv0
  obtain ⟨ux, hux, rx⟩ := hx
  obtain rfl : ux = Value.ref a := rx
  have ndP : ps.Nodup := by
    have q := S.nd.sublist (List.take_sublist (ps.length + (["__class__"] : List Str).length) N)
    rw [S.pre] at q
    exact (List.nodup_append.mp q).1
  have hself : (ps.zip us).reverse.lookup self = some (Value.ref a) := NdefX.zip_look ndP hps hux
  have hka : (defScope st).names.lookup self = some .local := S.par self (List.mem_of_getElem? hps)
  have K1 : K.In h₁ := KX.keeps kp
  have hD1 := K1 _ _ hC
  obtain ⟨t1, hxo⟩ := exo_at I.hok ha0
  have hcl : clsIn K C = some { name := nm, bases := bs, mro := .ref C :: bm, ns := Nn, qualname := qn, hasDict := true, slotNames := sn, subclasses := sub, abstract := ab, collection := col, hasDel := false } := by unfold clsIn; rw [hC] <;> rfl
  have hsup := M.sup
  unfold ks_superIn at hsup
  rw [hcl, Option.bind_some] at hsup
  have IA : InstAt h₁ a { cls := .ref C, dict := none, data := .fields #[.ref t1, .none, .none, .none, .bool false, .none] } C none := ⟨hxo, rfl, rfl, trivial⟩
  rw [hb0]
  refine ks_wpAt_execs_cons (ks_wpAt_Expr_any (ks_wpAt_MethodCall ?_ (hev _)) I.quiet (hsw _))
  refine ks_wpAt_super_base (env := envF (supF qual st cc cda) f s.heap.objs.size) hks hkc (by decide) rfl (K1 _ _ lk) rfl har rfl (K1 _ _ hcode) rfl hvs hfile M.top ?_
  obtain ⟨mb, h1, h2⟩ := I.mod.blt
  refine ks_loadName_global S.kind hks (loadGlobal_builtin (I.mod.glob.keeps I.bk) M.gs (h1.keeps I.bk) ((h2 "super" (by decide)).trans (by first | boot_by_name | rfl | kernel_rfl)) ⟨rfl, ?_⟩)
  refine wpAny_loadName_free S.kind hkc (by show ([("__class__", cc)] : List (Str × Addr)).lookup ("__class__" : Str) = some cc; rw [List.lookup_cons]; simp) ⟨_, K1 _ _ hcell, rfl⟩ ?_
  rw [hse]
  refine wpAny_loadName_local S.kind hka hns hself ?_
  refine ks_wpAny_isType_cls hD1 rfl ⟨rfl, ?_⟩
  refine ks_wpAny_call_super hD1 rfl hxo rfl (fun c z => nomatch z) (looks_mroIn K1 M.mro) (fun h2 eso k2 => ?_)
  have I1 := I.kept (t' := s.toks + (ps.zip us).length) k2
  have K2 : K.In h2 := K1.keeps k2
  have IA2 : InstAt h2 a { cls := .ref C, dict := none, data := .fields #[.ref t1, .none, .none, .none, .bool false, .none] } C none := ⟨k2 _ _ hxo, rfl, rfl, trivial⟩
  have hI : Looks (model P w) h2 (isInstance (.ref a) (.type "ValueError")) true := IA2.type.andThen (looks_subIn K2 M.ve)
  refine kxs_getMethod kxs_ValueError eso (looks_opaque K2 M.any) (l₀ := .ref C :: bm) ?_ rfl K2 hsup hI (ks_ne K1 IA hcl) (by decide) ?_
  · exact fun A Q E s k q => wpAny_bind ((looks_clsIn K2 hcl) A _ E s k (wpAny_pure q))
  have k3 : ∀ b o, h2.get? b = some o → (h2.push (kxs_mw "ValueError.__init__" a)).get? b = some o := fun b o e => Heap.get?_push_of_some _ e
  have I2 := I1.kept (t' := s.toks + (ps.zip us).length + 1) k3
  have hu : (h2.push (kxs_mw "ValueError.__init__" a)).get? h2.objs.size = some (kxs_mw "ValueError.__init__" a) := Heap.get?_push_at rfl rfl
  have I3 : Inv (ncx CX P w K mg base N (supF qual st cc cda) f A outer s H E) [(h2.objs.size, kxs_mw "ValueError.__init__" a)] (startF N vs [some (.ref C)]) H _ := I2.pins_of fun p hp => by
    rw [List.mem_singleton.mp hp]
    exact ⟨hu, I1.hok.fresh (Nat.le_refl _), (Nat.ne_of_lt I1.lt).symm, I1.nofs (Nat.le_refl _), fun v z => nomatch z⟩
  refine mw_args (i := "ValueError.__init__") (a := a) ?_ (he _) (hpl _)
  refine thn (hA.run p3 [(h2.objs.size, kxs_mw "ValueError.__init__" a)] _ (startF N vs [some (.ref C)]) H _ I3 hT) fun us1 s1 ⟨vs1, H1, J, r1, hl1, ha1, q1⟩ => ?_
  have hu1 : s1.heap.get? h2.objs.size = some (kxs_mw "ValueError.__init__" a) := (J.pin _ (List.mem_append_right _ (List.mem_singleton.mpr rfl))).1
  refine ⟨hu1, call_mw M.t J hu1 ha1 (by rw [← Paired.length r1, sizeLine_eq]; omega) fun s2 J2 => ?_⟩
  have J3 : Inv (ncx CX P w K mg base N (supF qual st cc cda) f A outer s H E) [] (startF N vs [some (.ref C)]) H1 s2 := J2.pins_of fun p hp => absurd hp (by simp)
  refine wpAt_of_wpAny (wpAny_mono (ht.run [] s2 (startF N vs [some (.ref C)]) H1 _ J3 q1) (fun fl s' hs => ?_) fun e s' hs => hs)
  have fin : ∀ {σ' : L2.St} {H' : Hp} {v : V} {u : Value}, Inv (ncx CX P w K mg base N (supF qual st cc cda) f A outer s H E) [] σ' H' s' → L2.RelV v u → Q v H' → CE outer P w H s Q u s' :=
    fun {σ' H' v u} J rv q => ⟨v, H', J.os, J.bare, J.base, J.hok, rv, q⟩
  cases fl with
  | ret u =>
    obtain ⟨v, σ', H', J, rv, q⟩ := hs
    exact fin J rv q
  | next =>
    obtain ⟨σ', H', J, q⟩ := hs
    exact fin (v := V.non) (u := Value.none) J rfl q
  | brk =>
    obtain ⟨_, _, _, q⟩ := hs
    exact False.elim q
  | cont =>
    obtain ⟨_, _, _, q⟩ := hs
    exact False.elim q
end
end L2
/-! ### isinstance of an error with a dict -/
namespace PySem.W
open PySem PySem.Spec PySem.Calls PyProof.Rows
end PySem.W
namespace L2
open PySem PySem.Spec PyProof.Rows
/-! ### f-strings with None -/
def tFmtN (te : TE) : TE := fun σ H Q => te σ H fun x H1 => (x = .non ∧ Q (.str "None") H1) ∨ ∃ i : Int, x = .int i ∧ i.natAbs.log2 < 1920 ∧ Q (.str (toString i)) H1
theorem pe_fmtN {X : Cx} {e : Expr} {te : TE} {pos : Pos} (he : PE X e te) : PE X (.FormattedValue e (-1) none pos) (tFmtN te) := by
  refine ⟨fun pins s σ H Q I h => ?_⟩
  refine wpAny_FormattedValue_plain (thn (he.run pins s σ H _ I h) fun v s1 hv => ?_)
  obtain ⟨x, H1, I1, r1, q⟩ := hv
  rcases q with ⟨rfl, q⟩ | ⟨i, rfl, hz, q⟩
  · obtain rfl : v = Value.none := r1
    exact wpAny_formatField_none ⟨.str "None", H1, I1.tok _, ⟨_, rfl⟩, q⟩
  · obtain ⟨t, rfl⟩ := r1
    exact wpAny_formatField_int hz ⟨.str (toString i), H1, I1.tok _, ⟨_, rfl⟩, q⟩
end L2
set_option Elab.async false
set_option linter.all false
set_option maxRecDepth 100000
set_option maxHeartbeats 2000000
/-! Sets of ints, made of a list, of a display, of a comprehension; the tuple of a dict's keys. -/
namespace RH
open PySem PySem.Spec PyProof.Rows L2
/-! ### the tuple of a dict's keys -/
/-! ### a set display of two ints -/
/-! ### set(xs) of a list of ints -/
section
variable {M : Program} {w : World} {A : Around} {E : Value → Shared → Prop} {s : Shared}
/-- what a new set is -/
abbrev bare (w : World) : Obj := { cls := .type "set", dict := none, data := .set #[] 0 (.fresh 0 0 (!w.params.followText "set-order")) }
end
end RH
set_option Elab.async false
set_option linter.all false
set_option maxRecDepth 100000
set_option maxHeartbeats 2000000
/-! A set comprehension whose members are ints. -/
namespace RH
open PySem PySem.Spec PyProof.Rows L2
/-! ### tuple(range(..)), told by its very object -/
def tTupRgF (te : L2.St → Hp → (Int → Int → Hp → Prop) → Prop) : TE := fun σ H Q => te σ H fun a b H1 => RgOk a b ∧ ∀ q ob, H1 q = none → ob.dict = none → Q (.ref q) (upd H1 q (.frz ob (.tup (rgV a b))))
theorem pe_tupRgF {X : Cx} {e : Expr} {te : L2.St → Hp → (Int → Int → Hp → Prop) → Prop} {p pos : Pos} (calm : X.calm = true) (gl : Gl X "tuple") (nm : X.mg "tuple" = none) (he : PRg X e te) (na : starEach [e] X.env = (false, eval e X.env) :: starEach [] X.env := by rfl) : PE X (.Call (.Name "tuple" p) [e] [] pos) (tTupRgF te) := by
  refine ⟨fun pins s σ H Q I h => ?_⟩
  refine Call_ (ld_blt I gl nm boot_tuple (PyProof.Rows.callWith_type1 (args_cons (thn (he pins s σ H _ I h) fun x s1 ⟨r, a, b, t, u, v, H1, ex, isr, I1, okr, q⟩ => args_nil ?_) na) na))
  subst ex
  obtain ⟨c1, c2, c3, c4, c5⟩ := okr
  refine call_tuple_range (n := (b - a).toNat) (I1.ok.hd calm) isr (small_one c1 c2 c3 c4) (rangeSize_nat a b) c5 fun h2 k2 out keep items => ?_
  have I2 : Inv X pins σ H1 { s1 with heap := h2, toks := k2 } := I1.kept keep
  have at2 : (h2.push { cls := .type "tuple", data := .seq out }).get? h2.objs.size = some { cls := .type "tuple", data := .seq out } := Heap.get?_push_size _ rfl
  have I3 : Inv X pins σ (upd H1 h2.objs.size (.frz { cls := .type "tuple", data := .seq out } (.tup (rgV a b)))) { s1 with heap := h2.push { cls := .type "tuple", data := .seq out }, toks := k2 } :=
    I2.laid (t' := k2) (fun c o ec => Heap.get?_push_of_some _ ec) (Nat.le_refl _) ⟨at2, by rw [rgV_length, sizeLine_eq]; omega, out.toList, vals_rg items, by rw [Array.toArray_toList]; exact IsTup.new _ _⟩
  exact ⟨.ref h2.objs.size, _, I3, rfl, q _ _ (I2.hok.fresh (Nat.le_refl _)) rfl⟩
end RH
set_option Elab.async false
set_option linter.all false
set_option maxRecDepth 100000
set_option maxHeartbeats 2000000
/-! Lambdas with a default, as values that a def of the text calls without arguments, and that may raise. -/
namespace RH
open PySem PySem.Spec PyProof.Rows L2
open LamX (Tabs TabS TabB ExtN CodeO codeO_ne inv_table among_app)
open NdefX (NF CellsAt NScope startF ncx inv_startN codeO_at slotAt Caps cells_of upd_none)
abbrev LF.fdV (F : LF) (dV doc pm ctv : Value) : FuncData := PySem.W.kdv_fn "<lambda>" F.qual F.params (.expr F.body) F.scope F.cl dV doc pm (.ref F.c) ctv
/-- the object at f is this lambda, its defaults at dV -/
def FnV (f : Addr) (F : LF) (dV : Value) : HO := .ext fun h => ∃ (od : Option Addr) (sl : Array (Option Value)) (doc pm ctv : Value), h.get? f = some (⟨.type "function", od, .func (F.fdV dV doc pm ctv), sl⟩ : Obj)
/-- the tuple of one default, an int -/
def DvO (t : Addr) (n : Int) : HO := .ext fun h => ∃ tk, h.get? t = some (PySem.W.kdv_tup [.int n tk])
theorem dvO_ne {t : Addr} {n : Int} (ps : Array Value) : DvO t n ≠ .tbl ps := fun z => by
  unfold DvO at z
  cases z
section
variable {X : Cx} {pins : List (Addr × Obj)} {σ : L2.St} {H : Hp} {s : Shared}
/-- more stands in a lambda's table: one code object -/
theorem tabs_more {T : List (Addr × Str)} {H G : Hp} {P c' : Addr} {ps : Array Value} {pos : Pos} {q : Str} (hT : Tabs T H) (hu : ∀ p ∈ T, p.1 = P → p.2 = q) (ht : TriplesOk ps.toList) (hq : (P, q) ∈ T) (hP : H P = some (.tbl ps))
    (gP : G P = some (.tbl (ps ++ #[rawInt pos.line, rawInt pos.col, .ref c']))) (gC : G c' = some (CodeO c' q)) (keep : ExtN H G) (oth : ∀ b ps', b ≠ P → H b = some (.tbl ps') → G b = some (.tbl ps')) : Tabs T G := by
  intro p hp
  obtain ⟨ps1, k1, k2, k3⟩ := hT p hp
  by_cases at_ : p.1 = P
  · rw [at_] at k1
    have same : ps1 = ps := HO.tbl.inj (Option.some.inj (k1.symm.trans hP))
    subst same
    have split : (ps1 ++ #[rawInt pos.line, rawInt pos.col, Value.ref c']).toList = ps1.toList ++ [rawInt pos.line, rawInt pos.col, Value.ref c'] := Array.toList_append
    refine ⟨_, at_ ▸ gP, split ▸ PySem.TriplesOk_snoc _ _ _ _ ht, fun p2 cv found => ?_⟩
    rw [split] at found
    rcases among_app _ ht found with old | new
    · obtain ⟨c0, w1, w2⟩ := k3 p2 cv old
      exact ⟨c0, w1, keep _ _ w2 codeO_ne⟩
    · exact ⟨c', new, (hu p hp at_).symm ▸ gC⟩
  · exact ⟨ps1, oth _ _ at_ k1, k2, fun p2 cv found => (k3 p2 cv found).imp fun c0 w => ⟨w.1, keep _ _ w.2 codeO_ne⟩⟩
theorem inv_fnV {F : LF} {dV doc pm ctv : Value} {h' : Heap} {t' : Nat} (I : Inv X pins σ H { s with heap := h', toks := t' }) :
    Inv X pins σ (upd H h'.objs.size (FnV h'.objs.size F dV)) { s with heap := h'.push { cls := .type "function", data := .func (F.fdV dV doc pm ctv) }, toks := t' } :=
  I.laid (t' := t') (a := h'.objs.size) (fun _ _ e => Heap.get?_push_of_some _ e) (Nat.le_refl _)
    ⟨⟨_, _, doc, pm, ctv, Heap.get?_push_size _ rfl⟩, ⟨_, Heap.get?_push_size _ rfl⟩, fun _ _ ⟨od, sl, a, b, c, z⟩ st => ⟨od, sl, a, b, c, st _ z⟩⟩
/-- what is asked of a lambda that was made -/
def MadeV (X : Cx) (pins : List (Addr × Obj)) (σ : L2.St) (T : List (Addr × Str)) (H : Hp) (F : Addr → LF) (dV : Value) (Q : Value → Shared → Prop) : Prop := ∀ (f c' : Addr) (H1 : Hp) (s' : Shared), Inv X pins σ H1 s' → ExtN H H1 → (∀ b, H1 b = none → H b = none) → Tabs T H1 → H f = none →
  H1 f = some (FnV f (F c') dV) → H1 c' = some (CodeO c' (F c').qual) → Q (.ref f) s'
theorem tail_made {T : List (Addr × Str)} {c P : Addr} {params : Arguments} {body : Expr} {scope : Scope} {pos : Pos} {dV : Value} {E Q : Value → Shared → Prop} (I : Inv X pins σ H s) (TB : TabB X.base X.mg c P) (hcode : X.env.code = .ref c)
    (hm : (P, X.env.qual ++ "<lambda>") ∈ T) (hu : ∀ p ∈ T, p.1 = P → p.2 = X.env.qual ++ "<lambda>") (hT : Tabs T H) (hfree : ∀ y ∈ scope.names, y.2 = .free → ∃ c, X.env.cells.lookup y.1 = some c)
    (h : MadeV X pins σ T H (fun c' => ⟨X.env.qual ++ "<lambda>", params, body, scope, cloFrom X.env.cells scope.names [], c'⟩) dV Q) :
    wpAny (model X.prog X.w) X.A (makeTail "<lambda>" (X.env.qual ++ "<lambda>") params (.expr body) scope X.env dV .none none pos pos.line) Q E s := by
  obtain ⟨ps, hP, ht, ha⟩ := hT _ hm
  have atP := I.hok P _ hP
  have gl := I.mod.glob.keeps I.bk
  have cd := TB.code.keeps I.bk
  have bl : s.heap.BuiltinsAt X.mg P := TB.bm.keeps I.bk
  cases hc : codeAmong pos ps.toList with
  | some cv =>
    obtain ⟨c', rfl, hco⟩ := ha pos cv hc
    refine PySem.W.kdv_makeTailHit (mg := X.mg) (closure_ok hfree) I.ok.glob gl hcode cd atP ht hc bl fun ctv doc h' tk ext _ => ?_
    have J : Inv X pins σ H { s with heap := h', toks := tk } := I.kept ext
    have nF : H h'.objs.size = none := J.hok.fresh (Nat.le_refl _)
    have up : Same H (upd H h'.objs.size (FnV h'.objs.size ⟨X.env.qual ++ "<lambda>", params, body, scope, cloFrom X.env.cells scope.names [], c'⟩ dV)) := fun b o e => (upd_ne (ne_of_none e nF)).trans e
    exact h _ c' _ _ (inv_fnV J) (ExtN.of up) (fun _ e => upd_none e) (hT.ext up) nF upd_same (up _ _ hco)
  | none =>
    refine PySem.W.kdv_makeTail (mg := X.mg) (closure_ok hfree) I.ok.glob gl hcode cd atP ht hc TB.gP bl fun c' ctv doc h' tk ext ge _ rec tab => ?_
    obtain ⟨_, oc, vs, t, rfl', at_c, dat, nam⟩ := rec
    obtain rfl := Value.ref.inj rfl'
    have nC : H c' = none := I.hok.fresh ge
    have J := inv_table (t' := tk) (more := #[rawInt pos.line, rawInt pos.col, .ref c']) (h' := h') I hP (fun b o ne e => ext b o ne e) tab ge ⟨oc, vs, t, at_c, dat, nam⟩
    generalize eG : upd (upd H P (.tbl (ps ++ #[rawInt pos.line, rawInt pos.col, .ref c']))) c' (CodeO c' (X.env.qual ++ "<lambda>")) = G at J
    have far : ∀ b, b ≠ c' → b ≠ P → G b = H b := fun b n1 n2 => by rw [← eG, upd_ne n1, upd_ne n2]
    have gP : G P = some (.tbl (ps ++ #[rawInt pos.line, rawInt pos.col, .ref c'])) := by rw [← eG, upd_ne (ne_of_none hP nC), upd_same]
    have gC : G c' = some (CodeO c' (X.env.qual ++ "<lambda>")) := by rw [← eG, upd_same]
    have keep : ExtN H G := fun b o e n => (far b (ne_of_none e nC) (fun z => n ps (Option.some.inj (e.symm.trans (z ▸ hP))))).trans e
    have oth : ∀ b ps', b ≠ P → H b = some (.tbl ps') → G b = some (.tbl ps') := fun b ps' n e => (far b (ne_of_none e nC) n).trans e
    have back : ∀ b, G b = none → H b = none := fun b e => upd_none (upd_none (eG ▸ e))
    have TG := tabs_more hT hu ht hm hP gP gC keep oth
    have nF : G h'.objs.size = none := J.hok.fresh (Nat.le_refl _)
    have up : Same G (upd G h'.objs.size (FnV h'.objs.size ⟨X.env.qual ++ "<lambda>", params, body, scope, cloFrom X.env.cells scope.names [], c'⟩ dV)) := fun b o e => (upd_ne (ne_of_none e nF)).trans e
    exact h _ c' _ _ (inv_fnV J) (keep.trans (ExtN.of up)) (fun b e => back b (upd_none e)) (TG.ext up) (back _ nF) upd_same (up _ _ gC)
end
/-- lambda a=n: .. as a value -/
def tLamD (T : List (Addr × Str)) (n : Int) (mk : Addr → LF) : TE := fun _ H Q => Tabs T H ∧ ∀ (f c' t : Addr) (H1 : Hp), ExtN H H1 → (∀ b, H1 b = none → H b = none) → Tabs T H1 → H f = none → H1 f = some (FnV f (mk c') (.ref t)) → H1 c' = some (CodeO c' (mk c').qual) → H1 t = some (DvO t n) → Q (.ref f) H1
theorem pe_lamD {X : Cx} {T : List (Addr × Str)} {c P : Addr} {params : Arguments} {body : Expr} {scope : Scope} {pos : Pos} {d : Expr} {n : Int} (TB : TabB X.base X.mg c P) (hcode : X.env.code = .ref c)
    (hm : (P, X.env.qual ++ "<lambda>") ∈ T) (hu : ∀ p ∈ T, p.1 = P → p.2 = X.env.qual ++ "<lambda>") (hd : params.defaults = [d]) (hk : params.kw_defaults = []) (he : PE X d (fun _ H Q => Q (.int n) H))
    (hfree : ∀ y ∈ scope.names, y.2 = .free → X.env.scope.names.lookup y.1 = some .cell ∨ X.env.scope.names.lookup y.1 = some .free) :
    PE X (.Lambda params body scope pos) (tLamD T n fun c' => ⟨X.env.qual ++ "<lambda>", params, body, scope, cloFrom X.env.cells scope.names [], c'⟩) := by
  refine ⟨fun pins s σ H Q I h => PySem.W.kdv_lam (by rw [hd]; rfl) hk ?_⟩
  obtain ⟨hT, q⟩ := h
  rw [hd]
  refine PySem.W.kdv_all1 (thn (he.run pins s σ H (fun v H1 => v = .int n ∧ H1 = H) I ⟨rfl, rfl⟩) fun u s1 ⟨v, H1, I1, r1, e1, e2⟩ => PySem.W.kdv_all0 ?_)
  subst e1 e2
  obtain ⟨tk, rfl⟩ := r1
  rw [makeFunction_eq]
  simp only [List.zip_nil_right, List.filterMap_nil, List.isEmpty_nil, List.isEmpty_cons, Bool.false_eq_true, if_false, if_true, pure_bind]
  refine wpAny_bind (wpAny_newTextTuple ?_)
  generalize et : s1.heap.objs.size = t
  have I2 : Inv X pins σ (upd H1 t (DvO t n)) { s1 with heap := s1.heap.push { cls := .type "tuple", data := .seq [Value.int n tk].toArray } } := by
    subst et
    exact I1.laid (t' := s1.toks) (fun _ _ e => Heap.get?_push_of_some _ e) (Nat.le_refl _) ⟨⟨tk, Heap.get?_push_size _ rfl⟩, ⟨_, Heap.get?_push_size _ rfl⟩, fun _ _ ⟨k, z⟩ st => ⟨k, st _ z⟩⟩
  have nT : H1 t = none := I1.hok.fresh (Nat.le_of_eq et)
  have up : Same H1 (upd H1 t (DvO t n)) := fun b o e => (upd_ne (ne_of_none e nT)).trans e
  refine tail_made I2 TB hcode hm hu (hT.ext up) (fun y hy e => (hfree y hy e).elim (fun z => I2.ok.has _ (.inl z)) fun z => I2.ok.has _ (.inr z)) fun f c' H2 s' J ex nn T2 nf h1 h2 => ?_
  exact ⟨.ref f, H2, J, rfl, q f c' t H2 ((ExtN.of up).trans ex) (fun b e => upd_none (nn b e)) T2 (upd_none nf) h1 h2 (ex _ _ upd_same dvO_ne)⟩
/-! ### such a lambda called -/
section
variable {CX : CXT} {P : Program} {w : World} {K : PySem.W.Frag} {mg : Str → Option Value} {base : Heap} {N ps fr : List Str} {F : LF} {f t : Addr} {n : Int} {k j : Nat} {sp : List (Option V) → Sp}
/-- a lambda whose parameter has a default, called without arguments -/
structure LOkD (P : Program) (w : World) (K : PySem.W.Frag) (mg : Str → Option Value) (base : Heap) (CX : CXT) (k : Nat) (f : Addr) (F : LF) (t : Addr) (n : Int) (fr : List Str) (sp : List (Option V) → Sp) : Prop where
  run : ∀ (A : Around) (outer : List Env) (s : Shared) (H : Hp) (ws : List (Option V)) (Q : VK) (E : XK), Room k A → Env0 P w K mg base A outer s H → H f = some (FnV f F (.ref t)) → H F.c = some (CodeO F.c F.qual) → H t = some (DvO t n) →
    CellsAt F.cl fr ws s.heap H → sp ws [] H Q E → codeAny (model P w) A (.call (.ref f) ⟨[], []⟩) (CR CX outer P w H s Q E) s
theorem lokD_of {x : Str} (S : NScope N [x] fr F.scope) (hb : ∀ (s : Shared) (doc pm ctv u : Value), s.heap.get? t = some (PySem.W.kdv_tup [u]) → BindsTo s (F.fdV (.ref t) doc pm ctv) ⟨[], []⟩ [(x, u)])
    (hbody : ∀ (A : Around) (outer : List Env) (s : Shared) (H : Hp) (ws : List (Option V)) (Q : VK) (E : XK), Room k (A.deeper (NdefX.envF F.nf f s.heap.objs.size)) → ws.length = fr.length → sp ws [] H Q E →
      ∃ t, PE (ncx CX P w K mg base N F.nf f A outer s H E) F.body t ∧ t (startF N [.int n] ws) H Q) :
    LOkD P w K mg base CX (k + 1) f F t n fr sp := by
  refine ⟨fun A outer s H ws Q E hr e0 hf hc hd C hsp => ?_⟩
  obtain ⟨od, sl, doc, pm, ctv, ho⟩ := (e0.hok f _ hf).1
  obtain ⟨tk, hdt⟩ := (e0.hok t _ hd).1
  have free : s.heap.NoLimit := e0.mod.nolimit.keeps fun b o e => (e0.bs b o e).1
  refine PySem.W.kla_callFunE hr.depth ho rfl S.co S.gen rfl (codeO_at e0.hok hc) (hb s doc pm ctv _ hdt _ _ _ _ ?_)
  refine wpAny_newFunctionEnv S.nocell (fun y hy => S.par y.1 (by rw [List.mem_singleton.mp hy]; exact List.mem_singleton.mpr rfl)) (fun h₁ hns hsb => ⟨free.fresh _ hsb, ?_⟩) S.kind
  have kp : ∀ b o, s.heap.get? b = some o → h₁.get? b = some o := fun b o e => hsb.extBut b o (Nat.ne_of_lt (Heap.lt_size e)) (Heap.get?_push_of_some _ e)
  obtain ⟨te, ht, hq⟩ := hbody A outer s H ws Q E (hr.deeper _) C.len hsp
  have I : Inv (ncx CX P w K mg base N F.nf f A outer s H E) [] (startF N [.int n] ws) H { s with heap := h₁, toks := s.toks + 1 } := inv_startN (F := F.nf) (vs := [.int n]) (us := [.int n tk]) S hr.hd e0 rfl (.cons ⟨tk, rfl⟩ .nil) C hns kp
  exact PySem.W.kla_codeExpr (wpAny_mono (ht.run [] _ _ H Q I hq) (fun v s' ⟨v', H', J, rv, q⟩ => ⟨v', H', J.os, J.bare, J.base, J.hok, rv, q⟩) fun e s' hs => hs)
end
/-- f may be called without arguments, and may raise, from any frame that began at s, H below outer, while live holds -/
structure Call0 (P : Program) (w : World) (K : PySem.W.Frag) (mg : Str → Option Value) (base : Heap) (k : Nat) (f : Addr) (live : Hp → Prop) (sp : Sp) (outer : List Env) (s : Shared) (H : Hp) : Prop where
  at_ : ∀ (X : Cx), X.prog = P → X.w = w → X.K = K → X.base = base → X.s_0 = s → X.H_0 = H → ∀ pins σ H' s', Inv X pins σ H' s' → live H' → PySem.W.FnAt f s'.heap
  run : ∀ (X : Cx), X.prog = P → X.w = w → X.K = K → X.mg = mg → X.base = base → X.s_0 = s → X.H_0 = H → X.outer = outer → X.ex = [] → Room k X.A → ∀ pins σ H' s' Q E, Inv X pins σ H' s' → live H' → PassesAt (L2.CX P w) X σ E → sp [] H' Q E →
    wpAny (model P w) X.A (call (.ref f) []) (EP X pins σ Q) X.xe s'
section
variable {P : Program} {w : World} {K : PySem.W.Frag} {mg : Str → Option Value} {base : Heap} {fr : List Str} {k : Nat} {f t : Addr} {n : Int} {F : LF} {ws : List (Option V)} {outer : List Env} {s : Shared} {H : Hp} {sp : List (Option V) → Sp}
/-- what a call without arguments leaves -/
theorem left0 {X : Cx} {pins : List (Addr × Obj)} {σ : L2.St} {H' : Hp} {s' : Shared} {Q : VK} {E : XK} {g : Addr} (I : Inv X pins σ H' s') (hx : PassesAt (L2.CX X.prog X.w) X σ E)
    (h : codeAny (model X.prog X.w) X.A (.call (.ref g) ⟨[], []⟩) (CR (L2.CX X.prog X.w) X.stack X.prog X.w H' s' Q E) s') : wpAny (model X.prog X.w) X.A (call (.ref g) []) (EP X pins σ Q) X.xe s' :=
  wpAny_call (codeAny_mono h fun r s'' hq => by
    cases r with
    | error e => exact hx pins H' _ e s'' I hq
    | ok fl =>
      cases fl with
      | ret u => exact I.after hq
      | next => exact False.elim hq
      | brk => exact False.elim hq
      | cont => exact False.elim hq)
theorem call0_lam (Fn : LOk P w K mg base (L2.CX P w) k f F [] fr sp) (C : CellsAt F.cl fr ws s.heap H) (nf : ∀ y c, F.cl.lookup y = some c → c ∉ frs outer) : Call0 P w K mg base k f (liveL f F) (sp ws) outer s H := by
  refine ⟨fun X _ _ _ _ _ _ pins σ H' s' I l => ?_, fun X e1 e2 e3 e4 e5 e6 e7 e8 e9 hr pins σ H' s' Q E I l hx q => ?_⟩
  · obtain ⟨od, sl, pm, ctv, ho⟩ := fnL_at I.hok l.1
    exact ⟨_, od, _, sl, ho⟩
  · subst e1 e2 e3 e4 e5 e6 e7 e8
    have C2 := NdefX.CellsAt.later (X := X) C nf (fun y c _ z => by rw [e9] at z; exact absurd z (by simp)) I
    exact left0 I hx (Fn.run X.A X.stack s' H' [] [] ws Q E hr I.env0 l.1 l.2 C2 .nil q)
/-- a lambda with a default is alive while its object, its code and its default stand -/
def liveD (f : Addr) (F : LF) (t : Addr) (n : Int) : Hp → Prop := fun H => H f = some (FnV f F (.ref t)) ∧ H F.c = some (CodeO F.c F.qual) ∧ H t = some (DvO t n)
theorem call0_lamD (Fn : LOkD P w K mg base (L2.CX P w) k f F t n fr sp) (C : CellsAt F.cl fr ws s.heap H) (nf : ∀ y c, F.cl.lookup y = some c → c ∉ frs outer) : Call0 P w K mg base k f (liveD f F t n) (sp ws) outer s H := by
  refine ⟨fun X _ _ _ _ _ _ pins σ H' s' I l => ?_, fun X e1 e2 e3 e4 e5 e6 e7 e8 e9 hr pins σ H' s' Q E I l hx q => ?_⟩
  · obtain ⟨od, sl, doc, pm, ctv, ho⟩ := (I.hok f _ l.1).1
    exact ⟨_, od, _, sl, ho⟩
  · subst e1 e2 e3 e4 e5 e6 e7 e8
    have C2 := NdefX.CellsAt.later (X := X) C nf (fun y c _ z => by rw [e9] at z; exact absurd z (by simp)) I
    exact left0 I hx (Fn.run X.A X.stack s' H' ws Q E hr I.env0 l.1 l.2.1 l.2.2 C2 q)
end
/-- f(), f a name that holds such a thing -/
def tCall0C (f : Addr) (live : Hp → Prop) (i : Nat) (sp : Sp) (E : L2.St → XK) : TE := fun σ H Q => σ[i]? = some (some (.ref f)) ∧ live H ∧ sp [] H Q (E σ)
theorem pe_call0C {X : Cx} {f : Addr} {live : Hp → Prop} {i j k : Nat} {x : Str} {sp : Sp} {E : L2.St → XK} {p pos : Pos} (Cb : Call0 X.prog X.w X.K X.mg X.base k f live sp X.outer X.s_0 X.H_0) (nx : X.ex = []) (hr : Room j X.A) (hk : k ≤ j) (hx : ∀ σ, PassesAt (L2.CX X.prog X.w) X σ (E σ))
    (hN : X.N[i]? = some x) (hv : Vis X.env.scope x) (hd : (x == ("__debug__" : Str)) = false := by decide) (hcd : (x == ("__classdict__" : Str)) = false := by decide) : PE X (.Call (.Name x p) [] [] pos) (tCall0C f live i sp E) := by
  refine ⟨fun pins s σ H Q I ⟨hs, hl, q⟩ => ?_⟩
  refine wpAny_Call_Name_kw (thn ((pe_var (pos := p) hN hv hd hcd).run pins s σ H (fun v H1 => v = .ref f ∧ H1 = H) I ⟨.ref f, hs, rfl, rfl⟩) fun u s1 ⟨v, H1, I1, r1, e1, e2⟩ => ?_)
  subst e1 e2
  obtain rfl : u = Value.ref f := r1
  exact PySem.W.callWith_F0 (first := []) (Cb.at_ X rfl rfl rfl rfl rfl rfl pins σ H1 s1 I1 hl) (Cb.run X rfl rfl rfl rfl rfl rfl rfl rfl nx (hr.mono hk) pins σ H1 s1 Q (E σ) I1 hl (hx σ) q)
end RH
set_option Elab.async false
set_option linter.all false
set_option maxRecDepth 100000
set_option maxHeartbeats 2000000
/-! try with several except clauses, each with a name. -/
namespace RH
open PySem PySem.Spec PyProof.Rows L2
/-- an error of class cls that has come to the try of X, at the heap h -/
structure Caught (X : Cx) (pins : List (Addr × Obj)) (a : Addr) (cls : Value) (d : Option Addr) (σ : L2.St) (H : Hp) (s : Shared) : Prop where
  ex : ∃ (B : Heap) (sI : Shared), Inv X pins σ H sI ∧ (∀ b o, sI.heap.get? b = some o → b ∉ frs X.stack → B.get? b = some o) ∧ sI.heap.UpToSlots s.heap ∧ HandSPX.FlyingZ B (X.env :: X.outer) a (Zc cls d) s.heap ∧ s.os = sI.os ∧ AllBare s.gens
  na : H a = none
section
variable {X : Cx} {pins : List (Addr × Obj)} {a : Addr} {cls : Value} {d : Option Addr} {σ : L2.St} {H : Hp} {s : Shared}
/-- the error's object, and the suite's frame -/
theorem Caught.suite (c : Caught X pins a cls d σ H s) (hf : X.env.frame = some X.env.locals) : ∃ (oe : Obj) (vs : Array Value), s.heap.get? a = some oe ∧ Zc cls d oe ∧ oe.data = .fields vs ∧ Inv X pins σ H s ∧ Inv (X.suite a ((a, oe) :: (X.pn ++ pins))) [] σ H s := by
  obtain ⟨B, sI, I, nb, up, fl, os, ag⟩ := c.ex
  have J : Inv X pins σ H s := I.landed nb fl.1 up os ag
  obtain ⟨oe, vs, at_, z, dat⟩ := fl.there
  have out : a ∉ frs (X.env :: X.outer) := fun m => by
    obtain ⟨_, o, e, no⟩ := fl.2.2.1.mem m
    rw [at_] at e
    cases e
    exact no _ dat
  refine ⟨oe, vs, at_, z, dat, J, J.suite at_ dat c.na (fun e => out ?_) fun m => out ?_⟩
  · rw [e]
    exact List.mem_filterMap.mpr ⟨X.env, List.mem_cons_self, hf⟩
  · obtain ⟨v, hv, q⟩ := List.mem_filterMap.mp m
    exact List.mem_filterMap.mpr ⟨v, List.mem_cons_of_mem _ hv, q⟩
/-- no clause takes it -/
theorem Caught.on {W : WX} {D : Ends} (c : Caught X pins a cls d σ H s) (hs : X.stack = X.env :: X.outer) (hf : X.env.frame = some X.env.locals) (tk : Takes X W) (w : W cls d σ H) : wpAny (model X.prog X.w) X.A (handleBy (.ref a) X.env []) (SP X pins D) X.xe s := by
  obtain ⟨B, sI, I, nb, up, fl, os, ag⟩ := c.ex
  refine wpAny_handleBy_nil ?_
  obtain ⟨_, _, _, oe, vs, T, oT, ts, at_, z, dat, one, _⟩ := id fl
  unfold PySem.passOn
  refine wpAny_bind (wpAny_field at_ dat one ?_)
  rw [if_neg (by simp : ¬ ((Value.ref T == Value.none) = true)), hf]
  have out : wpAny (model X.prog X.w) X.A (setFlight (.ref a) (some X.env.locals)) (fun _ s4 => wpAny (model X.prog X.w) X.A (throw (.ref a) : Sem Flow) (SP X pins D) X.xe s4) X.xe s :=
    HandSPX.setFlight_upZ fl fun h4 hh up4 => wpAny_throw (tk _ _ ⟨a, B, sI, pins, σ, H, cls, d, rfl, I, nb, up.trans up4, .inr (.inr (hs ▸ hh)), c.na, os, ag, w⟩)
  first
    | exact wpAny_bind (wpAny_pure (wpAny_bind out))
    | exact wpAny_bind out
end
/-- a clause: its class, its name's place, its suite's reading -/
abbrev Cls := Value × Nat × (Addr → Value → Option Addr → TS)
/-- the ends of a suite whose name is gone behind it -/
def Ends.lose (D : Ends) (i : Nat) : Ends := { nx := fun σ H => D.nx (σ.set i none) H, rt := D.rt, bk := fun σ H => D.bk (σ.set i none) H, ct := fun σ H => D.ct (σ.set i none) H }
/-- what the clauses ask of an error -/
def wAll (K : PySem.W.Frag) (W : WX) (D : Ends) : List Cls → WX
  | [] => W
  | (c, i, ts) :: r => fun cls d σ H => ∃ b, PySem.W.exmOne K cls c = some b ∧ (b = true → ∀ a, H a = none → ts a cls d (Ends.lose D i) (σ.set i (some (.ref a))) H) ∧ (b = false → wAll K W D r cls d σ H)
inductive ClsOk (X : Cx) : List ExceptHandler → List Cls → Prop
  | nil : ClsOk X [] []
  | cons {x n : Str} {c : Value} {i : Nat} {ts : Addr → Value → Option Addr → TS} {b₀ : Stmt} {suite : List Stmt} {np pos' : Pos} {hds : List ExceptHandler} {l : List Cls} (hc : Names X x c) (hi : X.N[i]? = some n) (hln : X.env.kindOf n = some .local)
      (hsu : ∀ (a : Addr) (oe : Obj) (cls : Value) (d : Option Addr) (pn : List (Addr × Obj)), Zc cls d oe → (∃ vs, oe.data = .fields vs) → PSs (X.suite a ((a, oe) :: pn)) (b₀ :: suite) (ts a cls d)) (r : ClsOk X hds l) :
      ClsOk X (.ExceptHandler (some (.Name x np)) (some n) (b₀ :: suite) pos' :: hds) ((c, i, ts) :: l)
section
variable {X : Cx} {pins : List (Addr × Obj)} {a : Addr} {cls : Value} {d : Option Addr} {σ : L2.St} {H : Hp} {s : Shared}
/-- one clause after the other -/
theorem Caught.clauses {W : WX} {D : Ends} (hs : X.stack = X.env :: X.outer) (hf : X.env.frame = some X.env.locals) (hN : X.N.Nodup) (tk : Takes X W) (c : Caught X pins a cls d σ H s) {hds : List ExceptHandler} {l : List Cls} (k : ClsOk X hds l) (w : wAll X.K W D l cls d σ H) :
    wpAny (model X.prog X.w) X.A (handleBy (.ref a) X.env hds) (SP X pins D) X.xe s := by
  induction k with
  | nil => exact c.on hs hf tk w
  | @cons x n kls i ts b₀ suite np pos' hds l hc hi hln hsu r ih =>
    obtain ⟨b, asked, yes, no⟩ := w
    obtain ⟨oe, vs, at_, z, dat, J, S⟩ := c.suite hf
    have isIt := PySem.W.exm_one (M := model X.prog X.w) (h := s.heap) J.kIn (fun A Q E s k q => wpAny_typeOf_ref (k _ _ at_) (by rw [z.1]; exact q)) asked
    have named : ∀ {Q E : Value → Shared → Prop}, Q kls s → wpAny (model X.prog X.w) (X.A.mark (some (.ref a))) (eval (.Name x np) X.env) Q E s := fun q => by
      obtain ⟨g, db, m | ⟨m, bv, nn⟩⟩ := hc
      · exact ld_glob (X := X.suite a ((a, oe) :: (X.pn ++ pins))) S g m q db
      · exact ld_blt (X := X.suite a ((a, oe) :: (X.pn ++ pins))) S g m bv q nn db
    refine wpAny_handleBy_cons (codeAny_handlers_test (named (isIt.here ?_))) (by intro q; cases q)
    cases b with
    | false => exact ih (no rfl)
    | true =>
      obtain ⟨B, sI, I, nb, up, fl, os, ag⟩ := c.ex
      refine codeAny_handlers_suite_as (HandSPX.lands_againZ fl fun h4 fl4 up4 => ?_)
      have c4 : Caught X pins a cls d σ H { s with heap := h4 } := ⟨⟨B, sI, I, nb, up.trans up4, fl4, os, ag⟩, c.na⟩
      obtain ⟨oe4, vs4, at4, z4, dat4, J4, S4⟩ := c4.suite hf
      refine store_ok (X := X.suite a ((a, oe4) :: (X.pn ++ pins))) (v := .ref a) S4 hN hi (.inl hln) rfl (fun s5 S5 => ?_) (.inr hln)
      refine wpAny_mono ((hsu a oe4 cls d (X.pn ++ pins) z4 ⟨_, dat4⟩).run [] s5 _ H _ S5 (yes rfl a c.na)) (fun f s6 q => ?_) fun _ _ q => q.elim
      cases f with
      | next => exact let ⟨_, _, S6, q⟩ := q; gone_ok (S6.unsuite J4.ok) hN hi hln fun s7 J7 => ⟨_, _, J7, q⟩
      | brk => exact let ⟨_, _, S6, q⟩ := q; gone_ok (S6.unsuite J4.ok) hN hi hln fun s7 J7 => ⟨_, _, J7, q⟩
      | cont => exact let ⟨_, _, S6, q⟩ := q; gone_ok (S6.unsuite J4.ok) hN hi hln fun s7 J7 => ⟨_, _, J7, q⟩
      | ret u => exact let ⟨_, _, _, S6, r, q⟩ := q; gone_ok (S6.unsuite J4.ok) hN hi hln fun s7 J7 => ⟨_, _, _, J7, r, q⟩
end
theorem ps_try_named {X : Cx} {body : List Stmt} {h₀ : ExceptHandler} {hds : List ExceptHandler} {l : List Cls} {pos : Pos} {tb : WX → TS} {W : WX} (hs : X.stack = X.env :: X.outer) (hf : X.env.frame = some X.env.locals) (hN : X.N.Nodup) (tk : Takes X W)
    (hb : ∀ (W : WX) (pn : List (Addr × Obj)) (xe : Value → Shared → Prop), Takes (X.tr pn xe) W → PassesOwn (model X.prog X.w) X.A X.env xe → PSs (X.tr pn xe) body (tb W)) (hh : ClsOk X (h₀ :: hds) l) :
    PS X (.Try body (h₀ :: hds) [] [] pos) (fun D σ H => tb (wAll X.K W D l) D σ H) := by
  refine ⟨fun pins s σ H D I h => wpAny_Try_except ?_⟩
  have at_top : X.A.frames = some (X.env :: X.outer) := by rw [I.ok.frames, hs]
  have body_ := hb (wAll X.K W D l) (X.pn ++ pins) (fun e s₁ => wpAny (model X.prog X.w) X.A (noteFrame e X.env) (fun _ s₂ => wpAny (model X.prog X.w) X.A (setFlight e none) (fun _ s₃ =>
    wpAny (model X.prog X.w) X.A (handleBy e X.env (h₀ :: hds)) (SP X pins D) X.xe s₃) X.xe s₂) X.xe s₁) (fun u s' xx => by
      obtain ⟨a, B, sI, p2, σ2, H2, cls, d, rfl, J, nb, up, sky, na, os, ag, w⟩ := xx
      refine Sky.land Zc.steady at_top hf (by rw [← hs]; exact sky) fun h3 fl up3 => ?_
      exact Caught.clauses (s := { s' with heap := h3 }) hs hf hN tk ⟨⟨B, sI, J.ofTry I.ok, nb, up.trans up3, fl, os, ag⟩, na⟩ hh w) PassesOwn.looking
  refine wpAny_mono (body_.run [] s σ H D (I.toTry _) h) (fun f s1 q => ?_) fun e s1 he => he
  cases f with
  | next => exact let ⟨σ', H', J, q⟩ := q; wpAny_execs_nil ⟨σ', H', J.ofTry I.ok, q⟩
  | brk => exact let ⟨σ', H', J, q⟩ := q; ⟨σ', H', J.ofTry I.ok, q⟩
  | cont => exact let ⟨σ', H', J, q⟩ := q; ⟨σ', H', J.ofTry I.ok, q⟩
  | ret u => exact let ⟨v, σ', H', J, r, q⟩ := q; ⟨v, σ', H', J.ofTry I.ok, r, q⟩
end RH
set_option Elab.async false
set_option linter.all false
set_option maxRecDepth 100000
set_option maxHeartbeats 2000000
namespace RH
open PySem PySem.Spec PyProof.Rows L2
def topS (i : Nat) : Stmt := PySem.Challenge.pw_restlesshelf_k84_whole_joins.main.body.getD i (.Pass ⟨0, 0, 0, 0⟩)
abbrev st_e_BadHabit : Stmt := inClass (topS 2) 0
theorem sc_e_BadHabit : NdefX.NScope ["self", "place", "__class__"] ["self", "place"] ["__class__"] (defScope st_e_BadHabit) := NdefX.nscope_by (by decide +kernel)
abbrev st_e_TooMany : Stmt := inClass (topS 5) 0
theorem sc_e_TooMany : NdefX.NScope ["self", "most", "__class__"] ["self", "most"] ["__class__"] (defScope st_e_TooMany) := NdefX.nscope_by (by decide +kernel)
abbrev st_is_integer : Stmt := topS 10
theorem sc_is_integer : FnScope ["value"] ["value"] (defScope st_is_integer) :=
  ⟨rfl, rfl, rfl, by decide +kernel, rfl, by decide +kernel, by decide +kernel⟩
abbrev st_is_number : Stmt := topS 11
theorem sc_is_number : FnScope ["value", "low", "high"] ["value", "low", "high"] (defScope st_is_number) :=
  ⟨rfl, rfl, rfl, by decide +kernel, rfl, by decide +kernel, by decide +kernel⟩
abbrev st_is_row : Stmt := topS 12
theorem sc_is_row : FnScope ["value", "low", "high"] ["value", "low", "high"] (defScope st_is_row) :=
  ⟨rfl, rfl, rfl, by decide +kernel, rfl, by decide +kernel, by decide +kernel⟩
abbrev st_is_place : Stmt := topS 13
theorem sc_is_place : FnScope ["value", "places"] ["value", "places"] (defScope st_is_place) :=
  ⟨rfl, rfl, rfl, by decide +kernel, rfl, by decide +kernel, by decide +kernel⟩
abbrev st_are_places : Stmt := topS 14
theorem sc_are_places : FnScope ["value", "places", "place"] ["value", "places"] (defScope st_are_places) :=
  ⟨rfl, rfl, rfl, by decide +kernel, rfl, by decide +kernel, by decide +kernel⟩
abbrev st_is_layout : Stmt := topS 15
theorem sc_is_layout : FnScope ["value", "places"] ["value", "places"] (defScope st_is_layout) :=
  ⟨rfl, rfl, rfl, by decide +kernel, rfl, by decide +kernel, by decide +kernel⟩
abbrev st_is_word : Stmt := topS 16
theorem sc_is_word : FnScope ["value", "places"] ["value", "places"] (defScope st_is_word) :=
  ⟨rfl, rfl, rfl, by decide +kernel, rfl, by decide +kernel, by decide +kernel⟩
abbrev st_check_habit : Stmt := topS 17
theorem sc_check_habit : FnScope ["habit", "place", "moves"] ["habit"] (defScope st_check_habit) :=
  ⟨rfl, rfl, rfl, by decide +kernel, rfl, by decide +kernel, by decide +kernel⟩
abbrev st_check_layout : Stmt := topS 18
theorem sc_check_layout : FnScope ["layout", "places"] ["layout", "places"] (defScope st_check_layout) :=
  ⟨rfl, rfl, rfl, by decide +kernel, rfl, by decide +kernel, by decide +kernel⟩
abbrev st_check_word : Stmt := topS 19
theorem sc_check_word : FnScope ["word", "places"] ["word", "places"] (defScope st_check_word) :=
  ⟨rfl, rfl, rfl, by decide +kernel, rfl, by decide +kernel, by decide +kernel⟩
abbrev st_places_of_habit : Stmt := topS 22
theorem sc_places_of_habit : FnScope ["habit"] ["habit"] (defScope st_places_of_habit) :=
  ⟨rfl, rfl, rfl, by decide +kernel, rfl, by decide +kernel, by decide +kernel⟩
abbrev st_move : Stmt := topS 23
theorem sc_move : FnScope ["habit", "layout", "place", "moves", "stood"] ["habit", "layout", "place"] (defScope st_move) :=
  ⟨rfl, rfl, rfl, by decide +kernel, rfl, by decide +kernel, by decide +kernel⟩
abbrev st_move_along : Stmt := topS 24
theorem sc_move_along : FnScope ["habit", "layout", "word", "place"] ["habit", "layout", "word"] (defScope st_move_along) :=
  ⟨rfl, rfl, rfl, by decide +kernel, rfl, by decide +kernel, by decide +kernel⟩
abbrev st_depths : Stmt := topS 25
theorem sc_depths : FnScope ["start", "touches", "step", "most", "found", "level", "further", "state", "place", "new"] ["start", "touches", "step", "most"] (defScope st_depths) :=
  ⟨rfl, rfl, rfl, by decide +kernel, rfl, by decide +kernel, by decide +kernel⟩
abbrev st_layout_depths : Stmt := topS 26
theorem sc_layout_depths : FnScope ["habit", "layout"] ["habit", "layout"] (defScope st_layout_depths) :=
  ⟨rfl, rfl, rfl, by decide +kernel, rfl, by decide +kernel, by decide +kernel⟩
abbrev st_inverse : Stmt := topS 28
theorem sc_inverse : FnScope ["row", "number"] ["row"] (defScope st_inverse) :=
  ⟨rfl, rfl, rfl, by decide +kernel, rfl, by decide +kernel, by decide +kernel⟩
abbrev st_beside : Stmt := topS 30
theorem sc_beside : FnScope ["one", "other", "first", "second", "rows", "place", "moves", "goal"] ["one", "other"] (defScope st_beside) :=
  ⟨rfl, rfl, rfl, by decide +kernel, rfl, by decide +kernel, by decide +kernel⟩
abbrev st_within : Stmt := topS 31
theorem sc_within : FnScope ["outer", "inner", "house", "houses", "moves"] ["outer", "inner"] (defScope st_within) :=
  ⟨rfl, rfl, rfl, by decide +kernel, rfl, by decide +kernel, by decide +kernel⟩
abbrev st_called : Stmt := topS 32
theorem sc_called : FnScope ["habit", "order", "back", "place", "stood"] ["habit", "order"] (defScope st_called) :=
  ⟨rfl, rfl, rfl, by decide +kernel, rfl, by decide +kernel, by decide +kernel⟩
abbrev st_backed : Stmt := topS 33
theorem sc_backed : FnScope ["habit", "moves"] ["habit"] (defScope st_backed) :=
  ⟨rfl, rfl, rfl, by decide +kernel, rfl, by decide +kernel, by decide +kernel⟩
abbrev st_doubled : Stmt := topS 34
theorem sc_doubled : FnScope ["habit", "moves", "goal"] ["habit"] (defScope st_doubled) :=
  ⟨rfl, rfl, rfl, by decide +kernel, rfl, by decide +kernel, by decide +kernel⟩
abbrev st_check_together : Stmt := topS 35
theorem sc_check_together : FnScope ["places"] ["places"] (defScope st_check_together) :=
  ⟨rfl, rfl, rfl, by decide +kernel, rfl, by decide +kernel, by decide +kernel⟩
abbrev st_house_moves : Stmt := topS 36
theorem sc_house_moves : FnScope ["houses", "house", "moves", "many", "rows", "at", "inside", "goal"] ["houses", "house", "moves"] (defScope st_house_moves) :=
  ⟨rfl, rfl, rfl, by decide +kernel, rfl, by decide +kernel, by decide +kernel⟩
abbrev st_after : Stmt := topS 38
theorem sc_after : FnScope ["habit", "layout", "word"] ["habit", "layout", "word"] (defScope st_after) :=
  ⟨rfl, rfl, rfl, by decide +kernel, rfl, by decide +kernel, by decide +kernel⟩
abbrev st_order : Stmt := topS 39
theorem sc_order : FnScope ["habit"] ["habit"] (defScope st_order) :=
  ⟨rfl, rfl, rfl, by decide +kernel, rfl, by decide +kernel, by decide +kernel⟩
abbrev st__law_taken : Stmt := topS 41
theorem sc__law_taken : FnScope ["row", "many", "found", "cell"] ["row", "many"] (defScope st__law_taken) :=
  ⟨rfl, rfl, rfl, by decide +kernel, rfl, by decide +kernel, by decide +kernel⟩
abbrev st__law_pick : Stmt := topS 42
theorem sc__law_pick : FnScope ["row", "things"] ["row", "things"] (defScope st__law_pick) :=
  ⟨rfl, rfl, rfl, by decide +kernel, rfl, by decide +kernel, by decide +kernel⟩
abbrev st__law_permutation : Stmt := topS 43
theorem sc__law_permutation : FnScope ["row", "many", "left", "found", "turn"] ["row", "many"] (defScope st__law_permutation) :=
  ⟨rfl, rfl, rfl, by decide +kernel, rfl, by decide +kernel, by decide +kernel⟩
abbrev st__law_habit : Stmt := topS 44
theorem sc__law_habit : FnScope ["row", "many", "found", "place", "way"] ["row", "many"] (defScope st__law_habit) :=
  ⟨rfl, rfl, rfl, by decide +kernel, rfl, by decide +kernel, by decide +kernel⟩
abbrev st__law_said : Stmt := topS 45
theorem sc__law_said : FnScope ["work", "e"] ["work"] (defScope st__law_said) :=
  ⟨rfl, rfl, rfl, by decide +kernel, rfl, by decide +kernel, by decide +kernel⟩
abbrev st_law : Stmt := topS 46
theorem sc_law : FnScope ["script", "row", "one", "other", "both", "many", "more", "left", "right", "whole", "word", "ends", "inner", "nest", "stands", "place", "spot", "due", "at", "house", "room", "names", "layout", "again", "moved", "back", "two", "great", "words", "turn"] ["script"] (defScope st_law) :=
  ⟨rfl, rfl, rfl, by decide +kernel, rfl, by decide +kernel, by decide +kernel⟩
/-! ### what the top has written -/
/-- the def x of the text stands in the module under its name -/
structure Df (K : PySem.W.Frag) (mg : Str → Option Value) (x : Str) (st : Stmt) (ps : List Str) : Prop where
  ex : ∃ (f : Addr) (fd : FuncData), Fun K x x st f fd ∧ mg x = some (.ref f) ∧ Binds K fd ps []
/-- names of the interpreter that the module leaves alone -/
structure Bu (mg : Str → Option Value) : Prop where
  isi : mg "isinstance" = none
  int : mg "int" = none
  bool : mg "bool" = none
  str : mg "str" = none
  tuple : mg "tuple" = none
  list : mg "list" = none
  len : mg "len" = none
  all : mg "all" = none
  zip : mg "zip" = none
  range : mg "range" = none
  sorted : mg "sorted" = none
  enumerate : mg "enumerate" = none
  max : mg "max" = none
section
variable {P : Program} {w : World} {K : PySem.W.Frag} {mg : Str → Option Value} {base : Heap}
/-- a def that may be called by its name -/
structure Cal (P : Program) (w : World) (K : PySem.W.Frag) (mg : Str → Option Value) (base : Heap) (k : Nat) (x : Str) (sp : Sp) : Prop where
  ex : ∃ (f : Addr) (fd : FuncData) (ps : List Str), FnOk P w K mg base CX0 k f fd ps sp ∧ mg x = some (.ref f) ∧ PySem.W.keepIn K (.ref f) = true ∧ Binds K fd ps []
theorem mkCal {x : Str} {st : Stmt} {N ps : List Str} {k : Nat} {sp : Sp} (F : Df K mg x st ps) (S : FnScope N ps (defScope st)) (len : ∀ vs H Q E, sp vs H Q E → vs.length = ps.length)
    (hbody : ∀ (f : Addr) (cdv : Value) (A : Around) (outer : List Env) (s : Shared) (H : Hp) (vs : List V) (Q : VK) (E : XK), Room k (A.deeper (envOfC x (defScope st) s.heap.objs.size f cdv)) → sp vs H Q E →
      ∃ t, PSs (cxOf CX0 P w K mg base N x (defScope st) f cdv A outer s H E).nox (defBody st) t ∧ t { nx := fun _ H' => Q .non H', rt := Q } (start N vs) H) : Cal P w K mg base (k + 1) x sp := by
  obtain ⟨f, fd, F, g, b⟩ := F.ex
  exact ⟨f, fd, ps, F.ok S len (hbody f), g, F.kp, b⟩
theorem Cal.imp {k : Nat} {x : Str} {sp sp' : Sp} (c : Cal P w K mg base k x sp) (h : ∀ vs H Q E, sp' vs H Q E → sp vs H Q E) : Cal P w K mg base k x sp' := by
  obtain ⟨f, fd, ps, F, g, kp, b⟩ := c.ex
  exact ⟨f, fd, ps, F.imp h, g, kp, b⟩
end
theorem pc {X : Cx} {k j : Nat} {x : Str} {sp : Sp} {p pos : Pos} {e : Expr} {es : List Expr} {t : TA} (c : Cal X.prog X.w X.K X.mg X.base k x sp) (hr : Room j X.A) (ha : PA X (e :: es) t) (hk : k ≤ j := by decide) (hg : Gl X x := by rfl)
    (hdb : (x == ("__debug__" : Str)) = false := by decide) (he : starEach (e :: es) X.env = (false, eval e X.env) :: starEach es X.env := by rfl) (hpl : (backTo pos (starEach es X.env)).any (·.1) = false := by rfl) :
    PE X (.Call (.Name x p) (e :: es) [] pos) (tCall sp [] E0 t) := by
  obtain ⟨f, fd, ps, F, hm, kp, b⟩ := c.ex
  exact pe_call F (hr.mono hk) hg hm kp b .nil pass0 ha hdb he hpl
/-! ### heaps, tuples of ints, and of such -/
theorem same_new {H : Hp} {p : Addr} {o : HO} (h : H p = none) : Same H (upd H p o) := fun b x e => by
  rw [upd_ne (ne_of_none e h)]
  exact e
theorem seqT {K : PySem.W.Frag} {H H' : Hp} {a : Addr} {xs : List V} (e : ∀ o, H a = some o → H' a = some o) (h : SqT K H a xs) : SqT K H' a xs := by
  rcases h with (h | ⟨o, h⟩) | h
  · exact .inl (.inl (e _ h))
  · exact .inl (.inr ⟨o, e _ h⟩)
  · exact .inr h
theorem onT {K : PySem.W.Frag} {H H' : Hp} {a : Addr} {xs : List V} (e : Same H H') (h : SqT K H a xs) : SqT K H' a xs := seqT (fun o => e a o) h
theorem tupAt {K : PySem.W.Frag} {H : Hp} {a : Addr} {xs : List V} (h : H a = some (.tup xs)) : SqT K H a xs := .inl (.inl h)
theorem lstAt {K : PySem.W.Frag} {H : Hp} {a : Addr} {xs : List V} (h : H a = some (.lst xs)) : SqL K H a xs := .inl (.inl h)
/-- a tuple's type -/
theorem ty_tup {K : PySem.W.Frag} {H : Hp} {a : Addr} {xs : List V} (h : SqT K H a xs) : TyX K H (.ref a) (.type "tuple") := by
  rcases h with (h | ⟨o, h⟩) | ⟨o, its, n, h, c, _⟩
  · exact .base (.tup h)
  · exact .fTuple h
  · exact .kTuple h c
/-- each by each -/
inductive Each {α : Type} (R : V → α → Prop) : List V → List α → Prop
  | nil : Each R [] []
  | cons {v : V} {d : α} {vs : List V} {ds : List α} : R v d → Each R vs ds → Each R (v :: vs) (d :: ds)
theorem Each.len {α : Type} {R : V → α → Prop} : ∀ {vs : List V} {ds : List α}, Each R vs ds → vs.length = ds.length
  | _, _, .nil => rfl
  | _, _, .cons _ t => congrArg (· + 1) t.len
theorem Each.imp {α : Type} {R R' : V → α → Prop} (f : ∀ v d, R v d → R' v d) : ∀ {vs : List V} {ds : List α}, Each R vs ds → Each R' vs ds
  | _, _, .nil => .nil
  | _, _, .cons h t => .cons (f _ _ h) (t.imp f)
theorem Each.at {α : Type} {R : V → α → Prop} : ∀ {vs : List V} {ds : List α} {i : Nat} {v : V}, Each R vs ds → vs[i]? = some v → ∃ d, ds[i]? = some d ∧ R v d
  | _, _, _, _, .nil, e => by simp at e
  | _, _, 0, _, .cons h _, e => by
    have e' := Option.some.inj e
    subst e'
    exact ⟨_, rfl, h⟩
  | _, _, i + 1, _, .cons _ t, e => t.at (i := i) e
theorem Each.of {α : Type} {R : V → α → Prop} : ∀ {vs : List V} {ds : List α} {i : Nat} {d : α}, Each R vs ds → ds[i]? = some d → ∃ v, vs[i]? = some v ∧ R v d
  | _, _, _, _, .nil, e => by simp at e
  | _, _, 0, _, .cons h _, e => by
    have e' := Option.some.inj e
    subst e'
    exact ⟨_, rfl, h⟩
  | _, _, i + 1, _, .cons _ t, e => t.of (i := i) e
theorem Each.snoc {α : Type} {R : V → α → Prop} {v : V} {d : α} (h : R v d) : ∀ {vs : List V} {ds : List α}, Each R vs ds → Each R (vs ++ [v]) (ds ++ [d])
  | _, _, .nil => .cons h .nil
  | _, _, .cons g t => .cons g (t.snoc h)
/-- a tuple of ints -/
def TI (K : PySem.W.Frag) (H : Hp) (v : V) (ns : List Int) : Prop := ∃ a, v = .ref a ∧ SqT K H a (ns.map V.int)
/-- a tuple of such -/
def TII (K : PySem.W.Frag) (H : Hp) (v : V) (nss : List (List Int)) : Prop := ∃ a vs, v = .ref a ∧ SqT K H a vs ∧ Each (TI K H) vs nss
def THs (K : PySem.W.Frag) (H : Hp) (v : V) (hs : List (List (List Int))) : Prop := ∃ a vs, v = .ref a ∧ SqT K H a vs ∧ Each (TII K H) vs hs
/-- all tuples stand -/
def Tups (K : PySem.W.Frag) (H H' : Hp) : Prop := ∀ a xs, SqT K H a xs → SqT K H' a xs
theorem Same.tups {K : PySem.W.Frag} {H H' : Hp} (e : Same H H') : Tups K H H' := fun _ _ h => onT e h
theorem TI.on {K : PySem.W.Frag} {H H' : Hp} {v : V} {ns : List Int} (e : Tups K H H') (h : TI K H v ns) : TI K H' v ns := let ⟨a, h1, h2⟩ := h; ⟨a, h1, e _ _ h2⟩
theorem TII.on {K : PySem.W.Frag} {H H' : Hp} {v : V} {nss : List (List Int)} (e : Tups K H H') (h : TII K H v nss) : TII K H' v nss := let ⟨a, vs, h1, h2, h3⟩ := h; ⟨a, vs, h1, e _ _ h2, h3.imp fun _ _ z => z.on e⟩
theorem THs.on {K : PySem.W.Frag} {H H' : Hp} {v : V} {hs : List (List (List Int))} (e : Tups K H H') (h : THs K H v hs) : THs K H' v hs := let ⟨a, vs, h1, h2, h3⟩ := h; ⟨a, vs, h1, e _ _ h2, h3.imp fun _ _ z => z.on e⟩
theorem map_at {ns : List Int} {i : Nat} {x : V} (h : (ns.map V.int)[i]? = some x) : ∃ n, ns[i]? = some n ∧ x = .int n := by
  rw [List.getElem?_map] at h
  cases e : ns[i]? with
  | none =>
    rw [e] at h
    cases h
  | some n =>
    rw [e] at h
    exact ⟨n, rfl, (Option.some.inj h).symm⟩
theorem at_map {ns : List Int} {i : Nat} {n : Int} (h : ns[i]? = some n) : (ns.map V.int)[i]? = some (.int n) := by
  rw [List.getElem?_map, h]
  rfl
theorem all_snoc {α : Type} (f : α → Bool) {l : List α} {i : Nat} {x : α} (h : l[i]? = some x) : (l.take (i + 1)).map f = (l.take i).map f ++ [f x] := by
  rw [List.take_add_one, h, List.map_append]
  rfl
/-! ### lists of ints, compared -/
theorem dpAll_ints {K : PySem.W.Frag} {H : Hp} : ∀ ns : List Int, DpAll K H (ns.map V.int) (ns.map PyData.int)
  | [] => .nil
  | n :: ns => .cons (.int n) (dpAll_ints ns)
theorem dp_lst {K : PySem.W.Frag} {H : Hp} {a : Addr} {ns : List Int} (h : SqL K H a (ns.map V.int)) : Dp K H (.ref a) (.list (ns.map PyData.int)) := .lst h (dpAll_ints ns)
theorem dp_tup {K : PySem.W.Frag} {H : Hp} {a : Addr} {ns : List Int} (h : SqT K H a (ns.map V.int)) : Dp K H (.ref a) (.tuple (ns.map PyData.int)) := .tup h (dpAll_ints ns)
theorem eqv_lst (ns ms : List Int) : PyData.eqv (.list (ns.map PyData.int)) (.list (ms.map PyData.int)) = decide (ns = ms) := by
  rw [PyData.eqv]
  exact PySem.W.ked_eqvAll ns ms
def rg (n : Nat) : List Int := (List.range n).map fun i : Nat => (i : Int)
theorem rgV_rg (n : Nat) : rgV 0 (n : Int) = (rg n).map V.int := by
  unfold rgV rg
  rw [List.map_map, Int.sub_zero, Int.toNat_natCast]
  refine List.map_congr_left fun i _ => ?_
  show V.int (0 + (i : Int)) = V.int (i : Int)
  rw [Int.zero_add]
theorem rg_len (n : Nat) : (rg n).length = n := by
  unfold rg
  rw [List.length_map, List.length_range]
theorem rg_mem {n : Nat} {x : Int} : x ∈ rg n ↔ 0 ≤ x ∧ x < n := by
  unfold rg
  rw [List.mem_map]
  constructor
  · rintro ⟨i, h, rfl⟩
    have := List.mem_range.mp h
    omega
  · rintro ⟨h1, h2⟩
    exact ⟨x.toNat, List.mem_range.mpr (by omega), by omega⟩
theorem rg_at {n i : Nat} (h : i < n) : (rg n)[i]? = some (i : Int) := by
  unfold rg
  rw [List.getElem?_map, List.getElem?_range h]
  rfl
/-! ### walks over enumerate and zip of tuples -/
section
variable {K : PySem.W.Frag} {a b : Addr} {xs ys : List V}
theorem for_enumT {g : TG} {tb : TS} {D : Ends} {σ : L2.St} {H : Hp} (Pv : Nat → L2.St → Hp → Prop) (h0 : Pv 0 σ H) (hl : ∀ i σ H, Pv i σ H → SqT K H a xs)
    (hs : ∀ i x T σ H, xs[i]? = some x → Pv i σ H → H T = none → g (.ref T) σ (upd H T (.tup [.int (i : Nat), x])) fun σ2 H2 => tb { D with nx := Pv (i + 1), ct := Pv (i + 1), bk := D.nx } σ2 H2) (hd : ∀ σ H, Pv xs.length σ H → D.nx σ H) :
    ∃ W : Nat → Nat → L2.St → Hp → Prop, (∃ m, W 0 m σ H) ∧ ∀ i m σ H, W i m σ H →
      ((IteT K a).stop i H ∧ D.nx σ H) ∨ ((IteT K a).go i H ∧ ∃ N : L2.St → Hp → Prop, (∀ σ' H', N σ' H' → ∃ m', m' < m ∧ W (i + 1) m' σ' H') ∧ ∀ x H', (IteT K a).yld i H x H' → g x σ H' fun σ2 H2 => tb { D with nx := N, ct := N, bk := D.nx } σ2 H2) := by
  refine ⟨fun i m σ H => m = xs.length - i ∧ i ≤ xs.length ∧ Pv i σ H, ⟨xs.length, rfl, Nat.zero_le _, h0⟩, ?_⟩
  rintro i m σ H ⟨rfl, hi, p⟩
  have q := hl i σ H p
  by_cases hlt : i < xs.length
  · have hx : xs[i]? = some xs[i] := List.getElem?_eq_getElem hlt
    refine .inr ⟨⟨xs, _, q, hx⟩, Pv (i + 1), fun σ' H' p' => ⟨xs.length - (i + 1), by omega, rfl, hlt, p'⟩, fun v H' y => ?_⟩
    obtain ⟨T, x', rfl, hT, rfl, f1⟩ := y
    exact hs i x' T σ H (f1 xs q) p hT
  · have e : i = xs.length := by omega
    subst e
    exact .inl ⟨⟨xs, q, Nat.le_refl _⟩, hd σ H p⟩
end
end RH
set_option Elab.async false
set_option linter.all false
set_option maxRecDepth 100000
set_option maxHeartbeats 2000000
set_option Elab.async false
set_option linter.all false
set_option maxRecDepth 100000
set_option maxHeartbeats 2000000
namespace RH
open PySem PySem.Spec PyProof.Rows L2
section
variable {P : Program} {w : World} {K : PySem.W.Frag} {mg : Str → Option Value} {base : Heap}
/-- all are places -/
def inP (p : Int) (ns : List Int) : Bool := ns.all fun i => decide (0 ≤ i) && decide (i ≤ p - 1)
end
end RH
set_option Elab.async false
set_option linter.all false
set_option maxRecDepth 100000
set_option maxHeartbeats 2000000
namespace RH
open PySem PySem.Spec PyProof.Rows L2
/-! ### slices and constants -/
/-- a number that the module keeps -/
theorem pk {X : Cx} {x : Str} {i : Int} {pos : Pos} (h : ∃ t, X.mg x = some (.int i t)) (hg : Gl X x := by rfl) (hn : x ≠ "__name__" := by decide) (hd : (x == ("__debug__" : Str)) = false := by decide) : PE X (.Name x pos) (tC (.int i)) := by
  obtain ⟨t, h⟩ := h
  exact pe_glob (v := .int i) hg h ⟨_, rfl⟩ hd
/-! ### rules within a comprehension: the written part is told -/
def rLenK (K : PySem.W.Frag) : List V → Hp → VK → Prop := fun xs H Q => ∃ p ys, xs = [.ref p] ∧ (SqL K H p ys ∨ SqT K H p ys) ∧ Q (.int ys.length) H
theorem cl_len {X : Cx} (K : PySem.W.Frag) (h : X.K = K := by rfl) : CallR X (.builtin "len") (rLenK K) := by
  subst h
  exact call_len_seq
theorem ixT {X : Cx} (K : PySem.W.Frag) (h : X.K = K := by rfl) : IxR X (rIxT K) := by
  subst h
  exact ix_tup
/-! ### rising, a layout, a habit -/
def isLay (p : Nat) (ns : List Int) : Bool := ns.isPerm (rg p)
def isHab (nss : List (List Int)) : Bool := decide (2 ≤ nss.length) && decide (nss.length ≤ 5) && nss.all (isLay nss.length)
theorem rg_le (p : Nat) : (rg p).Pairwise (· ≤ ·) := by
  unfold rg
  rw [List.pairwise_map]
  exact (List.pairwise_lt_range (n := p)).imp fun h => by omega
end RH
set_option Elab.async false
set_option linter.all false
set_option maxRecDepth 100000
set_option maxHeartbeats 2000000
namespace RH
open PySem PySem.Spec PyProof.Rows L2
/-! ### the mathematics of marks -/
theorem ifT {c : Bool} {A B : Prop} (hc : c = true) (h : A) : if c = true then A else B := by
  rw [if_pos hc]
  exact h
theorem ifF {c : Bool} {A B : Prop} (hc : c = false) (h : B) : if c = true then A else B := by
  rw [hc, if_neg Bool.false_ne_true]
  exact h
/-- a habit of n places -/
structure Hb (n : Nat) (h : List (List Int)) : Prop where
  len : h.length = n
  perm : ∀ ns ∈ h, ns.Perm (rg n)
  lo : 2 ≤ n
  hi : n ≤ 5
theorem Hb.is {n : Nat} {h : List (List Int)} (q : Hb n h) : isHab h = true := by
  unfold isHab
  simp only [Bool.and_eq_true, decide_eq_true_eq, List.all_eq_true]
  refine ⟨⟨by have := q.len; have := q.lo; omega, by have := q.len; have := q.hi; omega⟩, fun ns hm => ?_⟩
  unfold isLay
  rw [q.len, List.isPerm_iff]
  exact q.perm ns hm
theorem Hb.short {n : Nat} {h : List (List Int)} (q : Hb n h) {ns : List Int} (hm : ns ∈ h) : ns.length = n := by
  rw [(q.perm ns hm).length_eq, rg_len]
def mv (h : List (List Int)) (t s : Int) : Int := (h.getD t.toNat []).getD s.toNat 0
theorem Hb.at {n : Nat} {h : List (List Int)} (q : Hb n h) {t s : Int} (t0 : 0 ≤ t) (t1 : t < n) (s0 : 0 ≤ s) (s1 : s < n) :
    ∃ ns, h[t.toNat]? = some ns ∧ ns[s.toNat]? = some (mv h t s) ∧ 0 ≤ mv h t s ∧ mv h t s < n := by
  have h1 : t.toNat < h.length := by rw [q.len]; omega
  have e1 : h[t.toNat]? = some h[t.toNat] := List.getElem?_eq_getElem h1
  have hm : h[t.toNat] ∈ h := List.getElem_mem h1
  have h2 : s.toNat < h[t.toNat].length := by rw [q.short hm]; omega
  have e2 : h[t.toNat][s.toNat]? = some h[t.toNat][s.toNat] := List.getElem?_eq_getElem h2
  have e4 : h.getD t.toNat [] = h[t.toNat] := by
    rw [List.getD_eq_getElem?_getD, e1]
    rfl
  have e3 : mv h t s = h[t.toNat][s.toNat] := by
    unfold mv
    rw [e4, List.getD_eq_getElem?_getD, e2]
    rfl
  have h4 := rg_mem.mp ((q.perm _ hm).mem_iff.mp (List.getElem_mem h2))
  rw [← e3] at h4
  exact ⟨_, e1, by rw [e3]; exact e2, h4⟩
/-- where a mark stands behind its own touch and a word -/
def mark (h : List (List Int)) (pl : Int) (ws : List Int) : Int := ws.foldl (fun s t => mv h t s) (mv h pl pl)
def InR (n : Nat) (i : Int) : Prop := 0 ≤ i ∧ i < n
theorem Hb.mark {n : Nat} {h : List (List Int)} (q : Hb n h) {pl : Int} (hp : InR n pl) : ∀ ws : List Int, (∀ t ∈ ws, InR n t) → InR n (mark h pl ws) := by
  intro ws hw
  unfold RH.mark
  have h0 : InR n (mv h pl pl) := (q.at hp.1 hp.2 hp.1 hp.2).choose_spec.2.2
  generalize mv h pl pl = s at h0
  induction ws generalizing s with
  | nil => exact h0
  | cons t ws ih =>
    have ht := hw t (List.mem_cons_self ..)
    exact ih (fun u hu => hw u (List.mem_cons_of_mem _ hu)) _ (q.at ht.1 ht.2 h0.1 h0.2).choose_spec.2.2
theorem take_more {α : Type} {l : List α} {i : Nat} {x : α} (h : l[i]? = some x) : l.take (i + 1) = l.take i ++ [x] := by
  rw [List.take_add_one, h]
  rfl
/-- an item of an int's place -/
theorem at_int {α : Type} {xs : List α} {z : Int} {v : α} (h0 : 0 ≤ z) (h : xs[z.toNat]? = some v) : atI xs z = some v := by
  have e : z = ((z.toNat : Nat) : Int) := by omega
  rw [e]
  exact atI_nat h
end RH
set_option Elab.async false
set_option linter.all false
set_option maxRecDepth 100000
set_option maxHeartbeats 2000000
namespace RH
open PySem PySem.Spec PyProof.Rows L2
theorem ix2 {K : PySem.W.Frag} {H : Hp} {xs : List V} {h : List (List Int)} {n : Nat} (hE : Each (TI K H) xs h) (q : Hb n h) {t s : Int} (ht : InR n t) (hs : InR n s) :
    ∃ (a' : Addr) (ns : List Int), atI xs t = some (.ref a') ∧ SqT K H a' (ns.map V.int) ∧ atI (ns.map V.int) s = some (.int (mv h t s)) := by
  obtain ⟨ns, e1, e2, _⟩ := q.at ht.1 ht.2 hs.1 hs.2
  obtain ⟨v, e3, a', rfl, hS⟩ := hE.of e1
  exact ⟨a', ns, at_int ht.1 e3, hS, at_int hs.1 (at_map e2)⟩
end RH
set_option Elab.async false
set_option linter.all false
set_option maxRecDepth 100000
set_option maxHeartbeats 2000000
namespace RH
open PySem PySem.Spec PyProof.Rows L2
/-! ### the law's own row of draws -/
/-- all but what stands at p is as it was -/
def But (p : Addr) (H H' : Hp) : Prop := ∀ b o, H b = some o → b ≠ p → H' b = some o
theorem But.refl (p : Addr) (H : Hp) : But p H H := fun _ _ e _ => e
theorem But.trans {p : Addr} {H H1 H2 : Hp} (a : But p H H1) (b : But p H1 H2) : But p H H2 := fun c o e n => b c o (a c o e n) n
theorem But.same {p : Addr} {H H1 : Hp} (a : Same H H1) : But p H H1 := fun c o e _ => a c o e
theorem But.upd {p : Addr} {H H1 : Hp} {o : HO} (a : But p H H1) : But p H (upd H1 p o) := fun c u e n => by
  rw [upd_ne n]
  exact a c u e n
/-- all that is no list is as it was -/
def Fix (H H' : Hp) : Prop := ∀ b o, H b = some o → (∀ xs, o ≠ .lst xs) → H' b = some o
theorem Fix.refl (H : Hp) : Fix H H := fun _ _ e _ => e
theorem Fix.trans {H H1 H2 : Hp} (a : Fix H H1) (b : Fix H1 H2) : Fix H H2 := fun c o e n => b c o (a c o e n) n
theorem Fix.same {H H1 : Hp} (a : Same H H1) : Fix H H1 := fun c o e _ => a c o e
theorem Fix.lst {H : Hp} {p : Addr} {xs : List V} {o : HO} (h : H p = some (.lst xs)) : Fix H (L2.upd H p o) := fun b u e n => by
  by_cases z : b = p
  · subst z
    rw [h] at e
    cases e
    exact absurd rfl (n _)
  · rw [upd_ne z]
    exact e
theorem Fix.tups {K : PySem.W.Frag} {H H' : Hp} (b : Fix H H') : Tups K H H' := fun a xs hS => by
  rcases hS with (hS | ⟨u, hS⟩) | hS
  · exact .inl (.inl (b _ _ hS (fun _ z => nomatch z)))
  · exact .inl (.inr ⟨u, b _ _ hS (fun _ z => nomatch z)⟩)
  · exact .inr hS
theorem But.fix {H H' : Hp} {p : Addr} {xs : List V} (h : H p = some (.lst xs)) (b : But p H H') : Fix H H' := fun c o e n => b c o e fun z => by
  subst z
  rw [h] at e
  cases e
  exact n _ rfl
/-- a list that never changes -/
def Fz (K : PySem.W.Frag) (H : Hp) (a : Addr) (xs : List V) : Prop := (∃ o, H a = some (.frz o (.lst xs))) ∨ ∀ H', SqL K H' a xs
theorem Fz.seq {K : PySem.W.Frag} {H : Hp} {a : Addr} {xs : List V} (h : Fz K H a xs) : SqL K H a xs := by
  rcases h with ⟨o, h⟩ | h
  · exact .inl (.inr ⟨o, h⟩)
  · exact h H
theorem Fz.on {K : PySem.W.Frag} {H H' : Hp} {a : Addr} {xs : List V} (f : Fix H H') (h : Fz K H a xs) : Fz K H' a xs := by
  rcases h with ⟨o, h⟩ | h
  · exact .inl ⟨o, f _ _ h (fun _ z => nomatch z)⟩
  · exact .inr h
theorem Fz.of {K : PySem.W.Frag} {H : Hp} {a : Addr} {xs : List V} (o : Only H) (h : SqL K H a xs) : Fz K H a xs := by
  rcases h with (h | h) | h
  · rcases o a with e | ⟨u, ys, e⟩
    · rw [e] at h
      cases h
    · rw [e] at h
      cases h
  · exact .inl h
  · exact .inr fun H' => .inr h
/-- row: the script, how many of it are taken, the running number, what is left of a great one -/
structure RowA (K : PySem.W.Frag) (H : Hp) (p a : Addr) (ns : List Int) (i r c : Int) : Prop where
  at_ : H p = some (.lst [.ref a, .int i, .int r, .int c])
  fz : Fz K H a (ns.map V.int)
  pos : 0 ≤ i
theorem RowA.scr {K : PySem.W.Frag} {H : Hp} {p a : Addr} {ns : List Int} {i r c : Int} (h : RowA K H p a ns i r c) : SqL K H a (ns.map V.int) := h.fz.seq
def Row (K : PySem.W.Frag) (H : Hp) (p : Addr) : Prop := ∃ a ns i r c, RowA K H p a ns i r c
theorem RowA.put {K : PySem.W.Frag} {H : Hp} {p a : Addr} {ns : List Int} {i r c i' r' c' : Int} (h : RowA K H p a ns i r c) (hi : 0 ≤ i') :
    RowA K (upd H p (.lst [.ref a, .int i', .int r', .int c'])) p a ns i' r' c' :=
  ⟨upd_same, h.fz.on (Fix.lst h.at_), hi⟩
theorem RowA.row {K : PySem.W.Frag} {H : Hp} {p a : Addr} {ns : List Int} {i r c : Int} (h : RowA K H p a ns i r c) : Row K H p := ⟨_, _, _, _, _, h⟩
theorem Row.lst {K : PySem.W.Frag} {H : Hp} {p : Addr} (h : Row K H p) : ∃ xs, H p = some (.lst xs) := by
  obtain ⟨a, ns, i, r, c, h⟩ := h
  exact ⟨_, h.at_⟩
theorem Row.fix {K : PySem.W.Frag} {H H' : Hp} {p : Addr} (h : Row K H p) (b : But p H H') : Fix H H' := by
  obtain ⟨xs, e⟩ := h.lst
  exact But.fix e b
theorem Row.on {K : PySem.W.Frag} {H H' : Hp} {p : Addr} (h : Row K H p) (f : Fix H H') (e : H' p = H p) : Row K H' p := by
  obtain ⟨a, ns, i, r, c, h⟩ := h
  exact ⟨a, ns, i, r, c, e.trans h.at_, h.fz.on f, h.pos⟩
theorem Row.same {K : PySem.W.Frag} {H H' : Hp} {p : Addr} (h : Row K H p) (s : Same H H') : Row K H' p := by
  obtain ⟨xs, e⟩ := h.lst
  exact h.on (Fix.same s) ((s _ _ e).trans e.symm)
/-- another list is written -/
theorem Row.lst_upd {K : PySem.W.Frag} {H : Hp} {p q : Addr} {xs : List V} {o : HO} (h : Row K H p) (e : H q = some (.lst xs)) (n : p ≠ q) : Row K (upd H q o) p := h.on (Fix.lst e) (upd_ne n)
/-- a new object -/
theorem Row.new {K : PySem.W.Frag} {H : Hp} {p q : Addr} {o : HO} (h : Row K H p) (e : H q = none) : Row K (upd H q o) p := h.same (same_new e)
theorem Row.ne {K : PySem.W.Frag} {H : Hp} {p q : Addr} (h : Row K H p) (e : H q = none) : p ≠ q := by
  obtain ⟨xs, e'⟩ := h.lst
  exact ne_of_none e' e
section
variable {P : Program} {w : World} {K : PySem.W.Frag} {mg : Str → Option Value} {base : Heap}
def spTaken (K : PySem.W.Frag) : Sp := fun vs H Q _ => ∃ (p : Addr) (m : Int), vs = [.ref p, .int m] ∧ Row K H p ∧ 0 < m ∧ m < 1048576 ∧ ∀ k H', 0 ≤ k → k < m → But p H H' → Row K H' p → Q (.int k) H'
theorem ok_taken (F : Df K mg "_law_taken" st__law_taken ["row", "many"]) (B : Bu mg) : Cal P w K mg base 1 "_law_taken" (spTaken K) := by
  refine mkCal F sc__law_taken (fun vs H Q E h => ?_) (fun f cdv A outer s H vs Q E hr h => ?_)
  · obtain ⟨p, m, rfl, _⟩ := h
    rfl
  · obtain ⟨p, m, rfl, ⟨a, ns, i, r, c, hR⟩, m0, m1, q⟩ := h
    refine ⟨_, pss_cons (ps_if (pt_cmpR op_gt (pe_ix ix_list (pv 0) pe_int (fun _ _ => rfl)) pe_int (nomark _))
        (pss_cons (ps_set (i := 2) sc__law_taken.nd rfl (.inl rfl) (pe_op op_mod (pe_callTy call_int1 (by rfl) B.int (by decide +kernel) (pa_cons (pe_ix ix_list (pv 0) pe_int (fun _ _ => rfl)) pa_nil)) (pv 1)))
        (pss_cons (ps_asg (pe_op op_fdiv (pe_ix ix_list (pv 0) pe_int (fun _ _ => rfl)) (pv 1)) (pg_sub (pv 0) pe_int set_list))
        (pss_one (ps_ret (pv 2))))) pss_nil)
      (pss_cons (ps_asg (pe_op op_add (pe_ix ix_list (pv 0) pe_int (fun _ _ => rfl)) pe_int) (pg_sub (pv 0) pe_int set_list))
      (pss_cons (ps_if (pt_cmpR op_gt (pe_ix ix_list (pv 0) pe_int (fun _ _ => rfl)) (pe_callB (cl_len K) (by rfl) B.len PySem.boot_len (pa_cons (pe_ix ix_list (pv 0) pe_int (fun _ _ => rfl)) pa_nil)) (nomark _))
        (pss_cons (ps_asg (pe_op op_mod (pe_callTy call_int1 (by rfl) B.int (by decide +kernel) (pa_cons (pe_op op_add (pe_op op_mul (pe_ix ix_list (pv 0) pe_int (fun _ _ => rfl)) pe_int) pe_int) pa_nil)) pe_int) (pg_sub (pv 0) pe_int set_list))
        (pss_one (ps_ret (pe_op op_mod (pe_callTy call_int1 (by rfl) B.int (by decide +kernel) (pa_cons (pe_op op_fdiv (pe_ix ix_list (pv 0) pe_int (fun _ _ => rfl)) pe_int) pa_nil)) (pv 1))))) pss_nil)
      (pss_cons (ps_set (i := 3) sc__law_taken.nd rfl (.inl rfl) (pe_ix ix_list (pe_ix ix_list (pv 0) pe_int (fun _ _ => rfl)) (pe_op op_sub (pe_ix ix_list (pv 0) pe_int (fun _ _ => rfl)) pe_int) (fun _ _ => rfl)))
      (pss_cons (ps_asg (pe_op op_mod (pe_callTy call_int1 (by rfl) B.int (by decide +kernel) (pa_cons (pe_op op_add (pe_op op_add (pe_op op_mul (pe_ix ix_list (pv 0) pe_int (fun _ _ => rfl)) pe_int) (pv 3)) pe_int) pa_nil)) pe_int) (pg_sub (pv 0) pe_int set_list))
      (pss_cons (ps_if (pt_cmpR op_ge (pv 3) (pe_op op_pow pe_int pe_int) (nomark _))
        (pss_one (ps_asg (pe_op op_fdiv (pv 3) (pv 1)) (pg_sub (pv 0) pe_int set_list))) pss_nil)
      (pss_one (ps_ret (pe_op op_mod (pe_callTy call_int1 (by rfl) B.int (by decide +kernel) (pa_cons (pv 3) pa_nil)) (pv 1))))))))), ?_⟩
    have L := hR.at_
    refine ⟨_, rfl, p, _, 3, .int c, rfl, rfl, lstAt L, rfl, c, 0, rfl, rfl, _, rfl, ite2 (fun e => ?_) (fun e => ?_)⟩
    · refine ⟨_, rfl, p, _, 3, .int c, rfl, rfl, lstAt L, rfl, .inl ⟨c, rfl, _, rfl, c, m, rfl, rfl, m0, ?_⟩⟩
      refine ⟨_, rfl, p, _, 3, .int c, rfl, rfl, lstAt L, rfl, _, rfl, c, m, rfl, rfl, ⟨m0, by omega⟩, _, rfl, p, _, 3, 3, rfl, rfl, L, rfl, ?_⟩
      exact ⟨_, rfl, q (c % m) _ (Int.emod_nonneg _ (by omega)) (Int.emod_lt_of_pos _ m0) (But.upd (But.refl p H)) (hR.put hR.pos).row⟩
    · refine ⟨_, rfl, p, _, 1, .int i, rfl, rfl, lstAt L, rfl, i, 1, rfl, rfl, _, rfl, p, _, 1, 1, rfl, rfl, L, rfl, ?_⟩
      have R1 : RowA K (upd H p (.lst [.ref a, .int (i + 1), .int r, .int c])) p a ns (i + 1) r c := hR.put (by have := hR.pos; omega)
      have L1 := R1.at_
      refine ⟨_, rfl, p, _, 1, .int (i + 1), rfl, rfl, lstAt L1, rfl, _, rfl, p, _, 0, .ref a, rfl, rfl, lstAt L1, rfl, a, _, rfl, .inl R1.scr, _, _, rfl, rfl, _, rfl, ite2 (fun e1 => ?_) (fun e1 => ?_)⟩
      · refine ⟨_, rfl, p, _, 2, .int r, rfl, rfl, lstAt L1, rfl, r, 48271, rfl, rfl, .inr ⟨by decide, by decide⟩, _, 11, rfl, rfl, .inl ⟨_, rfl, _, _, rfl, rfl, (by show (0 : Int) < 2147483647; decide), _, rfl, p, _, 2, 2, rfl, rfl, L1, rfl, ?_⟩⟩
        have R2 : RowA K (upd (upd H p (.lst [.ref a, .int (i + 1), .int r, .int c])) p (.lst [.ref a, .int (i + 1), .int ((r * 48271 + 11) % 2147483647), .int c])) p a ns (i + 1) ((r * 48271 + 11) % 2147483647) c := R1.put R1.pos
        refine ⟨_, rfl, p, _, 2, _, rfl, rfl, lstAt R2.at_, rfl, _, 7, rfl, rfl, ⟨by decide, by decide⟩, .inl ⟨_, rfl, _, rfl, _, m, rfl, rfl, m0, ?_⟩⟩
        exact q _ _ (Int.emod_nonneg _ (by omega)) (Int.emod_lt_of_pos _ m0) (But.upd (But.upd (But.refl p H))) R2.row
      · have hi : i < (ns.length : Int) := by
          rw [List.length_map] at e1
          have e9 : i + 1 ≤ (ns.length : Int) := by simpa using e1
          omega
        have hi0 := hR.pos
        obtain ⟨z, hz⟩ : ∃ z, ns[i.toNat]? = some z := ⟨ns[i.toNat]'(by omega), List.getElem?_eq_getElem (by omega)⟩
        refine ⟨_, rfl, p, _, 0, .ref a, rfl, rfl, lstAt L1, rfl, _, rfl, p, _, 1, .int (i + 1), rfl, rfl, lstAt L1, rfl, _, 1, rfl, rfl, a, _, i + 1 - 1, .int z, rfl, rfl, R1.scr, at_int (by omega) (at_map (by rw [show (i + 1 - 1).toNat = i.toNat by omega]; exact hz)), ?_⟩
        refine ⟨_, rfl, p, _, 2, .int r, rfl, rfl, lstAt L1, rfl, r, 48271, rfl, rfl, .inr ⟨by decide, by decide⟩, _, rfl, _, z, rfl, rfl, _, 11, rfl, rfl, .inl ⟨_, rfl, _, _, rfl, rfl, (by show (0 : Int) < 2147483647; decide), _, rfl, p, _, 2, 2, rfl, rfl, L1, rfl, ?_⟩⟩
        have R2 : RowA K (upd (upd H p (.lst [.ref a, .int (i + 1), .int r, .int c])) p (.lst [.ref a, .int (i + 1), .int ((r * 48271 + z + 11) % 2147483647), .int c])) p a ns (i + 1) ((r * 48271 + z + 11) % 2147483647) c := R1.put R1.pos
        refine ⟨_, rfl, 10, 18, rfl, rfl, ⟨by decide, by decide, by decide⟩, z, _, rfl, rfl, _, rfl, ite2 (fun e2 => ?_) (fun e2 => ?_)⟩
        · refine ⟨_, rfl, _, rfl, z, m, rfl, rfl, ⟨m0, by omega⟩, _, rfl, p, _, 3, 3, rfl, rfl, R2.at_, rfl, ?_⟩
          refine ⟨_, rfl, .inl ⟨z, rfl, _, rfl, z, m, rfl, rfl, m0, ?_⟩⟩
          exact q _ _ (Int.emod_nonneg _ (by omega)) (Int.emod_lt_of_pos _ m0) (But.upd (But.upd (But.upd (But.refl p H)))) (R2.put R2.pos).row
        · refine ⟨_, rfl, .inl ⟨z, rfl, _, rfl, z, m, rfl, rfl, m0, ?_⟩⟩
          exact q _ _ (Int.emod_nonneg _ (by omega)) (Int.emod_lt_of_pos _ m0) (But.upd (But.upd (But.refl p H))) R2.row
end
end RH
set_option Elab.async false
set_option linter.all false
set_option maxRecDepth 100000
set_option maxHeartbeats 2000000
namespace RH
open PySem PySem.Spec PyProof.Rows L2
theorem ix_nat {n : Nat} {k : Int} (h0 : 0 ≤ k) (h1 : k < n) : seqIndex? k n = some k.toNat := by
  unfold seqIndex?
  have e : (if k < 0 then k + (n : Int) else k) = k := if_neg (by omega)
  simp only [e]
  rw [if_pos]
  simp [h0, h1]
theorem But.fresh {p l : Addr} {H H1 : Hp} {o : HO} (a : But p H H1) (e : H l = none) : But p H (L2.upd H1 l o) := fun c u h n => by
  rw [upd_ne (ne_of_none h e)]
  exact a c u h n
theorem map_erase (ns : List Int) (k : Nat) : (ns.map V.int).eraseIdx k = (ns.eraseIdx k).map V.int := by
  induction ns generalizing k with
  | nil => rfl
  | cons n ns ih =>
    cases k with
    | zero => rfl
    | succ k =>
      show V.int n :: (ns.map V.int).eraseIdx k = V.int n :: (ns.eraseIdx k).map V.int
      rw [ih]
theorem perm_erase : ∀ {ls : List Int} {k : Nat} {y : Int}, ls[k]? = some y → ls.Perm (y :: ls.eraseIdx k)
  | [], k, y, h => by simp at h
  | a :: ls, 0, y, h => by
    have e : a = y := Option.some.inj h
    subst e
    exact List.Perm.refl _
  | a :: ls, k + 1, y, h => by
    have ih := perm_erase (ls := ls) (k := k) (y := y) h
    exact (ih.cons a).trans (List.Perm.swap ..)
section
variable {P : Program} {w : World} {K : PySem.W.Frag} {mg : Str → Option Value} {base : Heap}
def spPick (K : PySem.W.Frag) : Sp := fun vs H Q _ => ∃ (p l : Addr) (xs : List V), vs = [.ref p, .ref l] ∧ Row K H p ∧ H l = some (.lst xs) ∧ l ≠ p ∧ 0 < xs.length ∧ xs.length ≤ 1000 ∧
  ∀ (i : Nat) x H', xs[i]? = some x → But p H H' → Row K H' p → Q x H'
theorem ok_pick (F : Df K mg "_law_pick" st__law_pick ["row", "things"]) (B : Bu mg) (CT : Cal P w K mg base 1 "_law_taken" (spTaken K)) : Cal P w K mg base 2 "_law_pick" (spPick K) := by
  refine mkCal F sc__law_pick (fun vs H Q E h => ?_) (fun f cdv A outer s H vs Q E hr h => ?_)
  · obtain ⟨p, l, xs, rfl, _⟩ := h
    rfl
  · obtain ⟨p, l, xs, rfl, hR, hl, hlp, l0, l1, q⟩ := h
    refine ⟨_, pss_one (ps_ret (pe_ix ix_list (pv 1) (pc CT hr (pa_cons (pv 0) (pa_cons (pe_callB (cl_len K) (by rfl) B.len PySem.boot_len (pa_cons (pv 1) pa_nil)) pa_nil))) (fun _ _ => rfl))), ?_⟩
    refine ⟨_, rfl, _, rfl, _, rfl, l, xs, rfl, .inl (lstAt hl), p, xs.length, rfl, hR, by omega, by omega, fun k H' k0 k1 hB hR' => ?_⟩
    have hk : k.toNat < xs.length := by omega
    exact ⟨l, xs, k, _, rfl, rfl, lstAt (hB _ _ hl hlp), at_int k0 (List.getElem?_eq_getElem hk), q _ _ H' (List.getElem?_eq_getElem hk) hB hR'⟩
end
end RH
set_option Elab.async false
set_option linter.all false
set_option maxRecDepth 100000
set_option maxHeartbeats 2000000
namespace RH
open PySem PySem.Spec PyProof.Rows L2
/-! ### _law_alike of equal data -/
theorem Dp.on {K : PySem.W.Frag} {H H' : Hp} (s : Same H H') : ∀ (d : PyData) (v : V), Dp K H v d → Dp K H' v d
  | d, v, h => by
    refine Dp.rec (motive_1 := fun v d _ => Dp K H' v d) (motive_2 := fun vs ds _ => DpAll K H' vs ds) .non .bl .int .str ?_ ?_ .nil ?_ h
    · intro a xs ds h1 _ h2
      exact .lst (s.seq h1) h2
    · intro a xs ds h1 _ h2
      exact .tup (onT s h1) h2
    · intro v vs d ds _ _ h1 h2
      exact .cons h1 h2
theorem DpAll.len {K : PySem.W.Frag} {H : Hp} : ∀ {vs : List V} {ds : List PyData}, DpAll K H vs ds → vs.length = ds.length
  | _, _, .nil => rfl
  | _, _, .cons _ t => congrArg (· + 1) (DpAll.len t)
theorem DpAll.of {K : PySem.W.Frag} {H : Hp} : ∀ {vs : List V} {ds : List PyData} {i : Nat} {d : PyData}, DpAll K H vs ds → ds[i]? = some d → ∃ v, vs[i]? = some v ∧ Dp K H v d
  | _, _, _, _, .nil, e => by simp at e
  | _, _, 0, _, .cons h _, e => by
    have e' := Option.some.inj e
    subst e'
    exact ⟨_, rfl, h⟩
  | _, _, i + 1, _, .cons _ t, e => DpAll.of (i := i) t e
theorem ty_lst {K : PySem.W.Frag} {H : Hp} {a : Addr} {xs : List V} (h : SqL K H a xs) : TyX K H (.ref a) (.type "list") := by
  rcases h with (h | ⟨o, h⟩) | ⟨o, vz, n, h, c, _⟩
  · exact .base (.lst h)
  · exact .base (.frz h)
  · exact .kList h c
end RH
set_option Elab.async false
set_option linter.all false
set_option maxRecDepth 100000
set_option maxHeartbeats 2000000
set_option Elab.async false
set_option linter.all false
set_option maxRecDepth 100000
set_option maxHeartbeats 2000000
namespace RH
open PySem PySem.Spec PyProof.Rows L2
/-! ### words, what they touch, and what a loss does -/
theorem rg_nd (n : Nat) : (rg n).Nodup := by
  unfold rg
  exact List.Pairwise.map _ (fun a b (e : a ≠ b) => fun z => e (by omega)) List.nodup_range
theorem perm_nd {n : Nat} {l : List Int} (h : l.Perm (rg n)) : l.Nodup := h.nodup_iff.mpr (rg_nd n)
theorem perm_len {n : Nat} {l : List Int} (h : l.Perm (rg n)) : l.length = n := by rw [h.length_eq, rg_len]
theorem perm_in {n : Nat} {l : List Int} (h : l.Perm (rg n)) {x : Int} (hx : x ∈ l) : InR n x := rg_mem.mp (h.mem_iff.mp hx)
def stp (h : List (List Int)) (p : Int) (L : List Int) : List Int := L.map (mv h p)
def mvs (h : List (List Int)) (L ws : List Int) : List Int := ws.foldl (fun L p => stp h p L) L
theorem mvs_app (h : List (List Int)) (L ws us : List Int) : mvs h L (ws ++ us) = mvs h (mvs h L ws) us := List.foldl_append ..
theorem mvs_snoc (h : List (List Int)) (L ws : List Int) (p : Int) : mvs h L (ws ++ [p]) = stp h p (mvs h L ws) := mvs_app h L ws [p]
theorem mvs_more {h : List (List Int)} {L ws : List Int} {i : Nat} {p : Int} (e : ws[i]? = some p) : mvs h L (ws.take (i + 1)) = stp h p (mvs h L (ws.take i)) := by
  rw [take_more e, mvs_snoc]
/-- the row of a place -/
theorem Hb.row {n : Nat} {h : List (List Int)} (q : Hb n h) {p : Int} (hp : InR n p) : h.getD p.toNat [] ∈ h := by
  have h1 : p.toNat < h.length := by rw [q.len]; have := hp.1; have := hp.2; omega
  rw [List.getD_eq_getElem?_getD, List.getElem?_eq_getElem h1]
  exact List.getElem_mem h1
theorem Hb.row_eq {n : Nat} {h : List (List Int)} (q : Hb n h) {p : Int} (hp : InR n p) : (rg n).map (mv h p) = h.getD p.toNat [] := by
  have hl := q.short (q.row hp)
  refine List.ext_getElem? fun i => ?_
  rw [List.getElem?_map]
  by_cases hi : i < n
  · rw [rg_at hi]
    show some (mv h p (i : Int)) = _
    unfold mv
    rw [Int.toNat_natCast, List.getD_eq_getElem?_getD (l := h.getD p.toNat []), List.getElem?_eq_getElem (by omega : i < (h.getD p.toNat []).length)]
    rfl
  · rw [List.getElem?_eq_none (by rw [rg_len]; omega), List.getElem?_eq_none (by omega)]
    rfl
theorem Hb.stp_perm {n : Nat} {h : List (List Int)} (q : Hb n h) {p : Int} (hp : InR n p) {L : List Int} (hL : L.Perm (rg n)) : (stp h p L).Perm (rg n) := by
  have h1 : (stp h p L).Perm ((rg n).map (mv h p)) := hL.map _
  rw [q.row_eq hp] at h1
  exact h1.trans (q.perm _ (q.row hp))
theorem Hb.mvs_perm {n : Nat} {h : List (List Int)} (q : Hb n h) : ∀ {ws L : List Int}, (∀ t ∈ ws, InR n t) → L.Perm (rg n) → (mvs h L ws).Perm (rg n)
  | [], _, _, hL => hL
  | p :: ws, L, hw, hL => q.mvs_perm (ws := ws) (L := stp h p L) (fun t ht => hw t (List.mem_cons_of_mem _ ht)) (q.stp_perm (hw p (List.mem_cons_self ..)) hL)
end RH
set_option Elab.async false
set_option linter.all false
set_option maxRecDepth 100000
set_option maxHeartbeats 2000000
namespace RH
open PySem PySem.Spec PyProof.Rows L2
/-- the permutations found so far -/
def HI (K : PySem.W.Frag) (p g : Addr) (H : Hp) (n i : Nat) (H' : Hp) : Prop := ∃ (xs : List V) (hs : List (List Int)), But p H H' ∧ Row K H' p ∧ H' g = some (.lst xs) ∧ Each (TI K H') xs hs ∧ hs.length = i ∧ ∀ ns ∈ hs, ns.Perm (rg n)
theorem HI.step {K : PySem.W.Frag} {p g : Addr} {H H1 H5 : Hp} {n i : Nat} (h : HI K p g H n i H1) (hg : H g = none) (hpg : p ≠ g) (b : But p H1 H5) (r : Row K H5 p) :
    ∃ xs, H5 g = some (.lst xs) ∧ xs.length = i ∧ ∀ (q : Addr) (ns : List Int) (H6 : Hp), Same H5 H6 → SqT K H6 q (ns.map V.int) → ns.Perm (rg n) → HI K p g H n (i + 1) (upd H6 g (.lst (xs ++ [.ref q]))) := by
  obtain ⟨xs, hs, hB, hR, e, hE, hl, hp⟩ := h
  have e5 := b _ _ e (Ne.symm hpg)
  refine ⟨xs, e5, hE.len.trans hl, fun q ns H6 s6 hq hpm => ⟨xs ++ [.ref q], hs ++ [ns], ?_, ?_, upd_same, ?_, ?_, ?_⟩⟩
  · exact ((hB.trans b).trans (But.same s6)).fresh hg
  · exact (r.same s6).lst_upd (s6 _ _ e5) hpg
  · have f1 : Fix H1 (upd H6 g (.lst (xs ++ [.ref q]))) := (hR.fix b).trans ((Fix.same s6).trans (Fix.lst (s6 _ _ e5)))
    exact Each.snoc ⟨q, rfl, Fix.tups (Fix.lst (s6 _ _ e5)) _ _ hq⟩ (hE.imp fun _ _ z => z.on f1.tups)
  · rw [List.length_append, hl]
    rfl
  · intro ns' hm
    rcases List.mem_append.mp hm with h1 | h1
    · exact hp _ h1
    · rw [List.mem_singleton.mp h1]
      exact hpm
end RH
set_option Elab.async false
set_option linter.all false
set_option maxRecDepth 100000
set_option maxHeartbeats 2000000
namespace RH
open PySem PySem.Spec PyProof.Rows L2
/-! ### the checks of one shelf, a touch -/
section
variable {P : Program} {w : World} {K : PySem.W.Frag} {mg : Str → Option Value} {base : Heap}
theorem lay_yes {n : Nat} {L : List Int} (h : L.Perm (rg n)) : isLay n L = true := by
  unfold isLay
  exact List.isPerm_iff.mpr h
def spPlacesOf (K : PySem.W.Frag) : Sp := fun vs H Q _ => ∃ (v : V) (h : List (List Int)) (n : Nat), vs = [v] ∧ TII K H v h ∧ Hb n h ∧ ∀ q, H q = none → Q (.ref q) (upd H q (.tup ((rg n).map V.int)))
theorem ok_places_of (F : Df K mg "places_of_habit" st_places_of_habit ["habit"]) (B : Bu mg) : Cal P w K mg base 1 "places_of_habit" (spPlacesOf K) := by
  refine mkCal F sc_places_of_habit (fun vs H Q E h => ?_) (fun f cdv A outer s H vs Q E hr h => ?_)
  · obtain ⟨v, h, n, rfl, _⟩ := h
    rfl
  · obtain ⟨v, h, n, rfl, ⟨a, xs, rfl, hS, hE⟩, hb, q⟩ := h
    have hxl : xs.length = n := hE.len.trans hb.len
    have n5 := hb.hi
    refine ⟨_, pss_one (ps_ret (pe_tupRg rfl (by rfl) B.tuple (prg_1 (by rfl) B.range (pe_callB (cl_len K) (by rfl) B.len PySem.boot_len (pa_cons (pv 0) pa_nil))))), ?_⟩
    refine ⟨_, rfl, a, xs, rfl, .inr hS, (xs.length : Int), rfl, ?_⟩
    rw [hxl]
    refine ⟨⟨by omega, by omega, by omega, by omega, by omega⟩, fun t ht => ?_⟩
    rw [rgV_rg]
    exact q t ht
def spMove (K : PySem.W.Frag) : Sp := fun vs H Q _ => ∃ (v : V) (h : List (List Int)) (n : Nat) (a : Addr) (L : List Int) (p : Int), vs = [v, .ref a, .int p] ∧ TII K H v h ∧ Hb n h ∧ SqT K H a (L.map V.int) ∧ (∀ i ∈ L, InR n i) ∧ L.length ≤ 1000 ∧ InR n p ∧
  ∀ H' q, Same H H' → H q = none → FT H' q (stp h p L) → Q (.ref q) H'
theorem ok_move (F : Df K mg "move" st_move ["habit", "layout", "place"]) (B : Bu mg) : Cal P w K mg base 1 "move" (spMove K) := by
  refine mkCal F sc_move (fun vs H Q E h => ?_) (fun f cdv A outer s H vs Q E hr h => ?_)
  · obtain ⟨v, h, n, a, L, p, rfl, _⟩ := h
    rfl
  · obtain ⟨v, h, n, a, L, p, rfl, ⟨ah, xs, rfl, hS, hE⟩, hb, hL, hin, hlen, hp, q⟩ := h
    refine ⟨_, pss_cons (ps_set (i := 3) sc_move.nd rfl (.inr rfl) (pe_ix ix_tup (pv 0) (pv 2) (fun _ _ => rfl)))
      (pss_one (ps_ret (pe_tupleF (by rfl) B.tuple (pe_lc (own := [("stood", 4)]) (g := gName 4) (tt := tYes) rfl sc_move.nd (pi_tup (pv 1)) (blkOk_by (N := ["habit", "layout", "place", "moves", "stood"]) (sc := defScope st_move) (by decide +kernel))
        (fun _ _ _ _ _ => pg_name (i := 4) sc_move.nd rfl (Or.inl rfl)) (fun _ _ _ _ _ => pts_nil) (fun _ _ _ _ _ => pe_ix (ixT K) (pv 3) (pv 4) (fun _ _ => rfl)))))), ?_⟩
    obtain ⟨a1, ns1, e1, s1, _⟩ := ix2 hE hb hp hp
    refine ⟨_, rfl, _, rfl, ah, xs, p, _, rfl, rfl, hS, e1, ?_⟩
    refine ⟨_, rfl, a, rfl, ⟨_, hL⟩, fun D hD => ?_⟩
    refine lc_tup (xs := L.map V.int) (fun i H' => Same H H' ∧ H' D = some (.lst (((L.take i).map (mv h p)).map V.int))) ⟨same_new hD, upd_same⟩ (fun i H' _ h' => onT h'.1 hL) (fun i x H' hx h' => ?_) (fun H' h' => ?_)
    · obtain ⟨st, hst, rfl⟩ := map_at hx
      obtain ⟨sm, eD⟩ := h'
      obtain ⟨a2, ns2, e2, s2, e3⟩ := ix2 hE hb hp (hin st (List.mem_of_getElem? hst))
      rw [e1] at e2
      cases e2
      refine ⟨rfl, _, rfl, _, rfl, a1, _, st, _, rfl, rfl, onT sm s2, e3, _, eD, ?_, ?_, ?_⟩
      · rw [List.length_map, List.length_map, List.length_take]
        exact small1000 (by omega)
      · intro b o e
        rw [upd_ne (ne_of_none e hD)]
        exact sm b o e
      · rw [upd_same, take_more hst, List.map_append, List.map_append]
        rfl
    · obtain ⟨sm, eD⟩ := h'
      rw [List.length_map, List.take_length] at eD
      refine ⟨D, _, rfl, lstAt eD, fun t ob ht hob => q _ t (sm.trans (same_new ht)) ?_ ⟨ob, upd_same, hob⟩⟩
      cases e : H t with
      | none => rfl
      | some o =>
        rw [sm _ _ e] at ht
        cases ht
end
end RH
set_option Elab.async false
set_option linter.all false
set_option maxRecDepth 100000
set_option maxHeartbeats 2000000
namespace RH
open PySem PySem.Spec PyProof.Rows L2
/-! ### what the program tells of words -/
theorem none_of {H H' : Hp} {p : Addr} (a : Same H H') (h : H' p = none) : H p = none := by
  cases e : H p with
  | none => rfl
  | some o =>
    rw [a _ _ e] at h
    cases h
theorem FT.same {H H' : Hp} {b : Addr} {s : List Int} (e : Same H H') (h : FT H b s) : FT H' b s := let ⟨ob, h1, h2⟩ := h; ⟨ob, e _ _ h1, h2⟩
theorem FT.fix {H H' : Hp} {b : Addr} {s : List Int} (f : Fix H H') (h : FT H b s) : FT H' b s := let ⟨ob, h1, h2⟩ := h; ⟨ob, f _ _ h1 (fun xs z => nomatch z), h2⟩
theorem FT.sq {K : PySem.W.Frag} {H : Hp} {b : Addr} {s : List Int} (h : FT H b s) : SqT K H b (s.map V.int) := .inl h.kx
theorem shaped_tup (ns : List Int) : SeqAt.shaped (.tuple (ns.map PyData.int)) = true := by
  simp [SeqAt.shaped, PyData.canLay0, PyData.depth, PySem.W.ke_canLayAll0, PySem.W.ke_depthAll]
theorem eqv_tup (ns ms : List Int) : PyData.eqv (.tuple (ns.map PyData.int)) (.tuple (ms.map PyData.int)) = decide (ns = ms) := by
  rw [PyData.eqv]
  exact PySem.W.ked_eqvAll ns ms
theorem ixRow {K : PySem.W.Frag} {H : Hp} {xs : List V} {h : List (List Int)} {n : Nat} (hE : Each (TI K H) xs h) (q : Hb n h) {t : Int} (ht : InR n t) : ∃ a' : Addr, atI xs t = some (.ref a') ∧ SqT K H a' ((h.getD t.toNat []).map V.int) := by
  obtain ⟨ns, e1, _⟩ := q.at ht.1 ht.2 ht.1 ht.2
  obtain ⟨v, e3, a', rfl, hS⟩ := hE.of e1
  refine ⟨a', at_int ht.1 e3, ?_⟩
  rw [List.getD_eq_getElem?_getD, e1]
  exact hS
section
variable {P : Program} {w : World} {K : PySem.W.Frag} {mg : Str → Option Value} {base : Heap}
/-- a habit, a layout and a word of n places -/
structure HLW (K : PySem.W.Frag) (H : Hp) (v : V) (h : List (List Int)) (n : Nat) (a : Addr) (L : List Int) (wv : V) (ws : List Int) : Prop where
  hT : TII K H v h
  hb : Hb n h
  fL : FT H a L
  hL : L.Perm (rg n)
  hW : TI K H wv ws
  hw : ∀ t ∈ ws, InR n t
  len : ws.length ≤ 400
theorem HLW.same {K : PySem.W.Frag} {H H' : Hp} {v : V} {h : List (List Int)} {n : Nat} {a : Addr} {L : List Int} {wv : V} {ws : List Int} (g : HLW K H v h n a L wv ws) (s : Same H H') : HLW K H' v h n a L wv ws :=
  ⟨g.hT.on (Same.tups s), g.hb, g.fL.same s, g.hL, g.hW.on (Same.tups s), g.hw, g.len⟩
theorem HLW.fix {K : PySem.W.Frag} {H H' : Hp} {v : V} {h : List (List Int)} {n : Nat} {a : Addr} {L : List Int} {wv : V} {ws : List Int} (g : HLW K H v h n a L wv ws) (s : Fix H H') : HLW K H' v h n a L wv ws :=
  ⟨g.hT.on s.tups, g.hb, g.fL.fix s, g.hL, g.hW.on s.tups, g.hw, g.len⟩
end
end RH
set_option Elab.async false
set_option linter.all false
set_option maxRecDepth 100000
set_option maxHeartbeats 2000000
namespace RH
open PySem PySem.Spec PyProof.Rows L2
/-! ### the law's own touches and books -/
theorem catT_ok {K : PySem.W.Frag} {H : Hp} {a b : Addr} {xs ys : List V} {Q : VK} (ha : SqT K H a xs) (hb : SqT K H b ys) (hl : xs.length + ys.length ≤ 1000) (q : ∀ r H', Same H H' → SqT K H' r (xs ++ ys) → Q (.ref r) H') : rCatA K (.ref a) (.ref b) H Q := by
  refine ⟨a, b, xs, ys, rfl, rfl, ha, hb, Nat.le_of_lt (small1000 hl), fun e => ?_, fun _ e => ?_, fun _ _ p hp => q p _ (same_new hp) (tupAt upd_same)⟩
  · subst e
    exact q b H (Same.refl H) hb
  · subst e
    exact q a H (Same.refl H) (by rw [List.append_nil]; exact ha)
end RH
set_option Elab.async false
set_option linter.all false
set_option maxRecDepth 100000
set_option maxHeartbeats 2000000
namespace RH
open PySem PySem.Spec PyProof.Rows L2
/-! ### a search level by level, with words -/
abbrev SW := List Int × List Int
def exq (h : List (List Int)) (n : Nat) (q : SW) : List SW := (rg n).map fun p => (stp h p q.1, q.2 ++ [p])
def exl (h : List (List Int)) (n : Nat) (l : List SW) : List SW := l.flatMap (exq h n)
/-- those that are new: in no state of F, nor ahead -/
def ddS (F : List (List Int)) (acc : List SW) (q : SW) : List SW := if q.1 ∈ F ∨ q.1 ∈ acc.map Prod.fst then acc else acc ++ [q]
def dd (F : List (List Int)) (l : List SW) : List SW := l.foldl (ddS F) []
theorem dd_app (F : List (List Int)) (l m : List SW) : dd F (l ++ m) = m.foldl (ddS F) (dd F l) := List.foldl_append ..
theorem dd_snoc (F : List (List Int)) (l : List SW) (q : SW) : dd F (l ++ [q]) = ddS F (dd F l) q := dd_app F l [q]
theorem nd_one {α : Type} (a : α) : [a].Nodup := List.nodup_cons.mpr ⟨List.not_mem_nil, List.nodup_nil⟩
theorem snoc_ind {α : Type} {P : List α → Prop} (h0 : P []) (hs : ∀ l q, P l → P (l ++ [q])) : ∀ l, P l := by
  have : ∀ r : List α, P r.reverse := fun r => by
    induction r with
    | nil => exact h0
    | cons a r ih =>
      rw [List.reverse_cons]
      exact hs _ _ ih
  intro l
  have := this l.reverse
  rwa [List.reverse_reverse] at this
theorem ddS_in {F : List (List Int)} {acc : List SW} {q : SW} (h : q.1 ∈ F ∨ q.1 ∈ acc.map Prod.fst) : ddS F acc q = acc := if_pos h
theorem ddS_new {F : List (List Int)} {acc : List SW} {q : SW} (h : ¬ (q.1 ∈ F ∨ q.1 ∈ acc.map Prod.fst)) : ddS F acc q = acc ++ [q] := if_neg h
theorem dd_mono {F : List (List Int)} : ∀ {m acc : List SW} {q : SW}, q ∈ acc → q ∈ m.foldl (ddS F) acc
  | [], _, _, h => h
  | x :: m, acc, q, h => by
    rw [List.foldl_cons]
    refine dd_mono (m := m) ?_
    unfold ddS
    split
    · exact h
    · exact List.mem_append_left _ h
theorem dd_has (F : List (List Int)) : ∀ l : List SW, ∀ q ∈ l, q.1 ∈ F ∨ q.1 ∈ (dd F l).map Prod.fst := by
  refine snoc_ind (fun q hq => nomatch hq) fun l x ih q hq => ?_
  rw [dd_snoc]
  rcases List.mem_append.mp hq with z | z
  · rcases ih q z with y | y
    · exact .inl y
    · refine .inr ?_
      unfold ddS
      split
      · exact y
      · rw [List.map_append]
        exact List.mem_append_left _ y
  · rw [List.mem_singleton.mp z]
    by_cases hx : x.1 ∈ F ∨ x.1 ∈ (dd F l).map Prod.fst
    · rw [ddS_in hx]
      exact hx
    · rw [ddS_new hx, List.map_append]
      exact .inr (List.mem_append_right _ (List.mem_singleton.mpr rfl))
structure DdOk (F : List (List Int)) (l d : List SW) : Prop where
  sub : ∀ q ∈ d, q ∈ l
  new : ∀ q ∈ d, q.1 ∉ F
  nd : (d.map Prod.fst).Nodup
theorem dd_ok (F : List (List Int)) : ∀ l : List SW, DdOk F l (dd F l) := by
  refine snoc_ind ⟨fun q hq => (nomatch hq), fun q hq => (nomatch hq), List.nodup_nil⟩ fun l x ih => ?_
  rw [dd_snoc]
  by_cases hx : x.1 ∈ F ∨ x.1 ∈ (dd F l).map Prod.fst
  · rw [ddS_in hx]
    exact ⟨fun q hq => List.mem_append_left _ (ih.sub q hq), ih.new, ih.nd⟩
  · rw [ddS_new hx]
    refine ⟨fun q hq => ?_, fun q hq => ?_, ?_⟩
    · rcases List.mem_append.mp hq with z | z
      · exact List.mem_append_left _ (ih.sub q z)
      · exact List.mem_append_right _ z
    · rcases List.mem_append.mp hq with z | z
      · exact ih.new q z
      · rw [List.mem_singleton.mp z]
        exact fun y => hx (.inl y)
    · rw [List.map_append, List.nodup_append]
      refine ⟨ih.nd, nd_one _, fun a ha b hb e => ?_⟩
      rw [List.map_singleton, List.mem_singleton] at hb
      rw [e, hb] at ha
      exact hx (.inr ha)
/-- what is found, and the level, behind k levels -/
def bf (h : List (List Int)) (n : Nat) (L : List Int) : Nat → List SW × List SW
  | 0 => ([(L, [])], [(L, [])])
  | k + 1 => ((bf h n L k).1 ++ dd ((bf h n L k).1.map Prod.fst) (exl h n (bf h n L k).2), dd ((bf h n L k).1.map Prod.fst) (exl h n (bf h n L k).2))
def fd (h : List (List Int)) (n : Nat) (L : List Int) (k : Nat) : List SW := (bf h n L k).1
def lv (h : List (List Int)) (n : Nat) (L : List Int) (k : Nat) : List SW := (bf h n L k).2
def lst (h : List (List Int)) (n : Nat) (L : List Int) : Nat → List SW
  | 0 => [(L, [])]
  | k + 1 => dd [] (exl h n (lst h n L k))
section
variable {h : List (List Int)} {n : Nat} {L : List Int}
theorem fd_succ (k : Nat) : fd h n L (k + 1) = fd h n L k ++ lv h n L (k + 1) := rfl
theorem lv_succ (k : Nat) : lv h n L (k + 1) = dd ((fd h n L k).map Prod.fst) (exl h n (lv h n L k)) := rfl
theorem fd_mono {k j : Nat} (hk : k ≤ j) {q : SW} (hq : q ∈ fd h n L k) : q ∈ fd h n L j := by
  induction hk with
  | refl => exact hq
  | step _ ih => exact List.mem_append_left _ ih
theorem lv_fd {k : Nat} {q : SW} (hq : q ∈ lv h n L k) : q ∈ fd h n L k := by
  cases k with
  | zero => exact hq
  | succ k => exact List.mem_append_right _ hq
theorem lv_ex {k : Nat} {q : SW} (hq : q ∈ lv h n L k) {p : Int} (hp : p ∈ rg n) : stp h p q.1 ∈ (fd h n L (k + 1)).map Prod.fst := by
  have hm : (stp h p q.1, q.2 ++ [p]) ∈ exl h n (lv h n L k) := List.mem_flatMap.mpr ⟨q, hq, List.mem_map.mpr ⟨p, hp, rfl⟩⟩
  rw [fd_succ, List.map_append, List.mem_append]
  exact dd_has _ _ _ hm
theorem fd_ex {q : SW} {p : Int} (hp : p ∈ rg n) : ∀ {k : Nat}, q ∈ fd h n L k → stp h p q.1 ∈ (fd h n L (k + 1)).map Prod.fst
  | 0, hq => lv_ex (k := 0) hq hp
  | k + 1, hq => by
    rw [fd_succ, List.mem_append] at hq
    rcases hq with hq | hq
    · have := fd_ex hp hq
      rw [fd_succ (k + 1), List.map_append, List.mem_append]
      exact .inl this
    · exact lv_ex hq hp
theorem exl_len {l : List SW} {k : Nat} (hl : ∀ q ∈ l, q.2.length = k) : ∀ q ∈ exl h n l, q.2.length = k + 1 := fun q hq => by
  obtain ⟨x, hx, hq⟩ := List.mem_flatMap.mp hq
  obtain ⟨p, _, rfl⟩ := List.mem_map.mp hq
  rw [List.length_append, hl x hx]
  rfl
theorem lv_len : ∀ k : Nat, ∀ q ∈ lv h n L k, q.2.length = k
  | 0, q, hq => by
    rw [List.mem_singleton.mp hq]
    rfl
  | k + 1, q, hq => exl_len (lv_len k) q ((dd_ok _ _).sub q hq)
theorem fd_nd : ∀ k : Nat, ((fd h n L k).map Prod.fst).Nodup
  | 0 => nd_one _
  | k + 1 => by
    rw [fd_succ, List.map_append, List.nodup_append]
    refine ⟨fd_nd k, (dd_ok _ _).nd, fun a ha b hb e => ?_⟩
    obtain ⟨x, hx, rfl⟩ := List.mem_map.mp hb
    exact (dd_ok _ _).new x hx (e ▸ ha)
theorem lv_done {a : Nat} (e : lv h n L a = []) : ∀ j : Nat, lv h n L (a + j) = [] ∧ fd h n L (a + j) = fd h n L a
  | 0 => ⟨e, rfl⟩
  | j + 1 => by
    obtain ⟨h1, h2⟩ := lv_done e j
    have h3 : lv h n L (a + j + 1) = [] := by
      rw [lv_succ, h1]
      rfl
    refine ⟨h3, ?_⟩
    show fd h n L (a + j + 1) = _
    rw [fd_succ, h3, List.append_nil, h2]
theorem fd_start (k : Nat) : (L, []) ∈ fd h n L k := fd_mono (Nat.zero_le k) (List.mem_singleton.mpr rfl)
theorem fd_least {C : List Int → Prop} (h0 : C L) (hs : ∀ s, C s → ∀ p ∈ rg n, C (stp h p s)) : ∀ k : Nat, ∀ q ∈ fd h n L k, C q.1
  | 0, q, hq => by
    rw [List.mem_singleton.mp hq]
    exact h0
  | k + 1, q, hq => by
    rw [fd_succ, List.mem_append] at hq
    rcases hq with hq | hq
    · exact fd_least h0 hs k q hq
    · have := (dd_ok _ _).sub q hq
      obtain ⟨x, hx, hq⟩ := List.mem_flatMap.mp this
      obtain ⟨p, hp, rfl⟩ := List.mem_map.mp hq
      exact hs _ (fd_least h0 hs k x (lv_fd hx)) p hp
theorem fd_val {k : Nat} {s w w' : List Int} (h1 : (s, w) ∈ fd h n L k) (h2 : (s, w') ∈ fd h n L k) : w = w' := by
  have nd : ∀ {l : List SW}, (l.map Prod.fst).Nodup → (s, w) ∈ l → (s, w') ∈ l → w = w' := fun {l} => by
    induction l with
    | nil => exact fun _ z _ => nomatch z
    | cons x l ih =>
      intro nd a b
      rw [List.map_cons, List.nodup_cons] at nd
      rcases List.mem_cons.mp a with e1 | a
      · rcases List.mem_cons.mp b with e2 | b
        · rw [← e1] at e2
          exact (Prod.mk.inj e2).2.symm
        · rw [← e1] at nd
          exact absurd (List.mem_map.mpr ⟨_, b, rfl⟩) nd.1
      · rcases List.mem_cons.mp b with e2 | b
        · rw [← e2] at nd
          exact absurd (List.mem_map.mpr ⟨_, a, rfl⟩) nd.1
        · exact ih nd.2 a b
  exact nd (fd_nd k) h1 h2
end
/-! ### layouts are few, and touches lead back -/
theorem nd_len {α : Type} [DecidableEq α] : ∀ {l m : List α}, l.Nodup → (∀ x ∈ l, x ∈ m) → l.length ≤ m.length
  | [], _, _, _ => Nat.zero_le _
  | a :: l, m, nd, hs => by
    rw [List.nodup_cons] at nd
    have ha := hs a (List.mem_cons_self ..)
    have := nd_len (l := l) (m := m.erase a) nd.2 fun x hx => (List.mem_erase_of_ne (fun e => nd.1 (by rw [← e]; exact hx))).mpr (hs x (List.mem_cons_of_mem _ hx))
    rw [List.length_erase_of_mem ha] at this
    have hm := List.length_pos_of_mem ha
    rw [List.length_cons]
    omega
section
variable {h : List (List Int)} {n : Nat} {L : List Int}
theorem Hb.fd_perm (q : Hb n h) (hL : L.Perm (rg n)) (k : Nat) : ∀ x ∈ fd h n L k, x.1.Perm (rg n) :=
  fd_least (C := fun s => s.Perm (rg n)) hL (fun s hs p hp => q.stp_perm (rg_mem.mp hp) hs) k
theorem nd_map_on {α β : Type} {f : α → β} : ∀ {l : List α}, (∀ a ∈ l, ∀ b ∈ l, f a = f b → a = b) → l.Nodup → (l.map f).Nodup
  | [], _, _ => List.nodup_nil
  | a :: l, h, nd => by
    rw [List.nodup_cons] at nd
    rw [List.map_cons, List.nodup_cons]
    refine ⟨fun z => ?_, nd_map_on (fun x hx y hy => h x (List.mem_cons_of_mem _ hx) y (List.mem_cons_of_mem _ hy)) nd.2⟩
    obtain ⟨y, hy, e⟩ := List.mem_map.mp z
    have := h y (List.mem_cons_of_mem _ hy) a (List.mem_cons_self ..) e
    exact nd.1 (this ▸ hy)
theorem fd_closed {a : Nat} (ha : lv h n L a = []) {s : List Int} (hs : s ∈ (fd h n L a).map Prod.fst) {p : Int} (hp : p ∈ rg n) : stp h p s ∈ (fd h n L a).map Prod.fst := by
  obtain ⟨x, hx, rfl⟩ := List.mem_map.mp hs
  have := fd_ex hp hx
  rwa [(lv_done ha 1).2] at this
end
/-! ### within a level -/
def insE (a : Int) : List Int → List (List Int)
  | [] => [[a]]
  | b :: l => (a :: b :: l) :: (insE a l).map (b :: ·)
def prm : List Int → List (List Int)
  | [] => [[]]
  | a :: l => (prm l).flatMap (insE a)
theorem insE_perm {a : Int} : ∀ {l s : List Int}, s ∈ insE a l → s.Perm (a :: l)
  | [], s, h => by
    rw [List.mem_singleton.mp h]
  | b :: l, s, h => by
    rcases List.mem_cons.mp h with rfl | h
    · exact List.Perm.refl _
    · obtain ⟨t, ht, rfl⟩ := List.mem_map.mp h
      exact ((insE_perm ht).cons b).trans (List.Perm.swap ..)
theorem mem_insE {a : Int} : ∀ (s1 s2 : List Int), s1 ++ a :: s2 ∈ insE a (s1 ++ s2)
  | [], [] => List.mem_singleton.mpr rfl
  | [], b :: l => List.mem_cons_self ..
  | b :: s1, s2 => List.mem_cons_of_mem _ (List.mem_map.mpr ⟨_, mem_insE s1 s2, rfl⟩)
theorem mem_prm : ∀ {l s : List Int}, s ∈ prm l ↔ s.Perm l
  | [], s => by
    constructor
    · intro h
      rw [List.mem_singleton.mp h]
    · intro h
      rw [List.perm_nil.mp h]
      exact List.mem_singleton.mpr rfl
  | a :: l, s => by
    constructor
    · intro h
      obtain ⟨t, ht, hs⟩ := List.mem_flatMap.mp h
      exact (insE_perm hs).trans ((mem_prm.mp ht).cons a)
    · intro h
      have ha : a ∈ s := h.mem_iff.mpr (List.mem_cons_self ..)
      obtain ⟨s1, s2, rfl⟩ := List.append_of_mem ha
      have h2 : (s1 ++ s2).Perm l := (List.perm_middle.symm.trans h).cons_inv
      exact List.mem_flatMap.mpr ⟨_, mem_prm.mpr h2, mem_insE s1 s2⟩
theorem prm_few : ∀ n, n < 6 → (prm (rg n)).length ≤ 120 := by decide +kernel
/-- what is new behind m expansions of the k-th level -/
def prt (h : List (List Int)) (n : Nat) (L : List Int) (k m : Nat) : List SW := dd ((fd h n L k).map Prod.fst) ((exl h n (lv h n L k)).take m)
section
variable {h : List (List Int)} {n : Nat} {L : List Int}
theorem exq_len (q : SW) : (exq h n q).length = n := by
  unfold exq
  rw [List.length_map, rg_len]
theorem exl_cons (q : SW) (l : List SW) : exl h n (q :: l) = exq h n q ++ exl h n l := rfl
theorem exl_length : ∀ l : List SW, (exl h n l).length = l.length * n
  | [] => by
    rw [List.length_nil, Nat.zero_mul]
    rfl
  | q :: l => by
    rw [exl_cons, List.length_append, exq_len, exl_length l, List.length_cons, Nat.succ_mul, Nat.add_comm]
theorem exl_at : ∀ {l : List SW} {i j : Nat} {q : SW}, l[i]? = some q → j < n → (exl h n l)[i * n + j]? = some (stp h (j : Int) q.1, q.2 ++ [(j : Int)])
  | [], _, _, _, e, _ => by simp at e
  | a :: l, 0, j, q, e, hj => by
    cases Option.some.inj e
    rw [exl_cons, Nat.zero_mul, Nat.zero_add, List.getElem?_append_left (by rw [exq_len]; exact hj)]
    unfold exq
    rw [List.getElem?_map, rg_at hj]
    rfl
  | a :: l, i + 1, j, q, e, hj => by
    rw [exl_cons, List.getElem?_append_right (by rw [exq_len, Nat.succ_mul]; omega), exq_len, show (i + 1) * n + j - n = i * n + j by rw [Nat.succ_mul]; omega]
    exact exl_at (l := l) (i := i) e hj
theorem prt_zero (k : Nat) : prt h n L k 0 = [] := by
  unfold prt
  rw [List.take_zero]
  rfl
theorem prt_all (k : Nat) : prt h n L k ((lv h n L k).length * n) = lv h n L (k + 1) := by
  unfold prt
  rw [← exl_length, List.take_length, lv_succ]
theorem prt_old {k i j : Nat} {q : SW} (hq : (lv h n L k)[i]? = some q) (hj : j < n) (hk : stp h (j : Int) q.1 ∈ (fd h n L k ++ prt h n L k (i * n + j)).map Prod.fst) : prt h n L k (i * n + j + 1) = prt h n L k (i * n + j) := by
  unfold prt at hk ⊢
  rw [take_more (exl_at hq hj), dd_snoc, ddS_in]
  rw [List.map_append, List.mem_append] at hk
  exact hk
theorem prt_new {k i j : Nat} {q : SW} (hq : (lv h n L k)[i]? = some q) (hj : j < n) (hk : stp h (j : Int) q.1 ∉ (fd h n L k ++ prt h n L k (i * n + j)).map Prod.fst) :
    prt h n L k (i * n + j + 1) = prt h n L k (i * n + j) ++ [(stp h (j : Int) q.1, q.2 ++ [(j : Int)])] := by
  unfold prt at hk ⊢
  rw [take_more (exl_at hq hj), dd_snoc, ddS_new]
  rw [List.map_append, List.mem_append] at hk
  exact hk
theorem prt_sub {k m : Nat} {q : SW} (hq : q ∈ prt h n L k m) : q ∈ lv h n L (k + 1) := by
  rw [lv_succ, ← List.take_append_drop m (exl h n (lv h n L k)), dd_app]
  exact dd_mono hq
theorem prt_fd {k m : Nat} {q : SW} (hq : q ∈ fd h n L k ++ prt h n L k m) : q ∈ fd h n L (k + 1) := by
  rcases List.mem_append.mp hq with z | z
  · exact List.mem_append_left _ z
  · exact lv_fd (prt_sub z)
theorem prt_nd (k m : Nat) : ((fd h n L k ++ prt h n L k m).map Prod.fst).Nodup := by
  rw [List.map_append, List.nodup_append]
  refine ⟨fd_nd k, (dd_ok _ _).nd, fun a ha b hb e => ?_⟩
  obtain ⟨x, hx, rfl⟩ := List.mem_map.mp hb
  exact (dd_ok _ _).new x hx (e ▸ ha)
theorem few {l : List SW} (n5 : n ≤ 5) (nd : (l.map Prod.fst).Nodup) (hp : ∀ x ∈ l, x.1.Perm (rg n)) : l.length ≤ 120 := by
  have := nd_len nd (m := prm (rg n)) fun s hs => by
    obtain ⟨x, hx, rfl⟩ := List.mem_map.mp hs
    exact mem_prm.mpr (hp x hx)
  rw [List.length_map] at this
  exact Nat.le_trans this (prm_few n (by omega))
theorem Hb.prt_few (q : Hb n h) (hL : L.Perm (rg n)) (k m : Nat) : (fd h n L k ++ prt h n L k m).length ≤ 120 :=
  few q.hi (prt_nd k m) fun x hx => q.fd_perm hL (k + 1) x (prt_fd hx)
theorem Hb.fd_few (q : Hb n h) (hL : L.Perm (rg n)) (k : Nat) : (fd h n L k).length ≤ 120 := few q.hi (fd_nd k) (q.fd_perm hL k)
theorem Hb.lv_perm (q : Hb n h) (hL : L.Perm (rg n)) (k : Nat) : ∀ x ∈ lv h n L k, x.1.Perm (rg n) := fun x hx => q.fd_perm hL k x (lv_fd hx)
/-- how far the search is from its end -/
def mea (h : List (List Int)) (n : Nat) (L : List Int) (k : Nat) : Nat := 2 * (120 - (fd h n L k).length) + (if lv h n L k = [] then 0 else 1)
theorem Hb.mea_less (q : Hb n h) (hL : L.Perm (rg n)) {k : Nat} (e : lv h n L k ≠ []) : mea h n L (k + 1) < mea h n L k := by
  unfold mea
  rw [if_neg e, fd_succ, List.length_append]
  have h1 := q.fd_few hL (k + 1)
  rw [fd_succ, List.length_append] at h1
  by_cases z : lv h n L (k + 1) = []
  · rw [if_pos z, z, List.length_nil]
    omega
  · rw [if_neg z]
    have : 0 < (lv h n L (k + 1)).length := List.length_pos_iff.mpr z
    omega
end
end RH
set_option Elab.async false
set_option linter.all false
set_option maxRecDepth 100000
set_option maxHeartbeats 2000000
namespace RH
open PySem PySem.Spec PyProof.Rows L2
/-! ### shelves beside each other: orders multiply -/
/-- the layouts of two shelves, beside each other -/
def jn (m : Nat) (a b : List Int) : List Int := a ++ b.map fun i => (m : Int) + i
def besH (h o : List (List Int)) : List (List Int) := (h.map fun ns => ns ++ (rg o.length).map fun i => (h.length : Int) + i) ++ o.map fun ns => rg h.length ++ ns.map fun i => (h.length : Int) + i
theorem jn_inj {m : Nat} {a b a2 b2 : List Int} (hl : a.length = a2.length) (e : jn m a b = jn m a2 b2) : a = a2 ∧ b = b2 := by
  unfold jn at e
  have := List.append_inj e hl
  refine ⟨this.1, List.map_inj_right (fun x y z => by omega) |>.mp this.2⟩
section
variable {h o : List (List Int)} {m n : Nat}
theorem bes_len (hh : Hb m h) (ho : Hb n o) : (besH h o).length = m + n := by
  unfold besH
  rw [List.length_append, List.length_map, List.length_map, hh.len, ho.len]
theorem bes_lo (hh : Hb m h) (ho : Hb n o) {u : Nat} (hu : u < m) : (besH h o).getD u [] = h.getD u [] ++ (rg n).map fun i => (m : Int) + i := by
  unfold besH
  rw [hh.len, ho.len, List.getD_eq_getElem?_getD, List.getElem?_append_left (by rw [List.length_map, hh.len]; exact hu), List.getElem?_map, List.getD_eq_getElem?_getD, List.getElem?_eq_getElem (by rw [hh.len]; exact hu)]
  rfl
theorem bes_hi (hh : Hb m h) (ho : Hb n o) {u : Nat} (hu : u < n) : (besH h o).getD (m + u) [] = rg m ++ (o.getD u []).map fun i => (m : Int) + i := by
  unfold besH
  rw [hh.len, ho.len, List.getD_eq_getElem?_getD, List.getElem?_append_right (by rw [List.length_map, hh.len]; omega), List.length_map, hh.len, List.getElem?_map, List.getD_eq_getElem?_getD, show m + u - m = u from by omega, List.getElem?_eq_getElem (by rw [ho.len]; exact hu)]
  rfl
theorem row_len (hh : Hb m h) {u : Nat} (hu : u < m) : (h.getD u []).length = m := by
  have : (h.getD u []) ∈ h := by
    rw [List.getD_eq_getElem?_getD, List.getElem?_eq_getElem (by rw [hh.len]; exact hu)]
    exact List.getElem_mem _
  exact perm_len (hh.perm _ this)
theorem getD_l {x y : List Int} {s : Nat} (h : s < x.length) : (x ++ y).getD s 0 = x.getD s 0 := by
  rw [List.getD_eq_getElem?_getD, List.getElem?_append_left h, ← List.getD_eq_getElem?_getD]
theorem getD_r {x y : List Int} {s : Nat} : (x ++ y).getD (x.length + s) 0 = y.getD s 0 := by
  rw [List.getD_eq_getElem?_getD, List.getElem?_append_right (by omega), show x.length + s - x.length = s from by omega, ← List.getD_eq_getElem?_getD]
theorem getD_m {f : Int → Int} {x : List Int} {s : Nat} (h : s < x.length) : (x.map f).getD s 0 = f (x.getD s 0) := by
  rw [List.getD_eq_getElem?_getD, List.getElem?_map, List.getD_eq_getElem?_getD, List.getElem?_eq_getElem h]
  rfl
theorem rg_getD {n s : Nat} (h : s < n) : (rg n).getD s 0 = (s : Int) := by
  rw [List.getD_eq_getElem?_getD, rg_at h]
  rfl
theorem mv_ll (hh : Hb m h) (ho : Hb n o) {t s : Nat} (ht : t < m) (hs : s < m) : mv (besH h o) (t : Int) (s : Int) = mv h (t : Int) (s : Int) := by
  unfold mv
  rw [Int.toNat_natCast, Int.toNat_natCast, bes_lo hh ho ht, getD_l (by rw [row_len hh ht]; exact hs)]
theorem mv_lr (hh : Hb m h) (ho : Hb n o) {t s : Nat} (ht : t < m) (hs : s < n) : mv (besH h o) (t : Int) ((m : Int) + (s : Int)) = (m : Int) + (s : Int) := by
  unfold mv
  rw [show ((m : Int) + (s : Int)).toNat = m + s from by omega, Int.toNat_natCast, bes_lo hh ho ht]
  have := row_len hh ht
  conv => lhs; rw [← this]
  rw [getD_r, getD_m (by rw [rg_len]; exact hs), rg_getD hs, this]
theorem mv_rl (hh : Hb m h) (ho : Hb n o) {t s : Nat} (ht : t < n) (hs : s < m) : mv (besH h o) ((m : Int) + (t : Int)) (s : Int) = (s : Int) := by
  unfold mv
  rw [show ((m : Int) + (t : Int)).toNat = m + t from by omega, Int.toNat_natCast, bes_hi hh ho ht, getD_l (by rw [rg_len]; exact hs), rg_getD hs]
theorem mv_rr (hh : Hb m h) (ho : Hb n o) {t s : Nat} (ht : t < n) (hs : s < n) : mv (besH h o) ((m : Int) + (t : Int)) ((m : Int) + (s : Int)) = (m : Int) + mv o (t : Int) (s : Int) := by
  unfold mv
  rw [show ((m : Int) + (t : Int)).toNat = m + t from by omega, show ((m : Int) + (s : Int)).toNat = m + s from by omega, Int.toNat_natCast, Int.toNat_natCast, bes_hi hh ho ht]
  have e : (rg m).length = m := rg_len m
  conv => lhs; rw [show m + s = (rg m).length + s from by rw [e]]
  rw [getD_r, getD_m (by rw [row_len ho ht]; exact hs)]
theorem nat_of {n : Nat} {x : Int} (h : InR n x) : ∃ k : Nat, k < n ∧ x = (k : Int) := ⟨x.toNat, by have := h.1; have := h.2; omega, by have := h.1; omega⟩
theorem stp_lo (hh : Hb m h) (ho : Hb n o) {p : Int} {a b : List Int} (hp : InR m p) (ha : ∀ i ∈ a, InR m i) (hb : ∀ i ∈ b, InR n i) : stp (besH h o) p (jn m a b) = jn m (stp h p a) b := by
  obtain ⟨t, ht, rfl⟩ := nat_of hp
  unfold stp jn
  rw [List.map_append, List.map_map]
  congr 1
  · refine List.map_congr_left fun x hx => ?_
    obtain ⟨s, hs, rfl⟩ := nat_of (ha x hx)
    exact mv_ll hh ho ht hs
  · refine List.map_congr_left fun x hx => ?_
    obtain ⟨s, hs, rfl⟩ := nat_of (hb x hx)
    exact mv_lr hh ho ht hs
theorem stp_hi (hh : Hb m h) (ho : Hb n o) {p : Int} {a b : List Int} (hp : InR n p) (ha : ∀ i ∈ a, InR m i) (hb : ∀ i ∈ b, InR n i) : stp (besH h o) ((m : Int) + p) (jn m a b) = jn m a (stp o p b) := by
  obtain ⟨t, ht, rfl⟩ := nat_of hp
  unfold stp jn
  rw [List.map_append, List.map_map, List.map_map]
  congr 1
  · conv => rhs; rw [← List.map_id a]
    refine List.map_congr_left fun x hx => ?_
    obtain ⟨s, hs, rfl⟩ := nat_of (ha x hx)
    exact mv_rl hh ho ht hs
  · refine List.map_congr_left fun x hx => ?_
    obtain ⟨s, hs, rfl⟩ := nat_of (hb x hx)
    exact mv_rr hh ho ht hs
theorem rg_add (m n : Nat) : rg (m + n) = jn m (rg m) (rg n) := by
  unfold jn rg
  rw [List.range_add, List.map_append, List.map_map, List.map_map]
  congr 1
theorem jn_perm {a b : List Int} (ha : a.Perm (rg m)) (hb : b.Perm (rg n)) : (jn m a b).Perm (rg (m + n)) := by
  rw [rg_add]
  exact ha.append (hb.map _)
theorem bes_hb (hh : Hb m h) (ho : Hb n o) (few : m + n ≤ 5) : Hb (m + n) (besH h o) := by
  refine ⟨bes_len hh ho, fun ns hm => ?_, by have := hh.lo; omega, few⟩
  unfold besH at hm
  rw [hh.len, ho.len] at hm
  rcases List.mem_append.mp hm with hm | hm
  · obtain ⟨x, hx, rfl⟩ := List.mem_map.mp hm
    exact jn_perm (hh.perm x hx) (List.Perm.refl _)
  · obtain ⟨x, hx, rfl⟩ := List.mem_map.mp hm
    exact jn_perm (List.Perm.refl _) (ho.perm x hx)
/-- what a shelf can reach -/
def rch (h : List (List Int)) (n k : Nat) : List (List Int) := (fd h n (rg n) k).map Prod.fst
theorem rch_perm (hh : Hb m h) (k : Nat) : ∀ a ∈ rch h m k, a.Perm (rg m) := fun a ha => by
  obtain ⟨q, hq, rfl⟩ := List.mem_map.mp ha
  exact hh.fd_perm (List.Perm.refl _) k q hq
theorem stp_perm2 (hh : Hb m h) {p : Int} (hp : p ∈ rg m) {a : List Int} (ha : a.Perm (rg m)) : (stp h p a).Perm (rg m) := by
  obtain ⟨q, hq, e⟩ := List.mem_map.mp (fd_ex (h := h) (n := m) (L := a) hp (fd_start 0))
  have := hh.fd_perm (L := a) ha 1 q hq
  rw [e] at this
  exact this
theorem rch_start (k : Nat) : rg m ∈ rch h m k := List.mem_map.mpr ⟨_, fd_start k, rfl⟩
theorem rch_prod (hh : Hb m h) (ho : Hb n o) {k1 k2 k3 : Nat} (e1 : lv h m (rg m) k1 = []) (e2 : lv o n (rg n) k2 = []) (e3 : lv (besH h o) (m + n) (rg (m + n)) k3 = []) (s : List Int) :
    s ∈ rch (besH h o) (m + n) k3 ↔ ∃ a ∈ rch h m k1, ∃ b ∈ rch o n k2, s = jn m a b := by
  have inA : ∀ {a : List Int}, a.Perm (rg m) → ∀ i ∈ a, InR m i := fun ha i hi => perm_in ha hi
  have inB : ∀ {b : List Int}, b.Perm (rg n) → ∀ i ∈ b, InR n i := fun hb i hi => perm_in hb hi
  constructor
  · intro hs
    obtain ⟨q, hq, rfl⟩ := List.mem_map.mp hs
    refine fd_least (C := fun s => ∃ a ∈ rch h m k1, ∃ b ∈ rch o n k2, s = jn m a b) ⟨rg m, rch_start k1, rg n, rch_start k2, rg_add m n⟩ (fun s hs p hp => ?_) k3 q hq
    obtain ⟨a, ha, b, hb, rfl⟩ := hs
    have pa := rch_perm hh k1 a ha
    have pb := rch_perm ho k2 b hb
    have hp := rg_mem.mp hp
    by_cases lt : p < m
    · rw [stp_lo hh ho ⟨hp.1, lt⟩ (inA pa) (inB pb)]
      exact ⟨_, fd_closed e1 ha (rg_mem.mpr ⟨hp.1, lt⟩), b, hb, rfl⟩
    · have e : p = (m : Int) + (p - m) := by omega
      rw [e, stp_hi hh ho ⟨by omega, by omega⟩ (inA pa) (inB pb)]
      exact ⟨a, ha, _, fd_closed e2 hb (rg_mem.mpr ⟨by omega, by omega⟩), rfl⟩
  · rintro ⟨a, ha, b, hb, rfl⟩
    have one : a.Perm (rg m) ∧ jn m a (rg n) ∈ rch (besH h o) (m + n) k3 := by
      obtain ⟨q, hq, rfl⟩ := List.mem_map.mp ha
      refine fd_least (C := fun a => a.Perm (rg m) ∧ jn m a (rg n) ∈ rch (besH h o) (m + n) k3) ⟨List.Perm.refl _, by rw [← rg_add]; exact rch_start k3⟩ (fun a ha p hp => ⟨stp_perm2 hh hp ha.1, ?_⟩) k1 q hq
      have hp2 := rg_mem.mp hp
      rw [← stp_lo hh ho ⟨hp2.1, hp2.2⟩ (inA ha.1) (inB (List.Perm.refl _))]
      exact fd_closed e3 ha.2 (rg_mem.mpr ⟨by omega, by omega⟩)
    obtain ⟨q, hq, rfl⟩ := List.mem_map.mp hb
    refine (fd_least (C := fun b => b.Perm (rg n) ∧ jn m a b ∈ rch (besH h o) (m + n) k3) ⟨List.Perm.refl _, one.2⟩ (fun b hb p hp => ⟨stp_perm2 ho hp hb.1, ?_⟩) k2 q hq).2
    have hp2 := rg_mem.mp hp
    rw [← stp_hi hh ho ⟨hp2.1, hp2.2⟩ (inA one.1) (inB hb.1)]
    exact fd_closed e3 hb.2 (rg_mem.mpr ⟨by omega, by omega⟩)
theorem prod_nd {A B : List (List Int)} (hl : ∀ a ∈ A, a.length = m) (ndA : A.Nodup) (ndB : B.Nodup) : (A.flatMap fun a => B.map (jn m a)).Nodup := by
  induction A with
  | nil => exact List.nodup_nil
  | cons a A ih =>
    rw [List.nodup_cons] at ndA
    rw [List.flatMap_cons, List.nodup_append]
    refine ⟨nd_map_on (fun x _ y _ e => (jn_inj rfl e).2) ndB, ih (fun x hx => hl x (List.mem_cons_of_mem _ hx)) ndA.2, fun x hx y hy e => ?_⟩
    obtain ⟨b, _, rfl⟩ := List.mem_map.mp hx
    obtain ⟨a2, ha2, hy⟩ := List.mem_flatMap.mp hy
    obtain ⟨b2, _, rfl⟩ := List.mem_map.mp hy
    have := (jn_inj (by rw [hl a List.mem_cons_self, hl a2 (List.mem_cons_of_mem _ ha2)]) e).1
    exact ndA.1 (this ▸ ha2)
theorem prod_len (m : Nat) (A B : List (List Int)) : (A.flatMap fun a => B.map (jn m a)).length = A.length * B.length := by
  induction A with
  | nil => simp
  | cons a A ih => rw [List.flatMap_cons, List.length_append, List.length_map, ih, List.length_cons, Nat.add_mul, Nat.one_mul, Nat.add_comm]
/-- the order of what stands beside each other -/
theorem ord_prod (hh : Hb m h) (ho : Hb n o) {k1 k2 k3 : Nat} (e1 : lv h m (rg m) k1 = []) (e2 : lv o n (rg n) k2 = []) (e3 : lv (besH h o) (m + n) (rg (m + n)) k3 = []) :
    (fd (besH h o) (m + n) (rg (m + n)) k3).length = (fd h m (rg m) k1).length * (fd o n (rg n) k2).length := by
  have key := rch_prod hh ho e1 e2 e3
  have l1 := nd_len (l := rch (besH h o) (m + n) k3) (m := (rch h m k1).flatMap fun a => (rch o n k2).map (jn m a)) (fd_nd k3) fun s hs => by
    obtain ⟨a, ha, b, hb, rfl⟩ := (key s).mp hs
    exact List.mem_flatMap.mpr ⟨a, ha, List.mem_map.mpr ⟨b, hb, rfl⟩⟩
  have l2 := nd_len (l := (rch h m k1).flatMap fun a => (rch o n k2).map (jn m a)) (m := rch (besH h o) (m + n) k3) (prod_nd (fun a ha => by rw [(rch_perm hh k1 a ha).length_eq, rg_len]) (fd_nd k1) (fd_nd k2)) fun s hs => by
    obtain ⟨a, ha, hs⟩ := List.mem_flatMap.mp hs
    obtain ⟨b, hb, rfl⟩ := List.mem_map.mp hs
    exact (key _).mpr ⟨a, ha, b, hb, rfl⟩
  rw [prod_len] at l1 l2
  unfold rch at l1 l2
  rw [List.length_map, List.length_map, List.length_map] at l1 l2
  omega
end
end RH
set_option Elab.async false
set_option linter.all false
set_option maxRecDepth 100000
set_option maxHeartbeats 2000000
namespace RH
open PySem PySem.Spec PyProof.Rows L2
/-! ### a shelf with other names has the same order -/
section
variable {h g : List (List Int)} {n : Nat}
theorem ord_map (hh : Hb n h) {f : List Int → List Int} {t : Int → Int} (inj : ∀ a b, a.Perm (rg n) → b.Perm (rg n) → f a = f b → a = b) (zero : f (rg n) = rg n) (into : ∀ p ∈ rg n, t p ∈ rg n) (onto : ∀ q ∈ rg n, ∃ p ∈ rg n, t p = q)
    (st : ∀ p ∈ rg n, ∀ a, a.Perm (rg n) → stp g (t p) (f a) = f (stp h p a)) {k j : Nat} (e : lv h n (rg n) k = []) (e2 : lv g n (rg n) j = []) : (fd g n (rg n) j).length = (fd h n (rg n) k).length := by
  have fw : ∀ a ∈ rch h n k, f a ∈ rch g n j := fun a ha => by
    obtain ⟨q, hq, rfl⟩ := List.mem_map.mp ha
    refine (fd_least (C := fun a => a.Perm (rg n) ∧ f a ∈ rch g n j) ⟨List.Perm.refl _, by rw [zero]; exact rch_start j⟩ (fun a ha p hp => ⟨stp_perm2 hh hp ha.1, ?_⟩) k q hq).2
    rw [← st p hp a ha.1]
    exact fd_closed e2 ha.2 (into p hp)
  have bk : ∀ b ∈ rch g n j, b ∈ (rch h n k).map f := fun b hb => by
    obtain ⟨q, hq, rfl⟩ := List.mem_map.mp hb
    refine fd_least (C := fun b => b ∈ (rch h n k).map f) (List.mem_map.mpr ⟨_, rch_start k, zero⟩) (fun b hb p hp => ?_) j q hq
    obtain ⟨a, ha, rfl⟩ := List.mem_map.mp hb
    obtain ⟨p2, hp2, rfl⟩ := onto p hp
    rw [st p2 hp2 a (rch_perm hh k a ha)]
    exact List.mem_map.mpr ⟨_, fd_closed e ha hp2, rfl⟩
  have l1 := nd_len (l := (rch h n k).map f) (m := rch g n j) (nd_map_on (fun a ha b hb e => inj a b (rch_perm hh k a ha) (rch_perm hh k b hb) e) (fd_nd k)) fun b hb => by
    obtain ⟨a, ha, rfl⟩ := List.mem_map.mp hb
    exact fw a ha
  have l2 := nd_len (l := rch g n j) (m := (rch h n k).map f) (fd_nd j) bk
  unfold rch at l1 l2
  rw [List.length_map, List.length_map, List.length_map] at l1 l2
  omega
end
/-- where the numbers of an order stand -/
def invR (o : List Int) : List Int := (List.range o.length).map fun i : Nat => ((o.idxOf (i : Int) : Nat) : Int)
/-- a habit with other names -/
def calH (h : List (List Int)) (o : List Int) : List (List Int) := (invR o).map fun p => (invR o).map fun s => o.getD (mv h p s).toNat 0
section
variable {o : List Int} {n : Nat}
theorem o_at (ho : o.Perm (rg n)) {i : Nat} (hi : i < n) : ∃ x : Nat, x < n ∧ o.getD i 0 = (x : Int) ∧ o.idxOf (x : Int) = i := by
  have ol : o.length = n := perm_len ho
  have e : o.getD i 0 = o[i]'(by omega) := by
    rw [List.getD_eq_getElem?_getD, List.getElem?_eq_getElem (by omega)]
    rfl
  have m : o.getD i 0 ∈ o := by rw [e]; exact List.getElem_mem _
  obtain ⟨x, hx, ex⟩ := nat_of (perm_in ho m)
  refine ⟨x, hx, ex, ?_⟩
  rw [← ex, e]
  have nd : o.Nodup := ho.nodup_iff.mpr (by
    unfold rg
    exact nd_map_on (fun a _ b _ e => by omega) List.nodup_range)
  exact nd.idxOf_getElem i (by omega)
theorem o_idx (ho : o.Perm (rg n)) {x : Nat} (hx : x < n) : o.idxOf (x : Int) < n ∧ o.getD (o.idxOf (x : Int)) 0 = (x : Int) := by
  have m : (x : Int) ∈ o := ho.mem_iff.mpr (rg_mem.mpr ⟨by omega, by omega⟩)
  have lt := List.idxOf_lt_length_of_mem m
  refine ⟨by rw [← perm_len ho]; exact lt, ?_⟩
  rw [List.getD_eq_getElem?_getD, List.getElem?_eq_getElem lt]
  exact List.getElem_idxOf lt
theorem inv_len (ho : o.Perm (rg n)) : (invR o).length = n := by
  unfold invR
  rw [List.length_map, List.length_range, perm_len ho]
theorem inv_getD (ho : o.Perm (rg n)) {x : Nat} (hx : x < n) : (invR o).getD x 0 = ((o.idxOf (x : Int) : Nat) : Int) := by
  unfold invR
  rw [List.getD_eq_getElem?_getD, List.getElem?_map, List.getElem?_range (by rw [perm_len ho]; exact hx)]
  rfl
/-- the move with other names -/
theorem mv_cal {h : List (List Int)} (ho : o.Perm (rg n)) {p s : Nat} (hp : p < n) (hs : s < n) : mv (calH h o) (o.getD p 0) (o.getD s 0) = o.getD (mv h (p : Int) (s : Int)).toNat 0 := by
  obtain ⟨x, hx, ex, ix⟩ := o_at ho hp
  obtain ⟨y, hy, ey, iy⟩ := o_at ho hs
  rw [ex, ey]
  show ((calH h o).getD (x : Int).toNat []).getD (y : Int).toNat 0 = _
  rw [Int.toNat_natCast, Int.toNat_natCast]
  unfold calH
  have e1 : ((invR o).map fun p => (invR o).map fun s => o.getD (mv h p s).toNat 0).getD x [] = (invR o).map fun s => o.getD (mv h (p : Int) s).toNat 0 := by
    rw [List.getD_eq_getElem?_getD, List.getElem?_map, List.getElem?_eq_getElem (by rw [inv_len ho]; exact hx)]
    have := inv_getD ho hx
    rw [ix, List.getD_eq_getElem?_getD, List.getElem?_eq_getElem (by rw [inv_len ho]; exact hx)] at this
    show List.map _ (invR o) = _
    have : (invR o)[x]'(by rw [inv_len ho]; exact hx) = (p : Int) := this
    rw [this]
  rw [e1, getD_m (by rw [inv_len ho]; exact hy), inv_getD ho hy, iy]
/-- a layout with other names -/
def phi (o a : List Int) : List Int := (invR o).map fun s => o.getD (a.getD s.toNat 0).toNat 0
theorem inv_mem (ho : o.Perm (rg n)) {s : Int} (hs : s ∈ invR o) : ∃ k : Nat, k < n ∧ s = (k : Int) := by
  unfold invR at hs
  obtain ⟨x, hx, rfl⟩ := List.mem_map.mp hs
  rw [List.mem_range, perm_len ho] at hx
  exact ⟨_, (o_idx ho hx).1, rfl⟩
theorem inv_has (ho : o.Perm (rg n)) {k : Nat} (hk : k < n) : (k : Int) ∈ invR o := by
  obtain ⟨x, hx, _, ix⟩ := o_at ho hk
  unfold invR
  exact List.mem_map.mpr ⟨x, List.mem_range.mpr (by rw [perm_len ho]; exact hx), by rw [ix]⟩
theorem at_in {a : List Int} (ha : a.Perm (rg n)) {k : Nat} (hk : k < n) : ∃ x : Nat, x < n ∧ a.getD k 0 = (x : Int) := by
  obtain ⟨x, hx, e, _⟩ := o_at ha hk
  exact ⟨x, hx, e⟩
theorem ord_cal {h : List (List Int)} (hh : Hb n h) (ho : o.Perm (rg n)) {k j : Nat} (e : lv h n (rg n) k = []) (e2 : lv (calH h o) n (rg n) j = []) : (fd (calH h o) n (rg n) j).length = (fd h n (rg n) k).length := by
  refine ord_map hh (f := phi o) (t := fun p => o.getD p.toNat 0) (fun a b ha hb eq => ?_) ?_ (fun p hp => ?_) (fun q hq => ?_) (fun p hp a ha => ?_) e e2
  · have la := perm_len ha
    have lb := perm_len hb
    refine List.ext_getElem (by omega) fun i h1 h2 => ?_
    have hi : i < n := by omega
    have mem := inv_has ho hi
    have each : ∀ s ∈ invR o, o.getD (a.getD s.toNat 0).toNat 0 = o.getD (b.getD s.toNat 0).toNat 0 := List.map_inj_left.mp eq
    have q := each _ mem
    rw [Int.toNat_natCast] at q
    obtain ⟨x, hx, ex⟩ := at_in ha hi
    obtain ⟨y, hy, ey⟩ := at_in hb hi
    rw [ex, ey, Int.toNat_natCast, Int.toNat_natCast] at q
    obtain ⟨u, _, eu, iu⟩ := o_at ho hx
    obtain ⟨v, _, ev, iv⟩ := o_at ho hy
    rw [eu, ev] at q
    have : x = y := by rw [← iu, ← iv, q]
    have e1 : a[i] = a.getD i 0 := by rw [List.getD_eq_getElem?_getD, List.getElem?_eq_getElem h1]; rfl
    have e2 : b[i] = b.getD i 0 := by rw [List.getD_eq_getElem?_getD, List.getElem?_eq_getElem h2]; rfl
    rw [e1, e2, ex, ey, this]
  · unfold phi invR rg
    rw [List.map_map, perm_len ho]
    refine List.map_congr_left fun x hx => ?_
    have hx := List.mem_range.mp hx
    have := o_idx ho hx
    show o.getD (((List.range n).map fun i : Nat => (i : Int)).getD ((o.idxOf (x : Int) : Nat) : Int).toNat 0).toNat 0 = (x : Int)
    rw [Int.toNat_natCast, show ((List.range n).map fun i : Nat => (i : Int)) = rg n from rfl, rg_getD this.1, Int.toNat_natCast, this.2]
  · obtain ⟨t, ht, rfl⟩ := nat_of (rg_mem.mp hp)
    obtain ⟨x, hx, ex, _⟩ := o_at ho ht
    show o.getD (t : Int).toNat 0 ∈ rg n
    rw [Int.toNat_natCast, ex]
    exact rg_mem.mpr ⟨by omega, by omega⟩
  · obtain ⟨t, ht, rfl⟩ := nat_of (rg_mem.mp hq)
    have := o_idx ho ht
    refine ⟨((o.idxOf (t : Int) : Nat) : Int), rg_mem.mpr ⟨by omega, by have := this.1; omega⟩, ?_⟩
    show o.getD ((o.idxOf (t : Int) : Nat) : Int).toNat 0 = (t : Int)
    rw [Int.toNat_natCast, this.2]
  · obtain ⟨t, ht, rfl⟩ := nat_of (rg_mem.mp hp)
    show stp (calH h o) (o.getD (t : Int).toNat 0) (phi o a) = phi o (stp h (t : Int) a)
    rw [Int.toNat_natCast]
    unfold phi
    unfold stp
    rw [List.map_map]
    refine List.map_congr_left fun s hs => ?_
    obtain ⟨u, hu, rfl⟩ := inv_mem ho hs
    obtain ⟨x, hx, ex⟩ := at_in ha hu
    show mv (calH h o) (o.getD t 0) (o.getD (a.getD (u : Int).toNat 0).toNat 0) = o.getD ((a.map (mv h (t : Int))).getD (u : Int).toNat 0).toNat 0
    rw [Int.toNat_natCast, getD_m (by rw [perm_len ha]; exact hu), ex, Int.toNat_natCast]
    exact mv_cal ho ht hx
end
end RH
set_option Elab.async false
set_option linter.all false
set_option maxRecDepth 100000
set_option maxHeartbeats 2000000
namespace RH
open PySem PySem.Spec PyProof.Rows L2
/-! ### defs that may raise; checks of values of many kinds -/
structure CalX (P : Program) (w : World) (K : PySem.W.Frag) (mg : Str → Option Value) (base : Heap) (k : Nat) (x : Str) (sp : Sp) : Prop where
  ex : ∃ (f : Addr) (fd : FuncData) (ps : List Str), FnOk P w K mg base (L2.CX P w) k f fd ps sp ∧ mg x = some (.ref f) ∧ PySem.W.keepIn K (.ref f) = true ∧ Binds K fd ps []
/-- an own error without an __init__ -/
structure ExO (K : PySem.W.Frag) (mg : Str → Option Value) (x : Str) (C : Addr) : Prop where
  q : PySem.W.excIn K C [.type "ValueError", .type "Exception", .type "BaseException", .type "object"] "ValueError.__new__" = true
  g : mg x = some (.ref C)
  k : PySem.W.keepIn K (.ref C) = true
  b : PySem.W.subIn K (.ref C) (.type "BaseException") = some true
  t : PySem.W.typeIn K (.ref C) = some (.type "type")
section
variable {P : Program} {w : World} {K : PySem.W.Frag} {mg : Str → Option Value} {base : Heap}
theorem mkCalX {x : Str} {st : Stmt} {N ps : List Str} {k : Nat} {sp : Sp} (F : Df K mg x st ps) (S : FnScope N ps (defScope st)) (len : ∀ vs H Q E, sp vs H Q E → vs.length = ps.length)
    (hbody : ∀ (f : Addr) (cdv : Value) (A : Around) (outer : List Env) (s : Shared) (H : Hp) (vs : List V) (Q : VK) (E : XK), Room k (A.deeper (envOfC x (defScope st) s.heap.objs.size f cdv)) → sp vs H Q E →
      ∃ t, PSs (cxOf (L2.CX P w) P w K mg base N x (defScope st) f cdv A outer s H E) (defBody st) t ∧ t { nx := fun _ H' => Q .non H', rt := Q } (start N vs) H) : CalX P w K mg base (k + 1) x sp := by
  obtain ⟨f, fd, F, g, b⟩ := F.ex
  exact ⟨f, fd, ps, F.okX S len (hbody f), g, F.kp, b⟩
end
theorem pcX {X : Cx} {k j : Nat} {x : Str} {sp : Sp} {E : XK} {p pos : Pos} {e : Expr} {es : List Expr} {t : TA} (c : CalX X.prog X.w X.K X.mg X.base k x sp) (hx : Passes (L2.CX X.prog X.w) X E) (hr : Room j X.A) (ha : PA X (e :: es) t) (hk : k ≤ j := by decide) (hg : Gl X x := by rfl)
    (hdb : (x == ("__debug__" : Str)) = false := by decide) (he : starEach (e :: es) X.env = (false, eval e X.env) :: starEach es X.env := by rfl) (hpl : (backTo pos (starEach es X.env)).any (·.1) = false := by rfl) :
    PE X (.Call (.Name x p) (e :: es) [] pos) (tCall sp [] E t) := by
  obtain ⟨f, fd, ps, F, hm, kp, b⟩ := c.ex
  exact pe_call F (hr.mono hk) hg hm kp b .nil hx ha hdb he hpl
/-- a value of any kind -/
inductive Sw (K : PySem.W.Frag) (H : Hp) : V → Prop
  | int (i : Int) : Sw K H (.int i)
  | bl (b : Bool) : Sw K H (.bl b)
  | non : Sw K H .non
  | str (s : Str) : Sw K H (.str s)
  | tup {a : Addr} {xs : List V} : SqT K H a xs → Sw K H (.ref a)
  | lst {a : Addr} {xs : List V} : SqL K H a xs → Sw K H (.ref a)
def isI : V → Bool
  | .int _ => true
  | _ => false
def inV2 (lo hi : Int) : V → Bool
  | .int i => decide (lo ≤ i) && decide (i ≤ hi)
  | _ => false
theorem few_log {n : Nat} (h : n ≤ 5) : ((n : Nat) : Int).natAbs.log2 < 1920 := by
  have : n = 0 ∨ n = 1 ∨ n = 2 ∨ n = 3 ∨ n = 4 ∨ n = 5 := by omega
  rcases this with rfl | rfl | rfl | rfl | rfl | rfl <;> decide +kernel
section
variable {P : Program} {w : World} {K : PySem.W.Frag} {mg : Str → Option Value} {base : Heap}
theorem Sw.on {H H' : Hp} {v : V} (e : Same H H') (h : Sw K H v) : Sw K H' v := by
  cases h with
  | int i => exact .int i
  | bl b => exact .bl b
  | non => exact .non
  | str s => exact .str s
  | tup h => exact .tup (onT e h)
  | lst h => exact .lst (e.seq h)
def spIsIntegerW (K : PySem.W.Frag) : Sp := fun vs H Q _ => ∃ v, vs = [v] ∧ Sw K H v ∧ Q (.bl (isI v)) H
theorem ok_is_integerW (F : Df K mg "is_integer" st_is_integer ["value"]) (B : Bu mg) : Cal P w K mg base 1 "is_integer" (spIsIntegerW K) := by
  refine mkCal F sc_is_integer (fun vs H Q E h => ?_) (fun f cdv A outer s H vs Q E hr h => ?_)
  · obtain ⟨v, rfl, _⟩ := h
    rfl
  · obtain ⟨v, rfl, hv, q⟩ := h
    refine ⟨_, pss_one (ps_ret (pe_and (pe_callB call_isi (by rfl) B.isi (by decide +kernel) (pa_cons (pv 0) (pa_cons (pe_bltn (v := .ty "int") (by rfl) B.int (by decide +kernel) rfl) pa_nil)))
      (pe_one (pe_not (pe_callB call_isi (by rfl) B.isi (by decide +kernel) (pa_cons (pv 0) (pa_cons (pe_bltn (v := .ty "bool") (by rfl) B.bool (by decide +kernel) rfl) pa_nil))))))), ?_⟩
    cases hv with
    | int i => exact ⟨_, rfl, .int i, .ty "int", _, _, true, rfl, .ty "int", .base (.int i), kit_ty (by decide +kernel), true, rfl, _, rfl, .int i, .ty "bool", _, _, false, rfl, .ty "bool", .base (.int i), kit_ty (by decide +kernel), false, rfl, q⟩
    | bl b => exact ⟨_, rfl, .bl b, .ty "int", _, _, true, rfl, .ty "int", .base (.bl b), kit_ty (by decide +kernel), true, rfl, _, rfl, .bl b, .ty "bool", _, _, true, rfl, .ty "bool", .base (.bl b), kit_ty (by decide +kernel), true, rfl, q⟩
    | non => exact ⟨_, rfl, .non, .ty "int", _, _, false, rfl, .ty "int", .base .non, kit_ty (by decide +kernel), false, rfl, q⟩
    | str z => exact ⟨_, rfl, .str z, .ty "int", _, _, false, rfl, .ty "int", .base (.str z), kit_ty (by decide +kernel), false, rfl, q⟩
    | @tup a xs h => exact ⟨_, rfl, .ref a, .ty "int", _, _, false, rfl, .ty "int", ty_tup h, kit_ty (by decide +kernel), false, rfl, q⟩
    | @lst a xs h => exact ⟨_, rfl, .ref a, .ty "int", _, _, false, rfl, .ty "int", ty_lst h, kit_ty (by decide +kernel), false, rfl, q⟩
def spIsNumberW (K : PySem.W.Frag) : Sp := fun vs H Q _ => ∃ (v : V) (lo hi : Int), vs = [v, .int lo, .int hi] ∧ Sw K H v ∧ Q (.bl (inV2 lo hi v)) H
theorem inV2_no {lo hi : Int} {v : V} (h : isI v = false) : inV2 lo hi v = false := by
  cases v <;> first | rfl | (cases h)
theorem isI_yes {v : V} (h : isI v = true) : ∃ i, v = .int i := by
  cases v <;> first | exact ⟨_, rfl⟩ | (cases h)
theorem ok_is_numberW (F : Df K mg "is_number" st_is_number ["value", "low", "high"]) (C1 : Cal P w K mg base 1 "is_integer" (spIsIntegerW K)) : Cal P w K mg base 2 "is_number" (spIsNumberW K) := by
  refine mkCal F sc_is_number (fun vs H Q E h => ?_) (fun f cdv A outer s H vs Q E hr h => ?_)
  · obtain ⟨v, lo, hi, rfl, _⟩ := h
    rfl
  · obtain ⟨v, lo, hi, rfl, hv, q⟩ := h
    refine ⟨_, pss_one (ps_ret (pe_and (pc C1 hr (pa_cons (pv 0) pa_nil)) (pe_one (pe_chain op_le op_le (pv 1) (pv 0) (pv 2))))), ?_⟩
    refine ⟨_, rfl, v, rfl, hv, ?_⟩
    cases ei : isI v with
    | true =>
      obtain ⟨i, rfl⟩ := isI_yes ei
      refine ⟨true, rfl, _, rfl, _, rfl, lo, i, rfl, rfl, _, rfl, ite2 (fun e => ?_) (fun e => ?_)⟩
      · refine ⟨_, rfl, i, hi, rfl, rfl, ?_⟩
        have q : Q (.bl (decide (lo ≤ i) && decide (i ≤ hi))) H := q
        rw [e, Bool.true_and] at q
        exact q
      · have e' : decide (lo ≤ i) = false := by simpa using e
        have q : Q (.bl (decide (lo ≤ i) && decide (i ≤ hi))) H := q
        rw [e', Bool.false_and] at q
        exact q
    | false =>
      rw [inV2_no ei] at q
      exact ⟨false, rfl, q⟩
def spIsPlaceW (K : PySem.W.Frag) : Sp := fun vs H Q _ => ∃ (v : V) (p : Int), vs = [v, .int p] ∧ Sw K H v ∧ Q (.bl (inV2 0 (p - 1) v)) H
theorem ok_is_placeW (F : Df K mg "is_place" st_is_place ["value", "places"]) (C2 : Cal P w K mg base 2 "is_number" (spIsNumberW K)) : Cal P w K mg base 3 "is_place" (spIsPlaceW K) := by
  refine mkCal F sc_is_place (fun vs H Q E h => ?_) (fun f cdv A outer s H vs Q E hr h => ?_)
  · obtain ⟨v, p, rfl, _⟩ := h
    rfl
  · obtain ⟨v, p, rfl, hv, q⟩ := h
    refine ⟨_, pss_one (ps_ret (pc C2 hr (pa_cons (pv 0) (pa_cons pe_int (pa_cons (pe_op op_sub (pv 1) pe_int) pa_nil))))), ?_⟩
    exact ⟨_, rfl, _, rfl, p, 1, rfl, rfl, v, 0, p - 1, rfl, hv, q⟩
end
end RH
set_option Elab.async false
set_option linter.all false
set_option maxRecDepth 100000
set_option maxHeartbeats 2000000
namespace RH
open PySem PySem.Spec PyProof.Rows L2
open NdefX (NScope NF CellsAt startF ncx envF)
/-! ### errors that keep something -/
/-- a class of errors that can be made -/
structure BhX (P : Program) (w : World) (K : PySem.W.Frag) (mg : Str → Option Value) (base : Heap) (cls fld : Str) (C : Addr) (sp : Sp) : Prop where
  t : OexC K C
  g : mg cls = some (.ref C)
  f : ∃ (f : Addr) (fd : FuncData), FnOk P w K mg base CX0 1 f fd ["self", fld] sp ∧ PySem.W.findIn K (.ref C) "__init__" = some (some (.ref f)) ∧ PySem.W.typeIn K (.ref f) = some (.type "function") ∧ Binds K fd ["self", fld] []
/-- what an error keeps: none, or a small number -/
def plV (v : V) : Prop := v = .non ∨ ∃ i : Nat, i < 16 ∧ v = .int (i : Int)
def spBI (fld : Str) (C : Addr) : Sp := fun vs H Q _ => ∃ (a : Addr) (v : V), vs = [.ref a, v] ∧ plV v ∧ H a = some (exo a C none) ∧ ∀ d, H d = none → d ≠ a → Q .non (upd (upd H d (exd d [(fld, v)])) a (exo a C (some d)))
theorem few_of {i : Nat} (h : i < 16) : i = 0 ∨ i = 1 ∨ i = 2 ∨ i = 3 ∨ i = 4 ∨ i = 5 ∨ i = 6 ∨ i = 7 ∨ i = 8 ∨ i = 9 ∨ i = 10 ∨ i = 11 ∨ i = 12 ∨ i = 13 ∨ i = 14 ∨ i = 15 := by omega
theorem fmt_few {i : Nat} (h : i < 16) : ((i : Nat) : Int).natAbs.log2 < 1920 := by
  rcases few_of h with rfl | rfl | rfl | rfl | rfl | rfl | rfl | rfl | rfl | rfl | rfl | rfl | rfl | rfl | rfl | rfl <;> decide +kernel
/-- an error that keeps pl comes -/
def bhE (C : Addr) (fn : Str) (pl : V) (H : Hp) (E : XK) : Prop := ∀ d H', Same H H' → H' d = some (.xd [(fn, pl)]) → E (.ref C) (some d) H'
/-- an error without more comes -/
def noE (C : Addr) (H : Hp) (E : XK) : Prop := ∀ H', Same H H' → E (.ref C) none H'
theorem bhE.on {C : Addr} {fn : Str} {pl : V} {H H' : Hp} {E : XK} (h : bhE C fn pl H E) (s : Same H H') : bhE C fn pl H' E := fun d H2 s2 => h d H2 (s.trans s2)
theorem noE.on {C : Addr} {H H' : Hp} {E : XK} (h : noE C H E) (s : Same H H') : noE C H' E := fun H2 s2 => h H2 (s.trans s2)
section
variable {P : Program} {w : World} {K : PySem.W.Frag} {mg : Str → Option Value} {base : Heap}
theorem ok_BadHabit {C f cc cda : Addr} {fd : FuncData} (M : SupC P K mg C "BadHabit.__init__" st_e_BadHabit f fd cc cda) (hno : PySem.W.findIn K (.ref C) "place" = some none) : FnOk P w K mg base CX0 1 f fd ["self", "place"] (spBI "place" C) := by
  refine fn_super (self := "self") M sc_e_BadHabit rfl rfl rfl (by decide +kernel) rfl (fun vs H Q E h => ?_) (fun A outer s H vs Q E hr h => ?_)
  · obtain ⟨a, v, rfl, _⟩ := h
    rfl
  · obtain ⟨a, v, rfl, hv, ha, q⟩ := h
    refine ⟨a, _, _, rfl, ha, pa_cons (pe_joined (.cons pe_str (.cons (pe_fmtN (pv 1)) .nil))) pa_nil, pss_one (ps_ost (pv 0) (pv 1)), ?_⟩
    have go : ∀ H1, H1 = H → ([V.str "x"] : List V).length ≤ 1000 ∧ H1 a = some (exo a C none) ∧ tOst K "place" (tVar 0) (tVar 1) { nx := fun _ H' => Q .non H', rt := Q } [some (.ref a), some v, some (.ref C)] H1 := fun H1 e => by
      subst e
      exact ⟨by decide, ha, _, rfl, _, rfl, a, C, rfl, M.t, hno, .inl ⟨ha, fun dx n ne => q dx n ne⟩⟩
    rcases hv with rfl | ⟨i, hi, rfl⟩
    · refine ⟨_, rfl, ?_, _, rfl, .inl ⟨rfl, _, rfl, ?_, go _ rfl⟩⟩
      · rw [sizeLine_eq]; decide +kernel
      · rw [sizeLine_eq]; decide +kernel
    · refine ⟨_, rfl, ?_, _, rfl, .inr ⟨(i : Int), rfl, fmt_few hi, _, rfl, ?_, go _ rfl⟩⟩
      · rw [sizeLine_eq]; decide +kernel
      · rw [sizeLine_eq]
        rcases few_of hi with rfl | rfl | rfl | rfl | rfl | rfl | rfl | rfl | rfl | rfl | rfl | rfl | rfl | rfl | rfl | rfl <;> decide +kernel
/-- the error is made: its dict stands at d -/
theorem bh_made {C : Addr} {fn : Str} {v : V} {H1 : Hp} {Q : XK} (hv : plV v) (q : ∀ d, H1 d = none → Q (.ref C) (some d) (upd H1 d (.xd [(fn, v)]))) :
    ([v] : List V).length ≤ 1000 ∧ ∀ a, H1 a = none → spBI fn C (.ref a :: ([v] ++ [])) (upd H1 a (exo a C none)) (fun u H2 => u = .non ∧ ∃ (d : Addr) (fs : List (Str × V)), H2 a = some (exo a C (some d)) ∧ H2 d = some (exd d fs) ∧ H1 d = none ∧ Q (.ref C) (some d) (upd (del H2 a) d (.xd fs))) (fun _ _ _ => False) := by
  refine ⟨by show 1 ≤ 1000; decide, fun a ha => ⟨a, v, rfl, hv, upd_same, fun d hd ne => ⟨rfl, d, [(fn, v)], upd_same, ?_, ?_, ?_⟩⟩⟩
  · rw [upd_ne ne, upd_same]
  · rw [upd_ne ne] at hd
    exact hd
  · have hd' : H1 d = none := by
      rw [upd_ne ne] at hd
      exact hd
    have e : upd (del (upd (upd (upd H1 a (exo a C none)) d (exd d [(fn, v)])) a (exo a C (some d))) a) d (.xd [(fn, v)]) = upd H1 d (.xd [(fn, v)]) := by
      funext b
      by_cases hb : b = d
      · rw [hb, upd_same, upd_same]
      · rw [upd_ne hb, upd_ne hb]
        by_cases hba : b = a
        · rw [hba, del_same, ha]
        · rw [del_ne hba, upd_ne hba, upd_ne hb, upd_ne hba]
    rw [e]
    exact q d hd'
end
end RH
set_option Elab.async false
set_option linter.all false
set_option maxRecDepth 100000
set_option maxHeartbeats 2000000
namespace RH
open PySem PySem.Spec PyProof.Rows L2
/-! ### the checks, for values of whatever kind -/
/-- a value: a tuple of values, or what is none -/
inductive Tk (K : PySem.W.Frag) (H : Hp) : V → Option (List V) → Prop
  | tup {a : Addr} {xs : List V} : SqT K H a xs → Tk K H (.ref a) (some xs)
  | lst {a : Addr} {xs : List V} : SqL K H a xs → Tk K H (.ref a) none
  | dct {a : Addr} {kvs : List (L2.Key × V)} : H a = some (.dK kvs) → Tk K H (.ref a) none
  | int (i : Int) : Tk K H (.int i) none
  | bl (b : Bool) : Tk K H (.bl b) none
  | non : Tk K H .non none
  | str (z : Str) : Tk K H (.str z) none
theorem Tk.on {K : PySem.W.Frag} {H H' : Hp} (e : Same H H') {v : V} {wo : Option (List V)} (h : Tk K H v wo) : Tk K H' v wo := by
  cases h with
  | tup h => exact .tup (onT e h)
  | lst h => exact .lst (e.seq h)
  | dct h => exact .dct (e _ _ h)
  | int i => exact .int i
  | bl b => exact .bl b
  | non => exact .non
  | str z => exact .str z
/-- .. of values -/
structure Wd (K : PySem.W.Frag) (H : Hp) (v : V) (wo : Option (List V)) : Prop where
  t : Tk K H v wo
  s : ∀ xs, wo = some xs → ∀ x ∈ xs, Sw K H x
  l : ∀ xs, wo = some xs → xs.length < 64
theorem Wd.on {K : PySem.W.Frag} {H H' : Hp} (e : Same H H') {v : V} {wo : Option (List V)} (h : Wd K H v wo) : Wd K H' v wo := ⟨h.t.on e, fun xs z x hm => (h.s xs z x hm).on e, h.l⟩
def rowW (lo hi : Int) : Option (List V) → Bool
  | some xs => decide (lo ≤ (xs.length : Int)) && decide ((xs.length : Int) ≤ hi)
  | none => false
def plsW (p : Int) : Option (List V) → Bool
  | some xs => xs.all (inV2 0 (p - 1))
  | none => false
theorem inV2_yes0 {n : Nat} {i : Int} (h0 : 0 ≤ i) (h1 : i < n) : inV2 0 ((n : Int) - 1) (.int i) = true := by
  show (decide (0 ≤ i) && decide (i ≤ (n : Int) - 1)) = true
  rw [decide_eq_true h0, decide_eq_true (by omega)]
  rfl
theorem inV2_get {n : Nat} {v : V} (h : inV2 0 ((n : Int) - 1) v = true) : ∃ i, v = .int i ∧ 0 ≤ i ∧ i < n := by
  cases v <;> first | (cases h; done) | skip
  rename_i i
  have h : (decide (0 ≤ i) && decide (i ≤ (n : Int) - 1)) = true := h
  rw [Bool.and_eq_true, decide_eq_true_iff, decide_eq_true_iff] at h
  exact ⟨i, rfl, h.1, by omega⟩
/-- places all: numbers all -/
theorem all_ints {n : Nat} : ∀ {xs : List V}, (xs.all (inV2 0 ((n : Int) - 1))) = true → ∃ ns : List Int, xs = ns.map V.int ∧ inP n ns = true
  | [], _ => ⟨[], rfl, rfl⟩
  | x :: xs, h => by
    rw [List.all_cons, Bool.and_eq_true] at h
    obtain ⟨i, rfl, h0, h1⟩ := inV2_get h.1
    obtain ⟨ns, rfl, e⟩ := all_ints h.2
    refine ⟨i :: ns, rfl, ?_⟩
    unfold inP at e ⊢
    rw [List.all_cons, e, decide_eq_true h0, decide_eq_true (by omega)]
    rfl
def valI : V → Int
  | .int i => i
  | _ => -1
/-- is it a layout? -/
def layW (n : Nat) : Option (List V) → Bool
  | some xs => xs.all (inV2 0 ((n : Int) - 1)) && isLay n (xs.map valI)
  | none => false
section
variable {P : Program} {w : World} {K : PySem.W.Frag} {mg : Str → Option Value} {base : Heap}
def spIsRowW (K : PySem.W.Frag) : Sp := fun vs H Q _ => ∃ (v : V) (wo : Option (List V)) (lo hi : Int), vs = [v, .int lo, .int hi] ∧ Tk K H v wo ∧ Q (.bl (rowW lo hi wo)) H
theorem ok_is_rowW (F : Df K mg "is_row" st_is_row ["value", "low", "high"]) (B : Bu mg) : Cal P w K mg base 1 "is_row" (spIsRowW K) := by
  refine mkCal F sc_is_row (fun vs H Q E h => ?_) (fun f cdv A outer s H vs Q E hr h => ?_)
  · obtain ⟨v, ro, lo, hi, rfl, _⟩ := h
    rfl
  · obtain ⟨v, ro, lo, hi, rfl, hk, q⟩ := h
    refine ⟨_, pss_one (ps_ret (pe_and (pe_callB call_isi (by rfl) B.isi (by decide +kernel) (pa_cons (pv 0) (pa_cons (pe_bltn (v := .ty "tuple") (by rfl) B.tuple (by decide +kernel) rfl) pa_nil)))
      (pe_one (pe_chain op_le op_le (pv 1) (pe_callB call_len_seq (by rfl) B.len PySem.boot_len (pa_cons (pv 0) pa_nil)) (pv 2))))), ?_⟩
    cases hk with
    | int i => exact ⟨_, rfl, .int i, .ty "tuple", _, _, false, rfl, .ty "tuple", .base (.int i), kit_ty (by decide +kernel), false, rfl, q⟩
    | bl b => exact ⟨_, rfl, .bl b, .ty "tuple", _, _, false, rfl, .ty "tuple", .base (.bl b), kit_ty (by decide +kernel), false, rfl, q⟩
    | non => exact ⟨_, rfl, .non, .ty "tuple", _, _, false, rfl, .ty "tuple", .base .non, kit_ty (by decide +kernel), false, rfl, q⟩
    | str z => exact ⟨_, rfl, .str z, .ty "tuple", _, _, false, rfl, .ty "tuple", .base (.str z), kit_ty (by decide +kernel), false, rfl, q⟩
    | @lst a xs hS => exact ⟨_, rfl, .ref a, .ty "tuple", _, _, false, rfl, .ty "tuple", ty_lst hS, kit_ty (by decide +kernel), false, rfl, q⟩
    | @dct a kvs e => exact ⟨_, rfl, .ref a, .ty "tuple", _, _, false, rfl, .ty "tuple", .base (.dK e), kit_ty (by decide +kernel), false, rfl, q⟩
    | @tup a xs hS =>
      refine ⟨_, rfl, .ref a, .ty "tuple", _, _, true, rfl, .ty "tuple", ty_tup hS, kit_ty (by decide +kernel), true, rfl, _, rfl, _, rfl, a, xs, rfl, .inr hS, lo, (xs.length : Int), rfl, rfl, _, rfl, ite2 (fun e => ?_) (fun e => ?_)⟩
      · refine ⟨_, rfl, _, hi, rfl, rfl, ?_⟩
        have q : Q (.bl (decide (lo ≤ (xs.length : Int)) && decide ((xs.length : Int) ≤ hi))) H := q
        rw [e, Bool.true_and] at q
        exact q
      · have e' : decide (lo ≤ (xs.length : Int)) = false := by simpa using e
        have q : Q (.bl (decide (lo ≤ (xs.length : Int)) && decide ((xs.length : Int) ≤ hi))) H := q
        rw [e', Bool.false_and] at q
        exact q
def spArePlacesW (K : PySem.W.Frag) : Sp := fun vs H Q _ => ∃ (v : V) (wo : Option (List V)) (p : Int), vs = [v, .int p] ∧ Wd K H v wo ∧ ∀ H', Same H H' → Q (.bl (plsW p wo)) H'
theorem ok_are_placesW (F : Df K mg "are_places" st_are_places ["value", "places"]) (B : Bu mg) (C3 : Cal P w K mg base 3 "is_place" (spIsPlaceW K)) : Cal P w K mg base 4 "are_places" (spArePlacesW K) := by
  refine mkCal F sc_are_places (fun vs H Q E h => ?_) (fun f cdv A outer s H vs Q E hr h => ?_)
  · obtain ⟨v, wo, p, rfl, _⟩ := h
    rfl
  · obtain ⟨v, wo, p, rfl, hw, q⟩ := h
    refine ⟨_, pss_one (ps_ret (pe_and (pe_callB call_isi (by rfl) B.isi (by decide +kernel) (pa_cons (pv 0) (pa_cons (pe_bltn (v := .ty "tuple") (by rfl) B.tuple (by decide +kernel) rfl) pa_nil)))
      (pe_one (pe_callB (cr_all rfl) (by rfl) B.all (by decide +kernel) (pa_cons (pe_lc (own := [("place", 2)]) (g := gName 2) (tt := tYes) rfl sc_are_places.nd (pi_tup (pv 0)) (blkOk_by (N := ["value", "places", "place"]) (sc := defScope st_are_places) (by decide +kernel))
        (fun _ _ _ _ _ => pg_name (i := 2) sc_are_places.nd rfl (Or.inl rfl)) (fun _ _ _ _ _ => pts_nil) (fun _ _ _ _ _ => pc C3 hr (pa_cons (pv 2) (pa_cons (pv 1) pa_nil)))) pa_nil))))), ?_⟩
    obtain ⟨ht, hsw, hlen⟩ := hw
    cases ht with
    | int i => exact ⟨_, rfl, .int i, .ty "tuple", _, _, false, rfl, .ty "tuple", .base (.int i), kit_ty (by decide +kernel), false, rfl, q H (Same.refl H)⟩
    | bl b => exact ⟨_, rfl, .bl b, .ty "tuple", _, _, false, rfl, .ty "tuple", .base (.bl b), kit_ty (by decide +kernel), false, rfl, q H (Same.refl H)⟩
    | non => exact ⟨_, rfl, .non, .ty "tuple", _, _, false, rfl, .ty "tuple", .base .non, kit_ty (by decide +kernel), false, rfl, q H (Same.refl H)⟩
    | str z => exact ⟨_, rfl, .str z, .ty "tuple", _, _, false, rfl, .ty "tuple", .base (.str z), kit_ty (by decide +kernel), false, rfl, q H (Same.refl H)⟩
    | @lst a xs hS => exact ⟨_, rfl, .ref a, .ty "tuple", _, _, false, rfl, .ty "tuple", ty_lst hS, kit_ty (by decide +kernel), false, rfl, q H (Same.refl H)⟩
    | @dct a kvs e => exact ⟨_, rfl, .ref a, .ty "tuple", _, _, false, rfl, .ty "tuple", .base (.dK e), kit_ty (by decide +kernel), false, rfl, q H (Same.refl H)⟩
    | @tup a xs hS =>
      have hl := hlen xs rfl
      have hx := hsw xs rfl
      refine ⟨_, rfl, .ref a, .ty "tuple", _, _, true, rfl, .ty "tuple", ty_tup hS, kit_ty (by decide +kernel), true, rfl, ?_⟩
      refine ⟨_, rfl, a, rfl, ⟨_, hS⟩, fun D hD => ?_⟩
      refine lc_tup (xs := xs) (fun i H' => Same H H' ∧ H' D = some (.lst (((xs.take i).map (inV2 0 (p - 1))).map V.bl))) ⟨same_new hD, upd_same⟩ (fun i H' _ h' => onT h'.1 hS) (fun i x H' hi h' => ?_) (fun H' h' => ?_)
      · obtain ⟨sm, eD⟩ := h'
        refine ⟨rfl, _, rfl, _, rfl, x, p, rfl, (hx x (List.mem_of_getElem? hi)).on sm, _, eD, ?_, ?_, ?_⟩
        · rw [List.length_map, List.length_map, List.length_take]
          exact small1000 (by omega)
        · intro b o e
          rw [upd_ne (ne_of_none e hD)]
          exact sm b o e
        · rw [upd_same, all_snoc _ hi, List.map_append]
          rfl
      · obtain ⟨sm, eD⟩ := h'
        rw [List.take_length] at eD
        refine ⟨D, _, rfl, lstAt eD, ?_⟩
        have e : ((xs.map (inV2 0 (p - 1))).all id) = plsW p (some xs) := by
          rw [List.all_map]
          rfl
        rw [e]
        exact q H' sm
def spIsLayoutW (K : PySem.W.Frag) : Sp := fun vs H Q _ => ∃ (v : V) (wo : Option (List V)) (p : Nat), vs = [v, .int p] ∧ Wd K H v wo ∧ p ≤ 1000 ∧ ∀ H', Same H H' → Q (.bl (layW p wo)) H'
theorem ok_is_layoutW (F : Df K mg "is_layout" st_is_layout ["value", "places"]) (B : Bu mg) (C4 : Cal P w K mg base 4 "are_places" (spArePlacesW K)) : Cal P w K mg base 5 "is_layout" (spIsLayoutW K) := by
  refine mkCal F sc_is_layout (fun vs H Q E h => ?_) (fun f cdv A outer s H vs Q E hr h => ?_)
  · obtain ⟨v, wo, p, rfl, _⟩ := h
    rfl
  · obtain ⟨v, wo, p, rfl, hw, hp, q⟩ := h
    refine ⟨_, pss_one (ps_ret (pe_and (pc C4 hr (pa_cons (pv 0) (pa_cons (pv 1) pa_nil)))
      (pe_one (pe_cmpR (op_eqD hr.units) (pe_callB cr_sortedTup (by rfl) B.sorted (by decide +kernel) (pa_cons (pv 0) pa_nil)) (pe_listRg rfl (by rfl) B.list (prg_1 (by rfl) B.range (pv 1))) (nomark _))))), ?_⟩
    refine ⟨_, rfl, _, rfl, v, wo, p, rfl, hw, fun H1 sm1 => ⟨_, rfl, ite2 (fun e => ?_) (fun e => ?_)⟩⟩
    · obtain ⟨ht, hsw, hlen⟩ := hw
      cases ht with
      | @tup a xs hS =>
        obtain ⟨ns, rfl, hin⟩ := all_ints (n := p) e
        have hl : ns.length < 64 := by
          have := hlen _ rfl
          rwa [List.length_map] at this
        refine ⟨_, rfl, a, ns, rfl, onT sm1 hS, hl, fun ns' pL hpm hpw nL => ⟨_, rfl, (p : Int), rfl, ⟨by omega, by omega, by omega, by omega, by omega⟩, fun q' nq => ?_⟩⟩
        have nqp : pL ≠ q' := ne_of_none upd_same nq
        refine ⟨_, _, dp_lst (ns := ns') (lstAt ?_), dp_lst (ns := rg p) (lstAt ?_), PySem.W.ke_shaped_ints _, PySem.W.ke_shaped_ints _, ?_⟩
        · rw [upd_ne nqp, upd_same]
        · rw [upd_same, rgV_rg]
        · have em : ((ns.map V.int).map valI) = ns := by
            rw [List.map_map]
            exact List.map_id' ns
          have e2 : PyData.eqv (.list (ns'.map PyData.int)) (.list ((rg p).map PyData.int)) = layW p (some (ns.map V.int)) := by
            have e3 : layW p (some (ns.map V.int)) = isLay p ns := by
              have e : ((ns.map V.int).all (inV2 0 ((p : Int) - 1))) = true := e
              show ((ns.map V.int).all (inV2 0 ((p : Int) - 1)) && isLay p ((ns.map V.int).map valI)) = isLay p ns
              rw [e, Bool.true_and, em]
            rw [e3, eqv_lst, Bool.eq_iff_iff, decide_eq_true_iff]
            unfold isLay
            rw [List.isPerm_iff]
            constructor
            · intro z
              rw [← z]
              exact hpm.symm
            · intro z
              exact PySem.W.ksm_same (hpm.trans z) hpw (rg_le p)
          rw [e2]
          exact q _ (sm1.trans (Same.trans (same_new nL) (same_new nq)))
      | _ => cases e
    · have e2 : layW p wo = false := by
        cases wo with
        | none => rfl
        | some xs =>
          have e' : (xs.all (inV2 0 ((p : Int) - 1))) = false := by
            have e3 : ¬ (xs.all (inV2 0 ((p : Int) - 1))) = true := e
            simpa using e3
          show (xs.all (inV2 0 ((p : Int) - 1)) && isLay p (xs.map valI)) = false
          rw [e', Bool.false_and]
      have q := q H1 sm1
      rw [e2] at q
      exact q
end
end RH
set_option Elab.async false
set_option linter.all false
set_option maxRecDepth 100000
set_option maxHeartbeats 2000000
namespace RH
open PySem PySem.Spec PyProof.Rows L2
/-! ### the checks that raise -/
/-- a habit, or what is none: of each row what it is -/
inductive Hk (K : PySem.W.Frag) (H : Hp) : V → Option (List (Option (List V))) → Prop
  | tup {a : Addr} {xs : List V} {wos : List (Option (List V))} : SqT K H a xs → Each (Wd K H) xs wos → Hk K H (.ref a) (some wos)
  | no {v : V} : Tk K H v none → Hk K H v none
theorem Hk.on {K : PySem.W.Frag} {H H' : Hp} (e : Same H H') {v : V} {ho : Option (List (Option (List V)))} (h : Hk K H v ho) : Hk K H' v ho := by
  cases h with
  | tup h hx => exact .tup (onT e h) (hx.imp fun v d z => z.on e)
  | no h => exact .no (h.on e)
/-- the place that BadHabit tells, if it is none -/
def hbBad : Option (List (Option (List V))) → Option V
  | none => some .non
  | some wos => if (decide (2 ≤ wos.length) && decide (wos.length ≤ 5)) = true then (wos.findIdx? fun wo => !layW wos.length wo).map (fun i => V.int (i : Nat)) else some .non
theorem hbBad_pl {ho : Option (List (Option (List V)))} {pl : V} (h : hbBad ho = some pl) : plV pl := by
  cases ho with
  | none => exact .inl (Option.some.inj h).symm
  | some wos =>
    unfold hbBad at h
    dsimp only at h
    split at h
    · rename_i hc
      rw [Bool.and_eq_true, decide_eq_true_iff, decide_eq_true_iff] at hc
      obtain ⟨i, hi, e⟩ := Option.map_eq_some_iff.mp h
      have := (List.findIdx?_eq_some_iff_getElem.mp hi).1
      exact .inr ⟨i, by omega, e.symm⟩
    · exact .inl (Option.some.inj h).symm
theorem few_cast (n : Nat) : (decide ((2 : Int) ≤ (n : Int)) && decide ((n : Int) ≤ 5)) = (decide (2 ≤ n) && decide (n ≤ 5)) := by
  rw [Bool.eq_iff_iff]
  simp only [Bool.and_eq_true, decide_eq_true_iff]
  omega
section
variable {P : Program} {w : World} {K : PySem.W.Frag} {mg : Str → Option Value} {base : Heap}
def spCheckHabitX (K : PySem.W.Frag) (C : Addr) : Sp := fun vs H Q E => ∃ (v : V) (ho : Option (List (Option (List V)))), vs = [v] ∧ Hk K H v ho ∧ (hbBad ho = none → ∀ H', Same H H' → Q .non H') ∧ (∀ pl, hbBad ho = some pl → bhE C "place" pl H E)
theorem ok_check_habitX {C : Addr} (F : Df K mg "check_habit" st_check_habit ["habit"]) (B : Bu mg) (c2 : ∃ t, mg "FEWEST_PLACES" = some (.int 2 t)) (c5 : ∃ t, mg "MOST_PLACES" = some (.int 5 t)) (T : BhX P w K mg base "BadHabit" "place" C (spBI "place" C))
    (C1 : Cal P w K mg base 1 "is_row" (spIsRowW K)) (C5 : Cal P w K mg base 5 "is_layout" (spIsLayoutW K)) : CalX P w K mg base 6 "check_habit" (spCheckHabitX K C) := by
  refine mkCalX F sc_check_habit (fun vs H Q E h => ?_) (fun f cdv A outer s H vs Q E hr h => ?_)
  · obtain ⟨v, ho, rfl, _⟩ := h
    rfl
  · obtain ⟨v, ho, rfl, hk, q1, q2⟩ := h
    obtain ⟨fI, fdI, FI, iC, tI, bI⟩ := T.f
    refine ⟨_, pss_cons (ps_if (pt_not (pt_val (pc C1 hr (pa_cons (pv 0) (pa_cons (pk c2) (pa_cons (pk c5) pa_nil)))))) (pss_one (ps_raise rfl takesE (pmk_oex T.t iC tI FI (hr.mono (by decide)) bI .nil pass0 rfl T.g (pa_cons pe_non pa_nil)))) pss_nil)
      (pss_one (ps_for (passes_of rfl) rfl (pi_enumT (by rfl) B.enumerate (pa_cons (pv 0) pa_nil)) (pg_tup rfl (pgs_cons (pg_name (i := 1) sc_check_habit.nd rfl (.inl rfl)) (pgs_cons (pg_name (i := 2) sc_check_habit.nd rfl (.inl rfl)) pgs_nil)))
        (pss_one (ps_if (pt_not (pt_val (pc C5 hr (pa_cons (pv 2) (pa_cons (pe_callB (cl_len K) (by rfl) B.len PySem.boot_len (pa_cons (pv 0) pa_nil)) pa_nil))))) (pss_one (ps_raise rfl takesE (pmk_oex T.t iC tI FI (hr.mono (by decide)) bI .nil pass0 rfl T.g (pa_cons (pv 1) pa_nil)))) pss_nil)))), ?_⟩
    have none_ : ∀ {H1 : Hp}, Same H H1 → hbBad ho = some .non → ∀ d, H1 d = none → E (.ref C) (some d) (upd H1 d (.xd [("place", .non)])) := fun {H1} s1 e d hd => q2 _ e d _ (s1.trans (same_new hd)) upd_same
    cases hk with
    | @no v ht => exact ⟨_, rfl, v, none, 2, 5, rfl, ht, _, rfl, ifT rfl (bh_made (.inl rfl) (none_ (Same.refl H) rfl))⟩
    | @tup a xs wos hS hE =>
      have hlen := hE.len
      refine ⟨_, rfl, .ref a, some xs, 2, 5, rfl, .tup hS, _, rfl, ?_⟩
      cases hc : (decide (2 ≤ wos.length) && decide (wos.length ≤ 5)) with
      | false =>
        refine ifT ?_ (bh_made (.inl rfl) (none_ (Same.refl H) ?_))
        · show (!(decide ((2 : Int) ≤ (xs.length : Int)) && decide ((xs.length : Int) ≤ 5))) = true
          rw [hlen, few_cast, hc]
          rfl
        · unfold hbBad
          dsimp only
          rw [hc]
          rfl
      | true =>
        have hc' := hc
        rw [Bool.and_eq_true, decide_eq_true_iff, decide_eq_true_iff] at hc'
        refine ifF ?_ ?_
        · show (!(decide ((2 : Int) ≤ (xs.length : Int)) && decide ((xs.length : Int) ≤ 5))) = false
          rw [hlen, decide_eq_true (by omega), decide_eq_true (by omega)]
          rfl
        refine ⟨_, rfl, a, xs, rfl, hS, ?_⟩
        refine for_enumT (xs := xs) (fun i σ H' => Same H H' ∧ (∀ j wo, j < i → wos[j]? = some wo → layW wos.length wo = true) ∧ ∃ y1 y2, σ = [some (.ref a), y1, y2]) ⟨Same.refl H, fun j wo hj => absurd hj (Nat.not_lt_zero _), none, none, rfl⟩ (fun i σ H' h' => onT h'.1 hS) (fun i x T σ H' hx h' hT => ?_) (fun σ H' h' => q1 ?_ H' h'.1)
        · obtain ⟨sm, old, y1, y2, rfl⟩ := h'
          obtain ⟨wo, hwo, hTx⟩ := hE.at hx
          have sT : Same H (upd H' T (.tup [.int (i : Nat), x])) := sm.trans (same_new hT)
          refine ⟨T, _, rfl, tupAt upd_same, rfl, _, _, rfl, _, _, rfl, rfl, _, rfl, _, rfl, a, xs, rfl, .inr (onT sT hS), x, wo, wos.length, by rw [hlen]; rfl, hTx.on sT, by omega, fun H3 sm3 => ⟨_, rfl, ?_⟩⟩
          cases hl : layW wos.length wo with
          | true =>
            refine ifF rfl ⟨sT.trans sm3, fun j wo' hj e => ?_, _, _, rfl⟩
            rcases Nat.lt_succ_iff_lt_or_eq.mp hj with hj | rfl
            · exact old j wo' hj e
            · rw [hwo] at e
              cases e
              exact hl
          | false =>
            refine ifT rfl ⟨_, rfl, ?_⟩
            have hi : i < wos.length := (List.getElem?_eq_some_iff.mp hwo).1
            have e : hbBad (some wos) = some (.int (i : Nat)) := by
              unfold hbBad
              dsimp only
              rw [if_pos hc]
              have : (wos.findIdx? fun wo => !layW wos.length wo) = some i := by
                rw [List.findIdx?_eq_some_iff_getElem]
                refine ⟨hi, ?_, fun j hj => ?_⟩
                · rw [(List.getElem?_eq_some_iff.mp hwo).2, hl]
                  rfl
                · rw [old j _ hj (List.getElem?_eq_getElem _)]
                  decide
              rw [this]
              rfl
            exact bh_made (hbBad_pl e) fun d hd => q2 _ e d _ ((sT.trans sm3).trans (same_new hd)) upd_same
        · unfold hbBad
          dsimp only
          rw [if_pos hc]
          have : (wos.findIdx? fun wo => !layW wos.length wo) = none := by
            rw [List.findIdx?_eq_none_iff]
            intro wo hm
            obtain ⟨j, hj⟩ := List.mem_iff_getElem?.mp hm
            rw [h'.2.1 j wo (by rw [hlen]; exact (List.getElem?_eq_some_iff.mp hj).1) hj]
            rfl
          rw [this]
          rfl
theorem small_text {n : Nat} (h : n ≤ 5) : n = 0 ∨ n = 1 ∨ n = 2 ∨ n = 3 ∨ n = 4 ∨ n = 5 := by omega
def spCheckLayoutX (K : PySem.W.Frag) (C : Addr) : Sp := fun vs H Q E => ∃ (v : V) (wo : Option (List V)) (n : Nat), vs = [v, .int n] ∧ Wd K H v wo ∧ n ≤ 5 ∧ (layW n wo = true → ∀ H', Same H H' → Q .non H') ∧ (layW n wo = false → noE C H E)
theorem ok_check_layoutX {C : Addr} (F : Df K mg "check_layout" st_check_layout ["layout", "places"]) (Xn : ExO K mg "BadLayout" C) (C5 : Cal P w K mg base 5 "is_layout" (spIsLayoutW K)) : CalX P w K mg base 6 "check_layout" (spCheckLayoutX K C) := by
  refine mkCalX F sc_check_layout (fun vs H Q E h => ?_) (fun f cdv A outer s H vs Q E hr h => ?_)
  · obtain ⟨v, wo, n, rfl, _⟩ := h
    rfl
  · obtain ⟨v, wo, n, rfl, hw, n5, q1, q2⟩ := h
    refine ⟨_, pss_one (ps_if (pt_not (pt_val (pc C5 hr (pa_cons (pv 0) (pa_cons (pv 1) pa_nil))))) (pss_one (ps_raise rfl takesE (SkE.pmk_own1 PySem.F.excBase_ValueError Xn.q Xn.g Xn.k (raises_own Xn.b Xn.t) rfl
      (pe_joined (.cons pe_str (.cons (pe_fmt (pv 1)) (.cons pe_str .nil))))))) pss_nil), ?_⟩
    refine ⟨_, rfl, _, rfl, v, wo, n, rfl, hw, by omega, fun H1 s1 => ⟨_, rfl, ?_⟩⟩
    cases el : layW n wo with
    | true => exact ifF rfl (q1 el H1 s1)
    | false =>
      refine ifT rfl ?_
      refine ⟨_, rfl, ?_, _, rfl, .inr ⟨(n : Int), rfl, few_log n5, _, rfl, ?_, _, rfl, ?_, q2 el H1 s1⟩⟩
      · rw [sizeLine_eq]; decide +kernel
      · rw [sizeLine_eq]
        rcases small_text n5 with rfl | rfl | rfl | rfl | rfl | rfl <;> decide +kernel
      · rw [sizeLine_eq]
        rcases small_text n5 with rfl | rfl | rfl | rfl | rfl | rfl <;> decide +kernel
/-- a word's value: told row by row -/
structure Ww (K : PySem.W.Frag) (H : Hp) (v : V) (wo : Option (List V)) : Prop where
  t : Tk K H v wo
  w : rowW 0 400 wo = true → Wd K H v wo
theorem Ww.on {H H' : Hp} (e : Same H H') {v : V} {wo : Option (List V)} (h : Ww K H v wo) : Ww K H' v wo := ⟨h.t.on e, fun z => (h.w z).on e⟩
def wrdW (n : Nat) (wo : Option (List V)) : Bool := rowW 0 400 wo && plsW n wo
def spIsWordW (K : PySem.W.Frag) : Sp := fun vs H Q _ => ∃ (v : V) (wo : Option (List V)) (n : Nat), vs = [v, .int n] ∧ Ww K H v wo ∧ ∀ H', Same H H' → Q (.bl (wrdW n wo)) H'
theorem ok_is_wordW (F : Df K mg "is_word" st_is_word ["value", "places"]) (c400 : ∃ t, mg "MOST_TOUCHES" = some (.int 400 t)) (C1 : Cal P w K mg base 1 "is_row" (spIsRowW K)) (C4 : Cal P w K mg base 4 "are_places" (spArePlacesW K)) : Cal P w K mg base 5 "is_word" (spIsWordW K) := by
  refine mkCal F sc_is_word (fun vs H Q E h => ?_) (fun f cdv A outer s H vs Q E hr h => ?_)
  · obtain ⟨v, wo, n, rfl, _⟩ := h
    rfl
  · obtain ⟨v, wo, n, rfl, hw, q⟩ := h
    refine ⟨_, pss_one (ps_ret (pe_and (pc C1 hr (pa_cons (pv 0) (pa_cons pe_int (pa_cons (pk c400) pa_nil)))) (pe_one (pc C4 hr (pa_cons (pv 0) (pa_cons (pv 1) pa_nil)))))), ?_⟩
    refine ⟨_, rfl, v, wo, 0, 400, rfl, hw.t, _, rfl, ite2 (fun e => ?_) (fun e => ?_)⟩
    · refine ⟨_, rfl, _, rfl, v, wo, n, rfl, hw.w e, fun H1 s1 => ?_⟩
      have q := q H1 s1
      unfold wrdW at q
      rw [show rowW 0 400 wo = true from e, Bool.true_and] at q
      exact q
    · have e' : rowW 0 400 wo = false := by
        have e3 : ¬ rowW 0 400 wo = true := e
        simpa using e3
      have q := q H (Same.refl H)
      unfold wrdW at q
      rw [e', Bool.false_and] at q
      exact q
def spCheckWordX (K : PySem.W.Frag) (C : Addr) : Sp := fun vs H Q E => ∃ (v : V) (wo : Option (List V)) (n : Nat), vs = [v, .int n] ∧ Ww K H v wo ∧ n ≤ 5 ∧ (wrdW n wo = true → ∀ H', Same H H' → Q .non H') ∧ (wrdW n wo = false → noE C H E)
theorem ok_check_wordX {C : Addr} (F : Df K mg "check_word" st_check_word ["word", "places"]) (Xn : ExO K mg "BadWord" C) (C5 : Cal P w K mg base 5 "is_word" (spIsWordW K)) : CalX P w K mg base 6 "check_word" (spCheckWordX K C) := by
  refine mkCalX F sc_check_word (fun vs H Q E h => ?_) (fun f cdv A outer s H vs Q E hr h => ?_)
  · obtain ⟨v, wo, n, rfl, _⟩ := h
    rfl
  · obtain ⟨v, wo, n, rfl, hw, n5, q1, q2⟩ := h
    refine ⟨_, pss_one (ps_if (pt_not (pt_val (pc C5 hr (pa_cons (pv 0) (pa_cons (pv 1) pa_nil))))) (pss_one (ps_raise rfl takesE (SkE.pmk_own1 PySem.F.excBase_ValueError Xn.q Xn.g Xn.k (raises_own Xn.b Xn.t) rfl
      (pe_joined (.cons pe_str (.cons (pe_fmt (pv 1)) .nil)))))) pss_nil), ?_⟩
    refine ⟨_, rfl, _, rfl, v, wo, n, rfl, hw, fun H1 s1 => ⟨_, rfl, ?_⟩⟩
    cases el : wrdW n wo with
    | true => exact ifF rfl (q1 el H1 s1)
    | false =>
      refine ifT rfl ?_
      refine ⟨_, rfl, ?_, _, rfl, .inr ⟨(n : Int), rfl, few_log n5, _, rfl, ?_, q2 el H1 s1⟩⟩
      · rw [sizeLine_eq]; decide +kernel
      · rw [sizeLine_eq]
        rcases small_text n5 with rfl | rfl | rfl | rfl | rfl | rfl <;> decide +kernel
end
end RH
set_option Elab.async false
set_option linter.all false
set_option maxRecDepth 100000
set_option maxHeartbeats 2000000
namespace RH
open PySem PySem.Spec PyProof.Rows L2
/-! ### habits that the checks take -/
theorem Each.take {α : Type} {R : V → α → Prop} : ∀ {xs : List V} {ds : List α} (k : Nat), Each R xs ds → Each R (xs.take k) (ds.take k)
  | _, _, 0, _ => .nil
  | _, _, _ + 1, .nil => .nil
  | _, _, k + 1, .cons h t => .cons h (t.take k)
section
variable {K : PySem.W.Frag} {H H' : Hp} {n : Nat} {v pl : V}
theorem wd_ints {a : Addr} {ns : List Int} (h : SqT K H a (ns.map V.int)) (hl : ns.length < 64) : Wd K H (.ref a) (some (ns.map V.int)) :=
  ⟨.tup h, fun xs z x hm => by cases z; obtain ⟨i, _, rfl⟩ := List.mem_map.mp hm; exact .int i, fun xs z => by cases z; rwa [List.length_map]⟩
theorem lay_len {xs : List V} (h : xs.length ≠ n) : layW n (some xs) = false := by
  show (xs.all _ && isLay n (xs.map valI)) = false
  have : isLay n (xs.map valI) = false := by
    unfold isLay
    refine Bool.eq_false_iff.mpr fun z => h ?_
    have := (List.isPerm_iff.mp z).length_eq
    rw [List.length_map] at this
    rw [this]
    unfold rg
    rw [List.length_map, List.length_range]
  rw [this, Bool.and_false]
theorem lay_ok {ns : List Int} (h : ns.Perm (rg n)) : layW n (some (ns.map V.int)) = true := by
  have e1 : ((ns.map V.int).map valI) = ns := by
    rw [List.map_map]
    exact List.map_id' ns
  show ((ns.map V.int).all _ && isLay n ((ns.map V.int).map valI)) = true
  rw [e1, lay_yes h, Bool.and_true, List.all_eq_true]
  intro v hv
  obtain ⟨i, hi, rfl⟩ := List.mem_map.mp hv
  have := rg_mem.mp (h.mem_iff.mp hi)
  exact inV2_yes0 this.1 this.2
theorem hk_of {h : List (List Int)} (hT : TII K H v h) (hb : Hb n h) : Hk K H v (some (h.map fun ns => some (ns.map V.int))) := by
  obtain ⟨a, xs, rfl, hS, hE⟩ := hT
  refine .tup hS ?_
  have hp := hb.perm
  have hi := hb.hi
  clear hS hb
  induction hE with
  | nil => exact .nil
  | @cons x ns xs h hx hE ih =>
    obtain ⟨b, rfl, hB⟩ := hx
    refine .cons (wd_ints hB ?_) (ih fun ns hm => hp ns (List.mem_cons_of_mem _ hm))
    rw [perm_len (hp ns (List.mem_cons_self ..))]
    omega
theorem hb_ok {h : List (List Int)} (hb : Hb n h) : hbBad (some (h.map fun ns => some (ns.map V.int))) = none := by
  have hl := hb.len
  have h2 := hb.lo
  have h5 := hb.hi
  unfold hbBad
  dsimp only
  rw [List.length_map, hl, decide_eq_true h2, decide_eq_true h5]
  have : ((h.map fun ns => some (ns.map V.int)).findIdx? fun wo => !layW n wo) = none := by
    rw [List.findIdx?_eq_none_iff]
    intro wo hm
    obtain ⟨ns, hn, rfl⟩ := List.mem_map.mp hm
    rw [lay_ok (hb.perm ns hn)]
    rfl
  rw [this]
  rfl
end
theorem inV2_in {lo hi i : Int} (h1 : lo ≤ i) (h2 : i ≤ hi) : inV2 lo hi (.int i) = true := by
  show (decide (lo ≤ i) && decide (i ≤ hi)) = true
  rw [decide_eq_true h1, decide_eq_true h2]
  rfl
end RH
set_option Elab.async false
set_option linter.all false
set_option maxRecDepth 100000
set_option maxHeartbeats 2000000
namespace RH
open PySem PySem.Spec PyProof.Rows L2
/-! ### inverse, check_together, backed -/
/-- a row told by its very object -/
def TIF (H : Hp) (v : V) (ns : List Int) : Prop := ∃ a, v = .ref a ∧ FT H a ns
theorem TIF.same {H H' : Hp} (e : Same H H') {v : V} {ns : List Int} (h : TIF H v ns) : TIF H' v ns := by
  obtain ⟨a, rfl, h⟩ := h
  exact ⟨a, rfl, h.same e⟩
/-- a habit whose rows are told by their very objects -/
def THF (K : PySem.W.Frag) (H : Hp) (v : V) (h : List (List Int)) : Prop := ∃ a xs, v = .ref a ∧ SqT K H a xs ∧ Each (TIF H) xs h
theorem THF.same {K : PySem.W.Frag} {H H' : Hp} (e : Same H H') {v : V} {h : List (List Int)} (q : THF K H v h) : THF K H' v h := by
  obtain ⟨a, xs, rfl, hS, hE⟩ := q
  exact ⟨a, xs, rfl, onT e hS, hE.imp fun _ _ z => z.same e⟩
theorem THF.ti {K : PySem.W.Frag} {H : Hp} {v : V} {h : List (List Int)} (q : THF K H v h) : TII K H v h := by
  obtain ⟨a, xs, rfl, hS, hE⟩ := q
  exact ⟨a, xs, rfl, hS, hE.imp fun _ _ ⟨b, e, f⟩ => ⟨b, e, f.sq⟩⟩
theorem Each.appE {α : Type} {R : V → α → Prop} : ∀ {xs ys : List V} {ds es : List α}, Each R xs ds → Each R ys es → Each R (xs ++ ys) (ds ++ es)
  | _, _, _, _, .nil, h => h
  | _, _, _, _, .cons k t, h => .cons k (t.appE h)
section
variable {P : Program} {w : World} {K : PySem.W.Frag} {mg : Str → Option Value} {base : Heap} {Cb Cm : Addr}
def spInv (K : PySem.W.Frag) : Sp := fun vs H Q _ => ∃ (v : V) (ns : List Int) (n : Nat), vs = [v] ∧ TIF H v ns ∧ ns.Perm (rg n) ∧ n ≤ 5 ∧ ∀ H' u, Same H H' → TIF H' u (invR ns) → Q u H'
theorem ok_inverse (F : Df K mg "inverse" st_inverse ["row"]) (B : Bu mg) : Cal P w K mg base 1 "inverse" (spInv K) := by
  refine mkCal F sc_inverse (fun vs H Q E h => ?_) (fun f cdv A outer s H vs Q E hr h => ?_)
  · obtain ⟨v, ns, n, rfl, _⟩ := h
    rfl
  · obtain ⟨v, ns, n, rfl, ⟨a, rfl, hF⟩, hp, n5, q⟩ := h
    refine ⟨_, pss_one (ps_ret (pe_tupleF (by rfl) B.tuple (pe_lc (own := [("number", 1)]) (g := gName 1) (tt := tYes) rfl sc_inverse.nd (pi_range1 (by rfl) B.range (pa_cons (pe_callB (cl_len K) (by rfl) B.len PySem.boot_len (pa_cons (pv 0) pa_nil)) pa_nil))
      (blkOk_by (N := ["row", "number"]) (sc := defScope st_inverse) (by decide +kernel)) (fun _ _ _ _ _ => pg_name (i := 1) sc_inverse.nd rfl (Or.inl rfl)) (fun _ _ _ _ _ => pts_nil) (fun _ _ _ _ _ => pe_tidxF (pv 0) (pv 1))))), ?_⟩
    have ln := perm_len hp
    refine ⟨_, rfl, a, ns.map V.int, rfl, .inr (hF.sq (K := K)), ((ns.map V.int).length : Int), rfl, by rw [List.length_map]; omega, by rw [List.length_map]; omega, fun D hD => ?_⟩
    rw [Int.toNat_natCast, List.length_map, ln]
    refine lc_range (lo := 0) (n := n) (fun i H' => Same H H' ∧ H' D = some (.lst (((List.range i).map fun j : Nat => ((ns.idxOf (j : Int) : Nat) : Int)).map V.int))) ⟨same_new hD, upd_same⟩ (fun i H' hi h' => ?_) (fun H' h' => ?_)
    · obtain ⟨sm, eD⟩ := h'
      rw [Int.zero_add]
      have m : (i : Int) ∈ ns := hp.mem_iff.mpr (rg_mem.mpr ⟨by omega, by omega⟩)
      refine ⟨rfl, _, rfl, a, ns, rfl, hF.same sm, _, rfl, (i : Int), rfl, hF.same sm, m, _, eD, by rw [List.length_map, List.length_map, List.length_range]; exact small1000 (by omega), ?_, ?_⟩
      · exact fun b o eb => by rw [upd_ne (ne_of_none eb hD)]; exact sm b o eb
      · rw [upd_same, List.range_succ, List.map_append, List.map_append]
        rfl
    · obtain ⟨sm, eD⟩ := h'
      refine ⟨D, _, rfl, lstAt eD, fun u ob hu hob => ?_⟩
      refine q _ (.ref u) (sm.trans (same_new hu)) ⟨u, rfl, ob, ?_, hob⟩
      rw [upd_same]
      unfold invR
      rw [ln]
/-- so many places together -/
def spTog (Cm : Addr) : Sp := fun vs H Q E => ∃ z : Int, vs = [.int z] ∧ (z ≤ 5 → Q .non H) ∧ (5 < z → bhE Cm "most" (.int 5) H E)
theorem ok_together (F : Df K mg "check_together" st_check_together ["places"]) (c5 : ∃ t, mg "MOST_PLACES" = some (.int 5 t)) (T : BhX P w K mg base "TooMany" "most" Cm (spBI "most" Cm)) : CalX P w K mg base 3 "check_together" (spTog Cm) := by
  obtain ⟨_, _, FI, iC, tI, bI⟩ := T.f
  refine mkCalX F sc_check_together (fun vs H Q E h => ?_) (fun f cdv A outer s H vs Q E hr h => ?_)
  · obtain ⟨z, rfl, _⟩ := h
    rfl
  · obtain ⟨z, rfl, q1, q2⟩ := h
    refine ⟨_, pss_one (ps_if (pt_cmpR op_gt (pv 0) (pk c5) (nomark _)) (pss_one (ps_raise rfl takesE (pmk_oex T.t iC tI FI (hr.mono (by decide)) bI .nil pass0 rfl T.g (pa_cons (pk c5) pa_nil)))) pss_nil), ?_⟩
    refine ⟨_, rfl, z, 5, rfl, rfl, _, rfl, ?_⟩
    by_cases h5 : 5 < z
    · rw [decide_eq_true (by omega)]
      exact ifT rfl (bh_made (.inr ⟨5, by decide, rfl⟩) fun d hd => q2 h5 d _ (same_new hd) upd_same)
    · rw [decide_eq_false (by omega)]
      exact ifF rfl (q1 (by omega))
def spBacked (K : PySem.W.Frag) (Cb : Addr) : Sp := fun vs H Q E => ∃ v : V, vs = [v] ∧ ((∃ ho pl, Hk K H v ho ∧ hbBad ho = some pl ∧ bhE Cb "place" pl H E) ∨
  ∃ (h : List (List Int)) (n : Nat), THF K H v h ∧ Hb n h ∧ Hk K H v (some (h.map fun ns => some (ns.map V.int))) ∧ hbBad (some (h.map fun ns => some (ns.map V.int))) = none ∧ ∀ H' u, Same H H' → THF K H' u (h.map invR) → Q u H')
theorem ok_backed (F : Df K mg "backed" st_backed ["habit"]) (B : Bu mg) (CH : CalX P w K mg base 6 "check_habit" (spCheckHabitX K Cb)) (CI : Cal P w K mg base 1 "inverse" (spInv K)) : CalX P w K mg base 7 "backed" (spBacked K Cb) := by
  refine mkCalX F sc_backed (fun vs H Q E h => ?_) (fun f cdv A outer s H vs Q E hr h => ?_)
  · obtain ⟨v, rfl, _⟩ := h
    rfl
  · obtain ⟨v, rfl, h⟩ := h
    refine ⟨_, pss_cons (ps_expr (pcX CH passE hr (pa_cons (pv 0) pa_nil)))
      (pss_one (ps_ret (pe_tupleOf (by rfl) B.tuple (pe_lc (own := [("moves", 1)]) (g := gName 1) (tt := tYes) rfl sc_backed.nd (pi_tup (pv 0))
        (blkOk_by (N := ["habit", "moves"]) (sc := defScope st_backed) (by decide +kernel)) (fun _ _ _ _ _ => pg_name (i := 1) sc_backed.nd rfl (Or.inl rfl)) (fun _ _ _ _ _ => pts_nil) (fun _ _ _ _ _ => pc CI hr (pa_cons (pv 1) pa_nil)))))), ?_⟩
    rcases h with ⟨ho, pl, hk, hp, he⟩ | ⟨h, n, hT, hb, hk, good, q⟩
    · exact ⟨_, rfl, v, ho, rfl, hk, fun e => (by rw [hp] at e; cases e), fun pl' e => by rw [hp] at e; cases e; exact he⟩
    · obtain ⟨a, xs, rfl, hS, hE⟩ := hT
      refine ⟨_, rfl, _, _, rfl, hk, fun _ H1 s1 => ?_, fun pl e => (by rw [good] at e; cases e)⟩
      refine ⟨_, rfl, a, rfl, ⟨_, onT s1 hS⟩, fun D hD => ?_⟩
      have lx := hE.len
      have lh := hb.len
      have n5 := hb.hi
      refine lc_tup (xs := xs) (fun i H' => Same H1 H' ∧ ∃ us, H' D = some (.lst us) ∧ Each (TIF H') us ((h.take i).map invR)) ⟨same_new hD, [], upd_same, .nil⟩ (fun i H' _ h' => onT (s1.trans h'.1) hS) (fun i x H' hx h' => ?_) (fun H' h' => ?_)
      · obtain ⟨sm, us, eD, eu⟩ := h'
        obtain ⟨ns, hns, r⟩ := hE.at hx
        refine ⟨rfl, _, rfl, x, ns, n, rfl, r.same (s1.trans sm), hb.perm ns (List.mem_of_getElem? hns), n5, fun H2 u s2 hu => ⟨us, s2 _ _ eD, ?_, ?_, us ++ [u], upd_same, ?_⟩⟩
        · have := eu.len
          rw [List.length_map, List.length_take] at this
          exact small1000 (by omega)
        · exact fun b o eb => by rw [upd_ne (ne_of_none eb hD)]; exact s2 _ _ (sm b o eb)
        · have fx : Fix H2 (upd H2 D (.lst (us ++ [u]))) := Fix.lst (s2 _ _ eD)
          have tf : ∀ {v : V} {ns : List Int}, TIF H2 v ns → TIF (upd H2 D (.lst (us ++ [u]))) v ns := fun ⟨b, e, g⟩ => ⟨b, e, g.fix fx⟩
          rw [List.take_add_one, hns, List.map_append]
          exact (eu.imp fun _ _ z => tf (z.same s2)).appE (.cons (tf hu) .nil)
      · obtain ⟨sm, us, eD, eu⟩ := h'
        rw [lx, List.take_length] at eu
        refine .inl ⟨D, us, rfl, lstAt eD, fun t ht => ?_⟩
        have s3 := same_new (o := .tup us) ht
        exact q _ (.ref t) (s1.trans (sm.trans s3)) ⟨t, us, rfl, tupAt upd_same, eu.imp fun _ _ z => z.same s3⟩
end
end RH
set_option Elab.async false
set_option linter.all false
set_option maxRecDepth 100000
set_option maxHeartbeats 2000000
namespace RH
open PySem PySem.Spec PyProof.Rows L2
/-! ### doubled -/
/-- the scope of the comprehension that a def hands back as a tuple -/
def retSc (st : Stmt) : Scope := match (defBody st).getLast? with
  | some (.Return (some (.Call _ (.ListComp _ _ sc _ :: _) _ _)) _) => sc
  | _ => defScope st
section
variable {P : Program} {w : World} {K : PySem.W.Frag} {mg : Str → Option Value} {base : Heap} {Cb Cm : Addr}
def dblR (ns : List Int) : List Int := ns.map fun g => ns.getD g.toNat 0
def spDoubled (K : PySem.W.Frag) (Cb : Addr) : Sp := fun vs H Q _ => ∃ (v : V) (h : List (List Int)) (n : Nat), vs = [v] ∧ TII K H v h ∧ Hb n h ∧ Hk K H v (some (h.map fun ns => some (ns.map V.int))) ∧ hbBad (some (h.map fun ns => some (ns.map V.int))) = none ∧ ∀ H' u, Same H H' → THF K H' u (h.map dblR) → Q u H'
theorem ok_doubled (F : Df K mg "doubled" st_doubled ["habit"]) (B : Bu mg) (CH : CalX P w K mg base 6 "check_habit" (spCheckHabitX K Cb)) : CalX P w K mg base 7 "doubled" (spDoubled K Cb) := by
  refine mkCalX F sc_doubled (fun vs H Q E h => ?_) (fun f cdv A outer s H vs Q E hr h => ?_)
  · obtain ⟨v, h, n, rfl, _⟩ := h
    rfl
  · obtain ⟨v, h, n, rfl, hT, hb, hk, good, q⟩ := h
    refine ⟨_, pss_cons (ps_expr (pcX CH passE hr (pa_cons (pv 0) pa_nil)))
      (pss_one (ps_ret (pe_tupleOf (by rfl) B.tuple (pe_lc (own := [("moves", 1)]) (g := gName 1) (tt := tYes) rfl sc_doubled.nd (pi_tup (pv 0))
        (blkOk_by (N := ["habit", "moves", "goal"]) (sc := defScope st_doubled) (by decide +kernel)) (fun _ _ _ _ _ => pg_name (i := 1) sc_doubled.nd rfl (Or.inr rfl)) (fun _ _ _ _ _ => pts_nil)
        (te := tThen (tLc (iTup K (tVar 1)) (gName 2) tYes (tOp (rIxT K) (tVar 1) (tVar 2)) [2]) (kTupF K))
        (fun _ _ _ _ _ => pe_tupleF (by rfl) B.tuple (pe_lc (own := [("goal", 2)]) (g := gName 2) (tt := tYes) rfl sc_doubled.nd (pi_tup (pv 1))
          (blkOk_by (N := ["habit", "moves", "goal"]) (sc := retSc st_doubled) (by decide +kernel)) (fun _ _ _ _ _ => pg_name (i := 2) sc_doubled.nd rfl (Or.inl rfl)) (fun _ _ _ _ _ => pts_nil) (fun _ _ _ _ _ => pe_ix (ixT K) (pv 1) (pv 2) (fun _ _ => rfl)))))))), ?_⟩
    obtain ⟨a, xs, rfl, hS, hE⟩ := hT
    refine ⟨_, rfl, _, _, rfl, hk, fun _ H1 s1 => ?_, fun pl e => (by rw [good] at e; cases e)⟩
    refine ⟨_, rfl, a, rfl, ⟨_, onT s1 hS⟩, fun D hD => ?_⟩
    have lx := hE.len
    have lh := hb.len
    have n5 := hb.hi
    refine lc_tup (xs := xs) (fun i H' => Same H1 H' ∧ ∃ us, H' D = some (.lst us) ∧ Each (TIF H') us ((h.take i).map dblR)) ⟨same_new hD, [], upd_same, .nil⟩ (fun i H' _ h' => onT (s1.trans h'.1) hS) (fun i x H' hx h' => ?_) (fun H' h' => ?_)
    · obtain ⟨sm, us, eD, eu⟩ := h'
      obtain ⟨ns, hns, b, rfl, hB⟩ := hE.at hx
      have pm := hb.perm ns (List.mem_of_getElem? hns)
      have ln := perm_len pm
      have hB1 := onT (s1.trans sm) hB
      refine ⟨rfl, _, rfl, b, rfl, ⟨_, hB1⟩, fun D2 hD2 => ?_⟩
      refine lc_tup (xs := ns.map V.int) (fun j H2 => Same H' H2 ∧ H2 D2 = some (.lst (((ns.take j).map fun g => ns.getD g.toNat 0).map V.int))) ⟨same_new hD2, upd_same⟩ (fun j H2 _ h2 => onT h2.1 hB1) (fun j y H2 hy h2 => ?_) (fun H2 h2 => ?_)
      · obtain ⟨g, hg, rfl⟩ := map_at hy
        obtain ⟨s2, e2⟩ := h2
        obtain ⟨t, ht, rfl⟩ := nat_of (perm_in pm (List.mem_of_getElem? hg))
        obtain ⟨z, hz⟩ : ∃ z, ns[t]? = some z := ⟨_, List.getElem?_eq_getElem (by omega)⟩
        have ez : ns.getD (t : Int).toNat 0 = z := by rw [Int.toNat_natCast, List.getD_eq_getElem?_getD, hz]; rfl
        refine ⟨rfl, _, rfl, _, rfl, b, ns.map V.int, (t : Int), .int z, rfl, rfl, onT s2 hB1, atI_nat (by rw [List.getElem?_map, hz]; rfl), _, e2, by rw [List.length_map, List.length_map, List.length_take]; exact small1000 (by omega), ?_, ?_⟩
        · exact fun c o ec => by rw [upd_ne (ne_of_none ec hD2)]; exact s2 c o ec
        · rw [upd_same, List.take_add_one, hg, List.map_append, List.map_append]
          show _ = some (HO.lst (_ ++ [V.int (ns.getD (t : Int).toNat 0)]))
          rw [ez]
      · obtain ⟨s2, e2⟩ := h2
        rw [List.length_map, List.take_length] at e2
        refine ⟨D2, _, rfl, lstAt e2, fun u ob hu hob => ?_⟩
        have s3 := s2.trans (same_new (o := .frz ob (.tup ((ns.map fun g => ns.getD g.toNat 0).map V.int))) hu)
        refine ⟨us, s3 _ _ eD, ?_, ?_, us ++ [.ref u], upd_same, ?_⟩
        · have := eu.len
          rw [List.length_map, List.length_take] at this
          exact small1000 (by omega)
        · exact fun c o ec => by rw [upd_ne (ne_of_none ec hD)]; exact s3 _ _ (sm c o ec)
        · have fx : Fix _ _ := Fix.lst (o := .lst (us ++ [.ref u])) (s3 _ _ eD)
          have tf : ∀ {v : V} {ns : List Int}, TIF _ v ns → TIF _ v ns := fun ⟨b, e, g⟩ => ⟨b, e, g.fix fx⟩
          rw [List.take_add_one, hns, List.map_append]
          exact (eu.imp fun _ _ z => tf (z.same s3)).appE (.cons (tf ⟨u, rfl, ob, upd_same, hob⟩) .nil)
    · obtain ⟨sm, us, eD, eu⟩ := h'
      rw [lx, List.take_length] at eu
      refine .inl ⟨D, us, rfl, lstAt eD, fun t ht => ?_⟩
      have s3 := same_new (o := .tup us) ht
      exact q _ (.ref t) (s1.trans (sm.trans s3)) ⟨t, us, rfl, tupAt upd_same, eu.imp fun _ _ z => z.same s3⟩
def spCalled (K : PySem.W.Frag) (Cl : Addr) : Sp := fun vs H Q E => ∃ (v v2 : V) (h : List (List Int)) (n : Nat), vs = [v, v2] ∧ TII K H v h ∧ Hb n h ∧ ((∃ wo, Wd K H v2 wo ∧ layW n wo = false ∧ noE Cl H E) ∨
  ∃ o, TIF H v2 o ∧ o.Perm (rg n) ∧ ∀ H' u, Same H H' → THF K H' u (calH h o) → Q u H')
theorem ok_called {Cl : Addr} (F : Df K mg "called" st_called ["habit", "order"]) (B : Bu mg) (CH : CalX P w K mg base 6 "check_habit" (spCheckHabitX K Cb)) (CL : CalX P w K mg base 6 "check_layout" (spCheckLayoutX K Cl)) (CI : Cal P w K mg base 1 "inverse" (spInv K)) : CalX P w K mg base 7 "called" (spCalled K Cl) := by
  refine mkCalX F sc_called (fun vs H Q E h => ?_) (fun f cdv A outer s H vs Q E hr h => ?_)
  · obtain ⟨v, v2, h, n, rfl, _⟩ := h
    rfl
  · obtain ⟨v, v2, h, n, rfl, hT, hb, q⟩ := h
    refine ⟨_, pss_cons (ps_expr (pcX CH passE hr (pa_cons (pv 0) pa_nil))) (pss_cons (ps_expr (pcX CL passE hr (pa_cons (pv 1) (pa_cons (pe_callB (cl_len K) (by rfl) B.len PySem.boot_len (pa_cons (pv 0) pa_nil)) pa_nil))))
      (pss_cons (ps_set (i := 2) sc_called.nd rfl (.inr rfl) (pc CI hr (pa_cons (pv 1) pa_nil)))
      (pss_one (ps_ret (pe_tupleOf (by rfl) B.tuple (pe_lc (own := [("place", 3)]) (g := gName 3) (tt := tYes) rfl sc_called.nd (pi_tup (pv 2))
        (blkOk_by (N := ["habit", "order", "back", "place", "stood"]) (sc := defScope st_called) (by decide +kernel)) (fun _ _ _ _ _ => pg_name (i := 3) sc_called.nd rfl (Or.inr rfl)) (fun _ _ _ _ _ => pts_nil)
        (te := tThen (tLc (iTup K (tVar 2)) (gName 4) tYes (tOp (rIxT K) (tVar 1) (tOp (rIxT K) (tOp (rIxT K) (tVar 0) (tVar 3)) (tVar 4))) [4]) (kTupF K))
        (fun _ _ _ _ _ => pe_tupleF (by rfl) B.tuple (pe_lc (own := [("stood", 4)]) (g := gName 4) (tt := tYes) rfl sc_called.nd (pi_tup (pv 2))
          (by exact blkOk_by (scope := { kind := .function, names := [(".0", .local), ("stood", .local), ("habit", .free), ("order", .free), ("place", .free)], isGenerator := false, isCoroutine := false }) (own := [("stood", 4)]) (N := ["habit", "order", "back", "place", "stood"]) (sc := { kind := .function, names := [(".0", .local), ("place", .cell), ("tuple", .globalImplicit), ("back", .cell), ("habit", .cell), ("order", .cell)], isGenerator := false, isCoroutine := false }) (by decide +kernel)) (fun _ _ _ _ _ => pg_name (i := 4) sc_called.nd rfl (Or.inl rfl)) (fun _ _ _ _ _ => pts_nil)
          (fun _ _ _ _ _ => pe_ix (ixT K) (pv 1) (pe_ix (ixT K) (pe_ix (ixT K) (pv 0) (pv 3) (fun _ _ => rfl)) (pv 4) (fun _ _ => rfl)) (fun _ _ => rfl)))))))))), ?_⟩
    have n5 := hb.hi
    have n2 := hb.lo
    refine ⟨_, rfl, _, _, rfl, hk_of hT hb, fun _ H1 s1 => ?_, fun pl e => (by rw [hb_ok hb] at e; cases e)⟩
    obtain ⟨a, xs, rfl, hS, hE⟩ := hT
    have lx : xs.length = n := hE.len.trans hb.len
    rcases q with ⟨wo, hw, bad, he⟩ | ⟨o, hF, ho, q⟩
    · exact ⟨_, rfl, _, rfl, a, xs, rfl, .inr (onT s1 hS), v2, wo, n, by rw [lx]; rfl, hw.on s1, n5, fun z => (by rw [bad] at z; cases z), fun _ => he.on s1⟩
    obtain ⟨ao, rfl, fo⟩ := hF
    have lo := perm_len ho
    refine ⟨_, rfl, _, rfl, a, xs, rfl, .inr (onT s1 hS), .ref ao, _, n, by rw [lx]; rfl, (wd_ints (fo.sq (K := K)) (by omega)).on s1, n5, fun _ H2 s2 => ?_, fun z => (by rw [lay_ok ho] at z; cases z)⟩
    have s12 := s1.trans s2
    refine ⟨_, rfl, _, o, n, rfl, ⟨ao, rfl, fo.same s12⟩, ho, n5, fun H3 ub s3 hub => ?_⟩
    obtain ⟨ab, rfl, fb⟩ := hub
    have s13 := s12.trans s3
    have li := inv_len ho
    have bS : SqT K H3 ab ((invR o).map V.int) := fb.sq
    refine ⟨_, rfl, ab, rfl, ⟨_, bS⟩, fun D hD => ?_⟩
    refine lc_tup (xs := (invR o).map V.int) (fun i H' => Same H3 H' ∧ ∃ us, H' D = some (.lst us) ∧ Each (TIF H') us (((invR o).take i).map fun p => (invR o).map fun s => o.getD (mv h p s).toNat 0)) ⟨same_new hD, [], upd_same, .nil⟩ (fun i H' _ h' => onT h'.1 bS) (fun i x H' hx h' => ?_) (fun H' h' => ?_)
    · obtain ⟨p, hp, rfl⟩ := map_at hx
      obtain ⟨sm, us, eD, eu⟩ := h'
      obtain ⟨pn, hpn, rfl⟩ := inv_mem ho (List.mem_of_getElem? hp)
      obtain ⟨ns, hns⟩ : ∃ ns, h[pn]? = some ns := ⟨_, List.getElem?_eq_getElem (by rw [hb.len]; exact hpn)⟩
      obtain ⟨xr, hxr, ar, rfl, hR⟩ := hE.of hns
      have pm := hb.perm ns (List.mem_of_getElem? hns)
      have ens : h.getD (pn : Int).toNat [] = ns := by rw [Int.toNat_natCast, List.getD_eq_getElem?_getD, hns]; rfl
      refine ⟨rfl, _, rfl, ab, rfl, ⟨_, onT sm bS⟩, fun D2 hD2 => ?_⟩
      refine lc_tup (xs := (invR o).map V.int) (fun j H2' => Same H' H2' ∧ H2' D2 = some (.lst ((((invR o).take j).map fun s => o.getD (mv h (pn : Int) s).toNat 0).map V.int))) ⟨same_new hD2, upd_same⟩ (fun j H2' _ h2 => onT (sm.trans h2.1) bS) (fun j y H2' hy h2 => ?_) (fun H2' h2 => ?_)
      · obtain ⟨g, hg, rfl⟩ := map_at hy
        obtain ⟨s2', e2⟩ := h2
        obtain ⟨t, ht, rfl⟩ := inv_mem ho (List.mem_of_getElem? hg)
        obtain ⟨x, hx2, ex⟩ := at_in pm ht
        have hz : ns[t]? = some (x : Int) := by
          rw [List.getD_eq_getElem?_getD, List.getElem?_eq_getElem (by rw [perm_len pm]; exact ht)] at ex
          rw [List.getElem?_eq_getElem (by rw [perm_len pm]; exact ht)]
          exact congrArg some ex
        obtain ⟨y2, hy2, ey, _⟩ := o_at ho hx2
        have hz2 : o[x]? = some (y2 : Int) := by
          rw [List.getD_eq_getElem?_getD, List.getElem?_eq_getElem (by omega)] at ey
          rw [List.getElem?_eq_getElem (by omega)]
          exact congrArg some ey
        have sA := s13.trans (sm.trans s2')
        have emv : o.getD (mv h (pn : Int) (t : Int)).toNat 0 = (y2 : Int) := by
          unfold mv
          rw [ens, Int.toNat_natCast, ex, Int.toNat_natCast, ey]
        refine ⟨rfl, _, rfl, _, rfl, _, rfl, a, xs, (pn : Int), .ref ar, rfl, rfl, onT sA hS, atI_nat hxr, _, rfl, ar, ns.map V.int, (t : Int), .int (x : Int), rfl, rfl, onT sA hR, atI_nat (by rw [List.getElem?_map, hz]; rfl), ao, o.map V.int, (x : Int), .int (y2 : Int), rfl, rfl, (fo.same sA).sq, atI_nat (by rw [List.getElem?_map, hz2]; rfl), _, e2, by rw [List.length_map, List.length_map, List.length_take]; exact small1000 (by omega), ?_, ?_⟩
        · exact fun c ob ec => by rw [upd_ne (ne_of_none ec hD2)]; exact s2' c ob ec
        · rw [upd_same, List.take_add_one, hg, List.map_append, List.map_append]
          show _ = some (HO.lst (_ ++ [V.int (o.getD (mv h (pn : Int) (t : Int)).toNat 0)]))
          rw [emv]
      · obtain ⟨s2', e2⟩ := h2
        rw [List.length_map, List.take_length] at e2
        refine ⟨D2, _, rfl, lstAt e2, fun u ob hu hob => ?_⟩
        have s3' := s2'.trans (same_new (o := .frz ob (.tup (((invR o).map fun s => o.getD (mv h (pn : Int) s).toNat 0).map V.int))) hu)
        refine ⟨us, s3' _ _ eD, ?_, ?_, us ++ [.ref u], upd_same, ?_⟩
        · have := eu.len
          rw [List.length_map, List.length_take] at this
          exact small1000 (by omega)
        · exact fun c ob ec => by rw [upd_ne (ne_of_none ec hD)]; exact s3' _ _ (sm c ob ec)
        · have fx : Fix _ _ := Fix.lst (o := .lst (us ++ [.ref u])) (s3' _ _ eD)
          have tf : ∀ {v : V} {ns : List Int}, TIF _ v ns → TIF _ v ns := fun ⟨b, e, g⟩ => ⟨b, e, g.fix fx⟩
          rw [List.take_add_one, hp, List.map_append]
          exact (eu.imp fun _ _ z => tf (z.same s3')).appE (.cons (tf ⟨u, rfl, ob, upd_same, hob⟩) .nil)
    · obtain ⟨sm, us, eD, eu⟩ := h'
      rw [List.length_map, List.take_length] at eu
      refine .inl ⟨D, us, rfl, lstAt eD, fun t ht => ?_⟩
      have s5 := same_new (o := .tup us) ht
      exact q _ (.ref t) (s13.trans (sm.trans s5)) ⟨t, us, rfl, tupAt upd_same, eu.imp fun _ _ z => z.same s5⟩
end
end RH
set_option Elab.async false
set_option linter.all false
set_option maxRecDepth 100000
set_option maxHeartbeats 2000000
namespace RH
open PySem PySem.Spec PyProof.Rows L2
/-! ### beside -/
/-- a statement's way on, as the reading tells it -/
theorem ps_cutM {X : Cx} {st : Stmt} {t : TS} (h : PS X st t) : PS X st (fun D σ H => ∃ G : L2.St → Hp → Prop, (∀ σ' H', G σ' H' → D.nx σ' H') ∧ t { D with nx := G } σ H) := by
  refine ⟨fun pins s σ H D I hw => ?_⟩
  obtain ⟨G, hG, hw⟩ := hw
  refine thn (h.run pins s σ H { D with nx := G } I hw) fun fl s1 q => ?_
  cases fl with
  | next =>
    obtain ⟨σ', H', I', q⟩ := q
    exact ⟨σ', H', I', hG _ _ q⟩
  | ret v => exact q
  | brk => exact q
  | cont => exact q
section
variable {P : Program} {w : World} {K : PySem.W.Frag} {mg : Str → Option Value} {base : Heap} {Cb Cm : Addr}
def spBeside (K : PySem.W.Frag) (Cm : Addr) : Sp := fun vs H Q E => ∃ (v v2 : V) (h o : List (List Int)) (m n : Nat), vs = [v, v2] ∧ TII K H v h ∧ TII K H v2 o ∧ Hb m h ∧ Hb n o ∧ (5 < m + n → bhE Cm "most" (.int 5) H E) ∧ (m + n ≤ 5 → ∀ H' u, Same H H' → TII K H' u (besH h o) → Q u H')
theorem ok_beside (F : Df K mg "beside" st_beside ["one", "other"]) (B : Bu mg) (CH : CalX P w K mg base 6 "check_habit" (spCheckHabitX K Cb)) (CT : CalX P w K mg base 3 "check_together" (spTog Cm)) (CP : Cal P w K mg base 1 "places_of_habit" (spPlacesOf K)) : CalX P w K mg base 7 "beside" (spBeside K Cm) := by
  refine mkCalX F sc_beside (fun vs H Q E h => ?_) (fun f cdv A outer s H vs Q E hr h => ?_)
  · obtain ⟨v, v2, h, o, m, n, rfl, _⟩ := h
    rfl
  · obtain ⟨v, v2, h, o, m, n, rfl, hT, hT2, hb, hb2, bad, q⟩ := h
    refine ⟨_, pss_cons (ps_expr (pcX CH passE hr (pa_cons (pv 0) pa_nil))) (pss_cons (ps_expr (pcX CH passE hr (pa_cons (pv 1) pa_nil)))
      (pss_cons (ps_expr (pcX CT passE hr (pa_cons (pe_op op_add (pe_callB (cl_len K) (by rfl) B.len PySem.boot_len (pa_cons (pv 0) pa_nil)) (pe_callB (cl_len K) (by rfl) B.len PySem.boot_len (pa_cons (pv 1) pa_nil))) pa_nil)))
      (pss_cons (ps_set (i := 2) sc_beside.nd rfl (.inr rfl) (pc CP hr (pa_cons (pv 0) pa_nil)))
      (pss_cons (ps_cutM (ps_set (i := 3) sc_beside.nd rfl (.inr rfl) (pe_tupleOf (by rfl) B.tuple (pe_lc (own := [("place", 5)]) (g := gName 5) (tt := tYes) rfl sc_beside.nd (pi_tup (pc CP hr (pa_cons (pv 1) pa_nil)))
        (blkOk_by (N := ["one", "other", "first", "second", "rows", "place", "moves", "goal"]) (sc := defScope st_beside) (by decide +kernel)) (fun _ _ _ _ _ => pg_name (i := 5) sc_beside.nd rfl (Or.inl rfl)) (fun _ _ _ _ _ => pts_nil)
        (fun _ _ _ _ _ => pe_op op_add (pe_callB (cl_len K) (by rfl) B.len PySem.boot_len (pa_cons (pv 0) pa_nil)) (pv 5))))))
      (pss_cons (ps_cutM (ps_setLc (i := 4) (own := [("moves", 6)]) (g := gName 6) (tt := tYes) (te := tOp (rCatA K) (tVar 6) (tVar 3)) rfl sc_beside.nd rfl rfl (sw_true rfl rfl rfl (by decide +kernel)) (pi_tup (pv 0))
        (blkOk_by (N := ["one", "other", "first", "second", "rows", "place", "moves", "goal"]) (sc := defScope st_beside) (by decide +kernel)) (fun _ _ _ _ _ => pg_name (i := 6) sc_beside.nd rfl (Or.inl rfl)) (fun _ _ _ _ _ => pts_nil)
        (fun _ _ _ _ _ => pe_op op_catA (pv 6) (pv 3))))
      (pss_one (ps_ret (pe_tupleOf (by rfl) B.tuple (pe_op op_cat (pv 4) (pe_lc (own := [("moves", 6)]) (g := gName 6) (tt := tYes) rfl sc_beside.nd (pi_tup (pv 1))
        (blkOk_by (N := ["one", "other", "first", "second", "rows", "place", "moves", "goal"]) (sc := defScope st_beside) (by decide +kernel)) (fun _ _ _ _ _ => pg_name (i := 6) sc_beside.nd rfl (Or.inl rfl)) (fun _ _ _ _ _ => pts_nil)
        (te := tOp (rCatA K) (tVar 2) (tThen (tLc (iTup K (tVar 6)) (gName 7) tYes (tOp (rI0 fun i j => V.int (i + j)) (tCB (rLenK K) (tCons (tVar 0) tNil)) (tVar 7)) [7]) (kTup K)))
        (fun _ _ _ _ _ => pe_op op_catA (pv 2) (pe_tupleOf (by rfl) B.tuple (pe_lc (own := [("goal", 7)]) (g := gName 7) (tt := tYes) rfl sc_beside.nd (pi_tup (pv 6))
          (blkOk_by (N := ["one", "other", "first", "second", "rows", "place", "moves", "goal"]) (sc := { kind := .function, names := [(".0", .local), ("moves", .local), ("tuple", .globalImplicit), ("first", .cell), ("one", .cell)], isGenerator := false, isCoroutine := false }) (by decide +kernel)) (fun _ _ _ _ _ => pg_name (i := 7) sc_beside.nd rfl (Or.inl rfl)) (fun _ _ _ _ _ => pts_nil)
          (fun _ _ _ _ _ => pe_op op_add (pe_callB (cl_len K) (by rfl) B.len PySem.boot_len (pa_cons (pv 0) pa_nil)) (pv 7))))))))))))))), ?_⟩
    have hk1 := hk_of hT hb
    have hk2 := hk_of hT2 hb2
    have m5 := hb.hi
    have n5 := hb2.hi
    have hl := hb.len
    have ol := hb2.len
    obtain ⟨a, xs, rfl, hS, hE⟩ := id hT
    obtain ⟨b, ys, rfl, hS2, hE2⟩ := id hT2
    have lx : xs.length = m := hE.len.trans hb.len
    have ly : ys.length = n := hE2.len.trans hb2.len
    refine ⟨_, rfl, _, _, rfl, hk1, fun _ H1 s1 => ?_, fun pl e => (by rw [hb_ok hb] at e; cases e)⟩
    refine ⟨_, rfl, _, _, rfl, hk2.on s1, fun _ H2 s2 => ?_, fun pl e => (by rw [hb_ok hb2] at e; cases e)⟩
    have s12 := s1.trans s2
    refine ⟨_, rfl, a, xs, rfl, .inr (onT s12 hS), _, rfl, b, ys, rfl, .inr (onT s12 hS2), (xs.length : Int), (ys.length : Int), rfl, rfl, _, rfl, fun le => ?_, fun gt => (bad (by omega)).on s12⟩
    have few : m + n ≤ 5 := by omega
    refine ⟨_, rfl, .ref a, h, m, rfl, hT.on (Same.tups s12), hb, fun f1 hf1 => ?_⟩
    have s3 := s12.trans (same_new (o := .tup ((rg m).map V.int)) hf1)
    have e1 : (upd H2 f1 (.tup ((rg m).map V.int))) f1 = some (.tup ((rg m).map V.int)) := upd_same
    generalize (upd H2 f1 (.tup ((rg m).map V.int))) = H3 at s3 e1 ⊢
    -- second
    refine ⟨fun σ' H' => ∃ f2, σ' = [some (.ref a), some (.ref b), some (.ref f1), some (.ref f2), none, none, none, none] ∧ Same H3 H' ∧ H' f2 = some (.tup (((rg n).map fun i => (m : Int) + i).map V.int)), fun σ4 H4 g4 => ?_, ?_⟩
    case refine_2 =>
      refine ⟨_, rfl, .ref b, o, n, rfl, hT2.on (Same.tups s3), hb2, fun t ht => ⟨t, rfl, ⟨_, tupAt upd_same⟩, fun D hD => ?_⟩⟩
      have st := same_new (o := .tup ((rg n).map V.int)) ht
      have et : (upd H3 t (.tup ((rg n).map V.int))) t = some (.tup ((rg n).map V.int)) := upd_same
      generalize (upd H3 t (.tup ((rg n).map V.int))) = Ht at st et hD ⊢
      refine lc_tup (xs := (rg n).map V.int) (fun i H' => Same Ht H' ∧ H' D = some (.lst ((((rg n).take i).map fun i => (m : Int) + i).map V.int))) ⟨same_new hD, upd_same⟩ (fun i H' _ h' => tupAt (h'.1 _ _ et)) (fun i x H' hx h' => ?_) (fun H' h' => ?_)
      · obtain ⟨g, hg, rfl⟩ := map_at hx
        obtain ⟨sm, eD⟩ := h'
        refine ⟨rfl, _, rfl, a, xs, rfl, .inr (onT (s3.trans (st.trans sm)) hS), _, rfl, (xs.length : Int), g, rfl, rfl, _, eD, by rw [List.length_map, List.length_map, List.length_take, rg_len]; exact small1000 (by omega), ?_, ?_⟩
        · exact fun c ob ec => by rw [upd_ne (ne_of_none ec hD)]; exact sm c ob ec
        · rw [upd_same, List.take_add_one, hg, List.map_append, List.map_append, lx]
          rfl
      · obtain ⟨sm, eD⟩ := h'
        rw [List.length_map, List.take_length] at eD
        exact .inl ⟨D, _, rfl, lstAt eD, fun f2 hf2 => ⟨f2, rfl, st.trans (sm.trans (same_new hf2)), upd_same⟩⟩
    obtain ⟨f2, rfl, s4, e2⟩ := g4
    -- rows
    refine ⟨fun σ' H' => ∃ D us, σ' = [some (.ref a), some (.ref b), some (.ref f1), some (.ref f2), some (.ref D), none, none, none] ∧ Same H4 H' ∧ H' D = some (.lst us) ∧ Each (TI K H') us (h.map fun ns => ns ++ (rg n).map fun i => (m : Int) + i), fun σ5 H5 g5 => ?_, ?_⟩
    case refine_2 =>
      refine ⟨_, rfl, a, rfl, ⟨_, onT (s3.trans s4) hS⟩, fun D hD => ?_⟩
      refine lc_tup (xs := xs) (fun i H' => Same H4 H' ∧ ∃ us, H' D = some (.lst us) ∧ Each (TI K H') us ((h.take i).map fun ns => ns ++ (rg n).map fun i => (m : Int) + i)) ⟨same_new hD, [], upd_same, .nil⟩ (fun i H' _ h' => onT (s3.trans (s4.trans h'.1)) hS) (fun i x H' hx h' => ?_) (fun H' h' => ?_)
      · obtain ⟨sm, us, eD, eu⟩ := h'
        obtain ⟨ns, hns, ar, rfl, hR⟩ := hE.at hx
        have ln := perm_len (hb.perm ns (List.mem_of_getElem? hns))
        refine ⟨rfl, _, rfl, _, rfl, catT_ok (onT (s3.trans (s4.trans sm)) hR) (tupAt (sm _ _ e2)) (by rw [List.length_map, List.length_map, List.length_map, rg_len]; omega) fun r H6 s6 hr6 => ⟨us, s6 _ _ eD, ?_, ?_, us ++ [.ref r], upd_same, ?_⟩⟩
        · have := eu.len
          rw [List.length_map, List.length_take] at this
          exact small1000 (by omega)
        · exact fun c ob ec => by rw [upd_ne (ne_of_none ec hD)]; exact s6 _ _ (sm c ob ec)
        · have fx : Tups K _ _ := (Fix.lst (o := .lst (us ++ [.ref r])) (s6 _ _ eD)).tups
          rw [List.take_add_one, hns, List.map_append]
          refine (eu.imp fun _ _ z => (z.on (Same.tups s6)).on fx).appE (.cons ⟨r, rfl, fx _ _ ?_⟩ .nil)
          rw [List.map_append]
          exact hr6
      · obtain ⟨sm, us, eD, eu⟩ := h'
        rw [hE.len, List.take_length] at eu
        exact ⟨D, us, rfl, sm, eD, eu⟩
    obtain ⟨D, us, rfl, s5, eD, eu⟩ := g5
    have s35 := s3.trans (s4.trans s5)
    -- the rest
    refine ⟨_, rfl, _, rfl, b, rfl, ⟨_, onT s35 hS2⟩, fun D2 hD2 => ?_⟩
    have e1' := s5 _ _ (s4 _ _ e1)
    refine lc_tup (xs := ys) (fun i H' => Same H5 H' ∧ ∃ us2, H' D2 = some (.lst us2) ∧ Each (TI K H') us2 ((o.take i).map fun ns => rg m ++ ns.map fun i => (m : Int) + i)) ⟨same_new hD2, [], upd_same, .nil⟩ (fun i H' _ h' => onT (s35.trans h'.1) hS2) (fun i x H' hx h' => ?_) (fun H' h' => ?_)
    · obtain ⟨sm, us2, eD2, eu2⟩ := h'
      obtain ⟨ns, hns, ar, rfl, hR⟩ := hE2.at hx
      have ln := perm_len (hb2.perm ns (List.mem_of_getElem? hns))
      have sA := s35.trans sm
      refine ⟨rfl, _, rfl, _, rfl, ar, rfl, ⟨_, onT sA hR⟩, fun D3 hD3 => ?_⟩
      refine lc_tup (xs := ns.map V.int) (fun j H7 => Same H' H7 ∧ H7 D3 = some (.lst (((ns.take j).map fun i => (m : Int) + i).map V.int))) ⟨same_new hD3, upd_same⟩ (fun j H7 _ h7 => onT (sA.trans h7.1) hR) (fun j y H7 hy h7 => ?_) (fun H7 h7 => ?_)
      · obtain ⟨g, hg, rfl⟩ := map_at hy
        obtain ⟨s7, e7⟩ := h7
        refine ⟨rfl, _, rfl, a, xs, rfl, .inr (onT (sA.trans s7) hS), _, rfl, (xs.length : Int), g, rfl, rfl, _, e7, by rw [List.length_map, List.length_map, List.length_take]; exact small1000 (by omega), ?_, ?_⟩
        · exact fun c ob ec => by rw [upd_ne (ne_of_none ec hD3)]; exact s7 c ob ec
        · rw [upd_same, List.take_add_one, hg, List.map_append, List.map_append, lx]
          rfl
      · obtain ⟨s7, e7⟩ := h7
        rw [List.length_map, List.take_length] at e7
        refine .inl ⟨D3, _, rfl, lstAt e7, fun t3 ht3 => ?_⟩
        have s8 := same_new (o := .tup ((ns.map fun i => (m : Int) + i).map V.int)) ht3
        refine catT_ok (tupAt ((sm.trans (s7.trans s8)) _ _ e1')) (tupAt upd_same) (by rw [List.length_map, List.length_map, List.length_map, rg_len]; omega) fun r H6 s6 hr6 => ?_
        have sB := s7.trans (s8.trans s6)
        refine ⟨us2, sB _ _ eD2, ?_, ?_, us2 ++ [.ref r], upd_same, ?_⟩
        · have := eu2.len
          rw [List.length_map, List.length_take] at this
          exact small1000 (by omega)
        · exact fun c ob ec => by rw [upd_ne (ne_of_none ec hD2)]; exact sB _ _ (sm c ob ec)
        · have fx : Tups K _ _ := (Fix.lst (o := .lst (us2 ++ [.ref r])) (sB _ _ eD2)).tups
          rw [List.take_add_one, hns, List.map_append]
          refine (eu2.imp fun _ _ z => (z.on (Same.tups sB)).on fx).appE (.cons ⟨r, rfl, fx _ _ ?_⟩ .nil)
          rw [List.map_append]
          exact hr6
    · obtain ⟨sm, us2, eD2, eu2⟩ := h'
      rw [hE2.len, List.take_length] at eu2
      have lu := eu.len
      have lu2 := eu2.len
      rw [List.length_map] at lu lu2
      refine ⟨D, D2, us, us2, rfl, rfl, sm _ _ eD, eD2, by rw [sizeLine_eq]; omega, fun l hl2 => .inl ⟨l, _, rfl, lstAt upd_same, fun t ht => ?_⟩⟩
      have s9 := (same_new (o := .lst (us ++ us2)) hl2).trans (same_new (o := .tup (us ++ us2)) ht)
      refine q few _ (.ref t) (s35.trans (sm.trans s9)) ⟨t, _, rfl, tupAt upd_same, ?_⟩
      unfold besH
      rw [hl, ol]
      exact (eu.imp fun _ _ z => z.on (Same.tups (sm.trans s9))).appE (eu2.imp fun _ _ z => z.on (Same.tups s9))
end
end RH
set_option Elab.async false
set_option linter.all false
set_option maxRecDepth 100000
set_option maxHeartbeats 2000000
namespace RH
open PySem PySem.Spec PyProof.Rows L2
/-! ### after -/
section
variable {P : Program} {w : World} {K : PySem.W.Frag} {mg : Str → Option Value} {base : Heap} {Cb Cl Cw : Addr}
def spMoveAl (K : PySem.W.Frag) : Sp := fun vs H Q _ => ∃ (v u wv : V) (h : List (List Int)) (n : Nat) (L ws : List Int), vs = [v, u, wv] ∧ TII K H v h ∧ Hb n h ∧ TI K H u L ∧ L.Perm (rg n) ∧ TI K H wv ws ∧ (∀ t ∈ ws, InR n t) ∧ ws.length ≤ 400 ∧ ∀ H' y, Same H H' → TI K H' y (mvs h L ws) → Q y H'
theorem mvs_perm2 {h : List (List Int)} {n : Nat} (hb : Hb n h) {L : List Int} (hL : L.Perm (rg n)) : ∀ ws : List Int, (∀ t ∈ ws, InR n t) → (mvs h L ws).Perm (rg n) := fun ws => by
  revert L
  induction ws with
  | nil => intro L hL _; exact hL
  | cons t ws ih =>
    intro L hL hw
    exact ih (stp_perm2 hb (rg_mem.mpr (hw t List.mem_cons_self)) hL) fun u hu => hw u (List.mem_cons_of_mem _ hu)
theorem ok_move_al (F : Df K mg "move_along" st_move_along ["habit", "layout", "word"]) (CM : Cal P w K mg base 1 "move" (spMove K)) : Cal P w K mg base 2 "move_along" (spMoveAl K) := by
  refine mkCal F sc_move_along (fun vs H Q E h => ?_) (fun f cdv A outer s H vs Q E hr h => ?_)
  · obtain ⟨v, u, wv, h, n, L, ws, rfl, _⟩ := h
    rfl
  · obtain ⟨v, u, wv, h, n, L, ws, rfl, hT, hb, hL, pL, hW0, hw, few, q⟩ := h
    obtain ⟨aw, rfl, hW⟩ := id hW0
    have n5 := hb.hi
    refine ⟨_, pss_cons (ps_for PassesOwn.never rfl (pi_tup (pv 2)) (pg_name (i := 3) sc_move_along.nd rfl (.inl rfl)) (pss_one (ps_set (i := 1) sc_move_along.nd rfl (.inl rfl) (pc CM hr (pa_cons (pv 0) (pa_cons (pv 1) (pa_cons (pv 3) pa_nil)))))))
      (pss_one (ps_ret (pv 1))), ?_⟩
    refine ⟨_, rfl, aw, rfl, ⟨_, hW⟩, ?_⟩
    refine for_tup (xs := ws.map V.int) (fun i σ H' => Same H H' ∧ ∃ u2 y, σ = [some v, some u2, some (.ref aw), y] ∧ TI K H' u2 (mvs h L (ws.take i))) ⟨Same.refl H, u, none, rfl, hL⟩ (fun i σ H' _ h' => onT h'.1 hW) (fun i x σ H' hx h' => ?_) (fun σ H' h' => ?_)
    · obtain ⟨t, ht, rfl⟩ := map_at hx
      obtain ⟨sm, u2, y, rfl, aL, rfl, hA⟩ := h'
      have pm := mvs_perm2 hb pL (ws.take i) fun z hz => hw z (List.mem_of_mem_take hz)
      refine ⟨_, rfl, _, rfl, _, rfl, v, h, n, aL, _, t, rfl, hT.on (Same.tups sm), hb, hA, fun z hz => perm_in pm hz, by rw [perm_len pm]; omega, hw t (List.mem_of_getElem? ht), fun H2 r s2 _ fr => ⟨sm.trans s2, _, _, rfl, r, rfl, ?_⟩⟩
      rw [mvs_more ht]
      exact fr.sq
    · obtain ⟨sm, u2, y, rfl, hu⟩ := h'
      rw [List.length_map, List.take_length] at hu
      exact ⟨_, rfl, q H' u2 sm hu⟩
def spAfterG (K : PySem.W.Frag) : Sp := fun vs H Q _ => ∃ (v u wv : V) (h : List (List Int)) (n : Nat) (L ws : List Int), vs = [v, u, wv] ∧ TII K H v h ∧ Hb n h ∧ TI K H u L ∧ L.Perm (rg n) ∧ TI K H wv ws ∧ (∀ t ∈ ws, InR n t) ∧ ws.length ≤ 60 ∧ ∀ H' y, Same H H' → TI K H' y (mvs h L ws) → Q y H'
theorem pls_ok {n : Nat} {ws : List Int} (h : ∀ t ∈ ws, InR n t) : plsW (n : Int) (some (ws.map V.int)) = true := by
  show (ws.map V.int).all (inV2 0 ((n : Int) - 1)) = true
  rw [List.all_map, List.all_eq_true]
  intro t m
  have := h t m
  exact inV2_in this.1 (by have := this.2; omega)
theorem ok_afterG (F : Df K mg "after" st_after ["habit", "layout", "word"]) (B : Bu mg) (CH : CalX P w K mg base 6 "check_habit" (spCheckHabitX K Cb)) (CL : CalX P w K mg base 6 "check_layout" (spCheckLayoutX K Cl)) (CW : CalX P w K mg base 6 "check_word" (spCheckWordX K Cw)) (CM : Cal P w K mg base 2 "move_along" (spMoveAl K)) : CalX P w K mg base 7 "after" (spAfterG K) := by
  refine mkCalX F sc_after (fun vs H Q E h => ?_) (fun f cdv A outer s H vs Q E hr h => ?_)
  · obtain ⟨v, u, wv, h, n, L, ws, rfl, _⟩ := h
    rfl
  · obtain ⟨v, u, wv, h, n, L, ws, rfl, hT, hb, hL, pL, hW, hw, few, q⟩ := h
    refine ⟨_, pss_cons (ps_expr (pcX CH passE hr (pa_cons (pv 0) pa_nil))) (pss_cons (ps_expr (pcX CL passE hr (pa_cons (pv 1) (pa_cons (pe_callB (cl_len K) (by rfl) B.len PySem.boot_len (pa_cons (pv 0) pa_nil)) pa_nil))))
      (pss_cons (ps_expr (pcX CW passE hr (pa_cons (pv 2) (pa_cons (pe_callB (cl_len K) (by rfl) B.len PySem.boot_len (pa_cons (pv 0) pa_nil)) pa_nil))))
      (pss_one (ps_ret (pc CM hr (pa_cons (pv 0) (pa_cons (pv 1) (pa_cons (pv 2) pa_nil)))))))), ?_⟩
    have n5 := hb.hi
    obtain ⟨a, xs, rfl, hS, hE⟩ := id hT
    obtain ⟨al, rfl, hSl⟩ := id hL
    obtain ⟨aw, rfl, hSw⟩ := id hW
    have lx : xs.length = n := hE.len.trans hb.len
    refine ⟨_, rfl, _, _, rfl, hk_of hT hb, fun _ H1 s1 => ?_, fun pl e => (by rw [hb_ok hb] at e; cases e)⟩
    refine ⟨_, rfl, _, rfl, a, xs, rfl, .inr (onT s1 hS), .ref al, _, n, by rw [lx]; rfl, (wd_ints hSl (by rw [perm_len pL]; omega)).on s1, n5, fun _ H2 s2 => ?_, fun z => (by rw [lay_ok pL] at z; cases z)⟩
    have s12 := s1.trans s2
    have wd := (wd_ints (H := H) hSw (by omega)).on s12
    have good : wrdW n (some (ws.map V.int)) = true := by
      show (rowW 0 400 (some (ws.map V.int)) && plsW n (some (ws.map V.int))) = true
      rw [pls_ok hw, Bool.and_true]
      show (decide ((0 : Int) ≤ ((ws.map V.int).length : Int)) && decide (((ws.map V.int).length : Int) ≤ 400)) = true
      rw [List.length_map, decide_eq_true (by omega), decide_eq_true (by omega)]
      rfl
    refine ⟨_, rfl, _, rfl, a, xs, rfl, .inr (onT s12 hS), .ref aw, some (ws.map V.int), n, by rw [lx]; rfl, ⟨wd.t, fun _ => wd⟩, n5, fun _ H3 s3 => ?_, fun z => (by rw [good] at z; cases z)⟩
    have s13 := s12.trans s3
    exact ⟨_, rfl, _, rfl, _, rfl, .ref a, .ref al, .ref aw, h, n, L, ws, rfl, hT.on (Same.tups s13), hb, hL.on (Same.tups s13), pL, hW.on (Same.tups s13), hw, by omega, fun H' y s4 hy => q H' y (s13.trans s4) hy⟩
end
end RH
set_option Elab.async false
set_option linter.all false
set_option maxRecDepth 100000
set_option maxHeartbeats 2000000
namespace RH
open PySem PySem.Spec PyProof.Rows L2
/-! ### orders that the law draws -/
section
variable {P : Program} {w : World} {K : PySem.W.Frag} {mg : Str → Option Value} {base : Heap}
def spPermL (K : PySem.W.Frag) : Sp := fun vs H Q _ => ∃ (p : Addr) (n : Nat), vs = [.ref p, .int (n : Int)] ∧ Row K H p ∧ n ≤ 5 ∧ ∀ (H' : Hp) (v : V) (ns : List Int), ns.Perm (rg n) → But p H H' → Row K H' p → TIF H' v ns → Q v H'
theorem ok_lperm (F : Df K mg "_law_permutation" st__law_permutation ["row", "many"]) (B : Bu mg) (CT : Cal P w K mg base 1 "_law_taken" (spTaken K)) : Cal P w K mg base 2 "_law_permutation" (spPermL K) := by
  refine mkCal F sc__law_permutation (fun vs H Q E h => ?_) (fun f cdv A outer s H vs Q E hr h => ?_)
  · obtain ⟨p, n, rfl, _⟩ := h
    rfl
  · obtain ⟨p, n, rfl, hR, hn, q⟩ := h
    refine ⟨_, pss_cons (ps_par (i := 2) (j := 3) rfl sc__law_permutation.nd rfl rfl (by decide) rfl rfl (pa_cons (pe_listRg rfl (by rfl) B.list (prg_1 (by rfl) B.range (pv 1))) (pa_cons (pe_lst pa_nil) pa_nil)) rfl)
      (pss_cons (ps_for PassesOwn.never rfl (pi_range1 (by rfl) B.range (pa_cons (pv 1) pa_nil)) (pg_name (i := 4) sc__law_permutation.nd rfl (.inl rfl))
        (pss_one (ps_expr (pe_bm PySem.F.plainAttrs_list PySem.F.slot_list_append PySem.F.type_list_append mt_append (pv 3) (pa_cons (pe_bm PySem.F.plainAttrs_list PySem.F.slot_list_pop PySem.F.type_list_pop mt_popAt (pv 2)
          (pa_cons (pc CT hr (pa_cons (pv 0) (pa_cons (pe_callB (cl_len K) (by rfl) B.len PySem.boot_len (pa_cons (pv 2) pa_nil)) pa_nil))) pa_nil)) pa_nil)))))
      (pss_one (ps_ret (pe_tupleF (by rfl) B.tuple (pv 3))))), ?_⟩
    refine ⟨_, rfl, (n : Int), rfl, ⟨by omega, by omega, by omega, by omega, by omega⟩, fun l hl => ⟨Nat.zero_le _, fun g hg => ⟨_, _, rfl, ?_⟩⟩⟩
    have hlg : l ≠ g := ne_of_none upd_same hg
    have hgH : H g = none := by
      rw [upd_ne (Ne.symm hlg)] at hg
      exact hg
    have hpl : p ≠ l := hR.ne hl
    have hpg : p ≠ g := hR.ne hgH
    refine ⟨_, rfl, (n : Int), rfl, by omega, by omega, ?_⟩
    rw [Int.toNat_natCast]
    refine for_range (lo := 0) (n := n) (fun i σ H' => ∃ (ls fs : List Int) (y4 : Option V), σ = [some (.ref p), some (.int (n : Int)), some (.ref l), some (.ref g), y4] ∧ But p H H' ∧ Row K H' p ∧ H' l = some (.lst (ls.map V.int)) ∧ H' g = some (.lst (fs.map V.int)) ∧ (fs ++ ls).Perm (rg n) ∧ fs.length = i)
      ⟨rg n, [], none, rfl, But.same (Same.trans (same_new hl) (same_new hg)), (hR.new hl).new hg, ?_, upd_same, List.Perm.refl _, rfl⟩ (fun i σ H1 hi h' => ?_) (fun σ H1 h' => ?_)
    · rw [upd_ne hlg, upd_same, rgV_rg]
    · obtain ⟨ls, fs, y4, rfl, hB, hR1, e1, e2, hpm, lf⟩ := h'
      have len1 : fs.length + ls.length = n := by
        have := hpm.length_eq
        rw [List.length_append, rg_len] at this
        exact this
      refine ⟨_, rfl, .inl ⟨rfl, _, lstAt e2⟩, _, rfl, .inl ⟨rfl, _, lstAt e1⟩, _, rfl, _, rfl, l, _, rfl, .inl (lstAt e1), p, _, rfl, hR1, by rw [List.length_map]; omega, by rw [List.length_map]; omega, fun k H3 k0 k1 hB3 hR3 => ?_⟩
      rw [List.length_map] at k1
      have e1' := hB3 _ _ e1 (Ne.symm hpl)
      have e2' := hB3 _ _ e2 (Ne.symm hpg)
      have hk : k.toNat < ls.length := by omega
      obtain ⟨v, hv⟩ : ∃ v, ls[k.toNat]? = some v := ⟨_, List.getElem?_eq_getElem hk⟩
      have e2u : (upd H3 l (.lst ((ls.map V.int).eraseIdx k.toNat))) g = some (.lst (fs.map V.int)) := by
        rw [upd_ne (Ne.symm hlg)]
        exact e2'
      refine ⟨l, _, k, k.toNat, .int v, rfl, rfl, e1', by omega, by omega, ?_, at_map hv, g, _, .int v, rfl, rfl, e2u, by rw [List.length_map]; exact small1000 (by omega), ?_⟩
      · rw [List.length_map]
        exact ix_nat k0 k1
      · refine ⟨ls.eraseIdx k.toNat, fs ++ [v], _, rfl, ((hB.trans hB3).fresh hl).fresh hgH, (hR3.lst_upd e1' hpl).lst_upd e2u hpg, ?_, ?_, ?_, by rw [List.length_append, lf]; rfl⟩
        · rw [upd_ne hlg, upd_same, map_erase]
        · rw [upd_same, List.map_append]
          rfl
        · have hp2 := perm_erase hv
          refine List.Perm.trans ?_ hpm
          rw [List.append_assoc]
          exact List.Perm.append_left fs hp2.symm
    · obtain ⟨ls, fs, y4, rfl, hB, hR1, e1, e2, hpm, lf⟩ := h'
      have len1 := hpm.length_eq
      rw [List.length_append, rg_len] at len1
      have : ls = [] := List.eq_nil_of_length_eq_zero (by omega)
      subst this
      rw [List.append_nil] at hpm
      refine ⟨_, rfl, g, _, rfl, lstAt e2, fun t ob ht hob => ?_⟩
      have st := same_new (o := .frz ob (.tup (fs.map V.int))) ht
      exact q _ (.ref t) fs hpm (hB.trans (But.same st)) (hR1.same st) ⟨t, rfl, ob, upd_same, hob⟩
end
end RH
set_option Elab.async false
set_option linter.all false
set_option maxRecDepth 100000
set_option maxHeartbeats 2000000
namespace RH
open PySem PySem.Spec PyProof.Rows L2
/-! ### house_moves -/
section
variable {P : Program} {w : World} {K : PySem.W.Frag} {mg : Str → Option Value} {base : Heap}
/-- the rooms of a house behind the move of a room -/
def hsRow (hs ms : List Int) (u : Nat) (i : Nat) : List Int := (if i = u then ms else rg ms.length).map fun g => hs.getD i 0 * (ms.length : Int) + g
def hsMv (hs ms : List Int) (u : Nat) : List Int := (List.range hs.length).flatMap (hsRow hs ms u)
def spHouse (K : PySem.W.Frag) : Sp := fun vs H Q _ => ∃ (v v2 : V) (u : Nat) (hs ms : List Int), vs = [v, .int (u : Int), v2] ∧ TI K H v hs ∧ TI K H v2 ms ∧ hs.length ≤ 5 ∧ ms.length ≤ 5 ∧ ∀ H' y, Same H H' → TI K H' y (hsMv hs ms u) → Q y H'
theorem ok_house (F : Df K mg "house_moves" st_house_moves ["houses", "house", "moves"]) (B : Bu mg) : Cal P w K mg base 1 "house_moves" (spHouse K) := by
  refine mkCal F sc_house_moves (fun vs H Q E h => ?_) (fun f cdv A outer s H vs Q E hr h => ?_)
  · obtain ⟨v, v2, u, hs, ms, rfl, _⟩ := h
    rfl
  · obtain ⟨v, v2, u, hs, ms, rfl, ⟨a, rfl, hS⟩, ⟨b, rfl, hM⟩, l5, m5, q⟩ := h
    refine ⟨_, pss_cons (ps_set (i := 3) sc_house_moves.nd rfl (.inr rfl) (pe_callB (cl_len K) (by rfl) B.len PySem.boot_len (pa_cons (pv 2) pa_nil)))
      (pss_cons (ps_set (i := 4) sc_house_moves.nd rfl (.inl rfl) (pe_lst pa_nil))
      (pss_cons (ps_for PassesOwn.never rfl (pi_range1 (by rfl) B.range (pa_cons (pe_callB (cl_len K) (by rfl) B.len PySem.boot_len (pa_cons (pv 0) pa_nil)) pa_nil)) (pg_name (i := 5) sc_house_moves.nd rfl (.inr rfl))
        (pss_cons (ps_cutM (ps_set (i := 6) sc_house_moves.nd rfl (.inl rfl) (pe_ifExp (pt_cmpR op_eq (pv 5) (pv 1) (nomark _)) (pv 2) (pe_tupRg rfl (by rfl) B.tuple (prg_1 (by rfl) B.range (pv 3))))))
        (pss_one (ps_expr (pe_bm PySem.F.plainAttrs_list PySem.F.slot_list_extend PySem.F.type_list_extend mt_extend (pv 4) (pa_cons (pe_lc (own := [("goal", 7)]) (g := gName 7) (tt := tYes) rfl sc_house_moves.nd (pi_tup (pv 6))
          (blkOk_by (N := ["houses", "house", "moves", "many", "rows", "at", "inside", "goal"]) (sc := defScope st_house_moves) (by decide +kernel)) (fun _ _ _ _ _ => pg_name (i := 7) sc_house_moves.nd rfl (Or.inl rfl)) (fun _ _ _ _ _ => pts_nil)
          (fun _ _ _ _ _ => pe_op op_add (pe_op op_mul (pe_ix (ixT K) (pv 0) (pv 5) (fun _ _ => rfl)) (pv 3)) (pv 7))) pa_nil))))))
      (pss_one (ps_ret (pe_tupleOf (by rfl) B.tuple (pv 4))))))  , ?_⟩
    refine ⟨_, rfl, b, ms.map V.int, rfl, .inr hM, Nat.zero_le _, fun r hr0 => ?_⟩
    have s1 := same_new (o := .lst []) hr0
    have er1 : (upd H r (.lst [])) r = some (.lst []) := upd_same
    refine ⟨_, rfl, a, hs.map V.int, rfl, .inr (onT s1 hS), ((hs.map V.int).length : Int), rfl, by rw [List.length_map]; omega, by rw [List.length_map]; omega, ?_⟩
    rw [Int.toNat_natCast, List.length_map, List.length_map]
    refine for_range (lo := 0) (n := hs.length) (fun i σ H' => ∃ y5 y6 y7, σ = [some (.ref a), some (.int (u : Int)), some (.ref b), some (.int (ms.length : Int)), some (.ref r), y5, y6, y7] ∧ Same H H' ∧ H' r = some (.lst (((List.range i).flatMap (hsRow hs ms u)).map V.int)) ∧ ((List.range i).flatMap (hsRow hs ms u)).length = i * ms.length)
      ⟨none, none, none, rfl, s1, er1, by simp⟩ (fun i σ H1 hi h' => ?_) (fun σ H1 h' => ?_)
    · obtain ⟨y5, y6, y7, rfl, sm, er, ln⟩ := h'
      rw [Int.zero_add]
      obtain ⟨z, hz⟩ : ∃ z, hs[i]? = some z := ⟨_, List.getElem?_eq_getElem hi⟩
      have ez : hs.getD i 0 = z := by rw [List.getD_eq_getElem?_getD, hz]; rfl
      refine ⟨fun σ' H' => ∃ t, σ' = [some (.ref a), some (.int (u : Int)), some (.ref b), some (.int (ms.length : Int)), some (.ref r), some (.int (i : Int)), some (.ref t), y7] ∧ Same H1 H' ∧ SqT K H' t ((if i = u then ms else rg ms.length).map V.int), fun σ2 H2 g2 => ?_, ?_⟩
      case refine_2 =>
        refine ⟨_, rfl, _, rfl, rfl, _, rfl, ?_⟩
        rw [dec_int]
        by_cases e : i = u
        · have : ((i : Int) == (u : Int)) = true := by rw [e]; exact beq_self_eq_true _
          rw [this, if_pos e]
          exact ifT rfl ⟨_, rfl, b, rfl, Same.refl _, onT sm hM⟩
        · have : ((i : Int) == (u : Int)) = false := beq_eq_false_iff_ne.mpr (by omega)
          rw [this, if_neg e]
          refine ifF rfl ⟨_, rfl, (ms.length : Int), rfl, ⟨by omega, by omega, by omega, by omega, by omega⟩, fun t ht => ⟨t, rfl, same_new ht, tupAt ?_⟩⟩
          rw [upd_same, rgV_rg]
      obtain ⟨t, rfl, s2, hSt⟩ := g2
      have er2 := s2 _ _ er
      have lin : (if i = u then ms else rg ms.length).length = ms.length := by
        split
        · rfl
        · exact rg_len _
      refine ⟨_, rfl, .inl ⟨rfl, _, lstAt er2⟩, _, rfl, t, rfl, ⟨_, hSt⟩, fun D hD => ?_⟩
      refine lc_tup (xs := (if i = u then ms else rg ms.length).map V.int) (fun j H' => Same H2 H' ∧ H' D = some (.lst ((((if i = u then ms else rg ms.length).take j).map fun g => hs.getD i 0 * (ms.length : Int) + g).map V.int))) ⟨same_new hD, upd_same⟩ (fun j H' _ h3 => onT h3.1 hSt) (fun j y H' hy h3 => ?_) (fun H' h3 => ?_)
      · obtain ⟨g, hg, rfl⟩ := map_at hy
        obtain ⟨s3, eD⟩ := h3
        have sA := sm.trans (s2.trans s3)
        have mulok : CMul z (ms.length : Int) := .inr ⟨by omega, by omega⟩
        refine ⟨rfl, _, rfl, _, rfl, a, hs.map V.int, (i : Int), .int z, rfl, rfl, onT sA hS, atI_nat (by rw [List.getElem?_map, hz]; rfl), _, rfl, z, (ms.length : Int), rfl, rfl, mulok, _, rfl, _, g, rfl, rfl, _, eD, by rw [List.length_map, List.length_map, List.length_take, lin]; exact small1000 (by omega), ?_, ?_⟩
        · exact fun c ob ec => by rw [upd_ne (ne_of_none ec hD)]; exact s3 c ob ec
        · rw [upd_same, List.take_add_one, hg, List.map_append, List.map_append, ez]
          rfl
      · obtain ⟨s3, eD⟩ := h3
        rw [List.length_map, List.take_length] at eD
        have er3 := s3 _ _ er2
        refine ⟨r, D, _, _, rfl, rfl, er3, eD, by rw [List.length_map, List.length_map, List.length_map, ln, lin, sizeLine_eq]; have : i * ms.length ≤ 5 * 5 := Nat.mul_le_mul (by omega) m5; omega, _, _, _, rfl, ?_, ?_, ?_⟩
        · exact fun c ob ec => by rw [upd_ne (ne_of_none ec hr0)]; exact (sm.trans (s2.trans s3)) c ob ec
        · rw [upd_same, List.range_succ, List.flatMap_append, List.map_append]
          congr 3
          show _ = List.map V.int (List.flatMap (hsRow hs ms u) [i])
          rw [List.flatMap_cons, List.flatMap_nil, List.append_nil]
          rfl
        · rw [List.range_succ, List.flatMap_append, List.length_append, ln]
          show _ + (List.flatMap (hsRow hs ms u) [i]).length = _
          rw [List.flatMap_cons, List.flatMap_nil, List.append_nil]
          unfold hsRow
          rw [List.length_map, lin, Nat.add_mul, Nat.one_mul]
    · obtain ⟨y5, y6, y7, rfl, sm, er, ln⟩ := h'
      refine ⟨_, rfl, .inl ⟨r, _, rfl, lstAt er, fun t ht => ?_⟩⟩
      exact q _ (.ref t) (sm.trans (same_new ht)) ⟨t, rfl, tupAt upd_same⟩
end
end RH
set_option Elab.async false
set_option linter.all false
set_option maxRecDepth 100000
set_option maxHeartbeats 2000000
namespace RH
open PySem PySem.Spec PyProof.Rows L2
/-! ### within -/
section
variable {K : PySem.W.Frag} {g : TG} {tt : TT} {vs : List Nat} {σ : L2.St} {D : Addr}
/-- a turn of the second clause adds what it makes -/
def addL (D : Addr) (Nx : Hp → Prop) : VK := fun y H => ∃ acc, H D = some (.lst acc) ∧ acc.length < sizeLine ∧ Nx (upd H D (.lst (acc ++ [y])))
theorem in_tupL {g1 : TG} {tt1 : TT} {te : TE} {vs1 : List Nat} {σ2 : L2.St} {H4 : Hp} {b : Addr} {ys : List V} {Nx : Hp → Prop} (at_ : Nat → Hp → Prop) (start : at_ 0 H4) (stay : ∀ j H, j ≤ ys.length → at_ j H → SqT K H b ys)
    (turn : ∀ j y H, ys[j]? = some y → at_ j H → g1 y (wipe σ2 vs1) H fun σ3 H5 => wipe σ3 vs1 = wipe σ2 vs1 ∧ tt1 σ3 H5 fun c H6 => if c = true then te σ3 H6 (addL D (at_ (j + 1))) else at_ (j + 1) H6) (last : ∀ H, at_ ys.length H → Nx H) :
    ∃ W1 : Nat → Nat → Hp → Prop, (∃ m, W1 0 m H4) ∧ ∀ j k H, W1 j k H → ((Itt K b).stop j H ∧ Nx H) ∨ ((Itt K b).go j H ∧ ∃ Nx1 : Hp → Prop, (∀ H', Nx1 H' → ∃ k', k' < k ∧ W1 (j + 1) k' H') ∧
      ∀ x H', (Itt K b).yld j H x H' → g1 x (wipe σ2 vs1) H' fun σ3 H5 => wipe σ3 vs1 = wipe σ2 vs1 ∧ tt1 σ3 H5 fun c H6 => if c = true then te σ3 H6 (addL D Nx1) else Nx1 H6) := by
  refine ⟨fun j k H => k + j = ys.length ∧ at_ j H, ⟨ys.length, rfl, start⟩, fun j k H h => ?_⟩
  obtain ⟨e, p⟩ := h
  have q := stay j H (by omega) p
  cases k with
  | zero =>
    obtain rfl : j = ys.length := by omega
    exact .inl ⟨⟨ys, q, Nat.le_refl _⟩, last H p⟩
  | succ k =>
    have lt : j < ys.length := by omega
    refine .inr ⟨⟨ys, ys[j], q, List.getElem?_eq_getElem lt⟩, at_ (j + 1), fun H' p' => ⟨k, Nat.lt_succ_self k, by omega, p'⟩, fun x H' y => ?_⟩
    obtain ⟨rfl, y⟩ := y
    exact turn j x _ (y ys q) p
/-- the first of two clauses walks an enumerate -/
theorem out_enumL {H1 : Hp} {a : Addr} {xs : List V} {Qd : Hp → Prop} (body : (Hp → Prop) → L2.St → Hp → Prop) (at_ : Nat → Hp → Prop) (start : at_ 0 (upd H1 D (.lst []))) (stay : ∀ i H, i ≤ xs.length → at_ i H → SqT K H a xs)
    (turn : ∀ i x T H, xs[i]? = some x → at_ i H → H T = none → g (.ref T) (wipe σ vs) (upd H T (.tup [.int (i : Nat), x])) fun σ2 H2 => wipe σ2 vs = wipe σ vs ∧ tt σ2 H2 fun c H3 => if c = true then body (at_ (i + 1)) σ2 H3 else at_ (i + 1) H3) (last : ∀ H, at_ xs.length H → Qd H) :
    ∃ W : Nat → Nat → Hp → Prop, (∃ m, W 0 m (upd H1 D (.lst []))) ∧ ∀ i m H, W i m H → ((IteT K a).stop i H ∧ Qd H) ∨ ((IteT K a).go i H ∧ ∃ Nx : Hp → Prop, (∀ H', Nx H' → ∃ m', m' < m ∧ W (i + 1) m' H') ∧
      ∀ x H', (IteT K a).yld i H x H' → g x (wipe σ vs) H' fun σ2 H2 => wipe σ2 vs = wipe σ vs ∧ tt σ2 H2 fun c H3 => if c = true then body Nx σ2 H3 else Nx H3) := by
  refine ⟨fun i m H => m + i = xs.length ∧ at_ i H, ⟨xs.length, rfl, start⟩, fun i m H h => ?_⟩
  obtain ⟨e, p⟩ := h
  have q := stay i H (by omega) p
  cases m with
  | zero =>
    obtain rfl : i = xs.length := by omega
    exact .inl ⟨⟨xs, q, Nat.le_refl _⟩, last H p⟩
  | succ m =>
    have lt : i < xs.length := by omega
    refine .inr ⟨⟨xs, xs[i], q, List.getElem?_eq_getElem lt⟩, at_ (i + 1), fun H' p' => ⟨m, Nat.lt_succ_self m, by omega, p'⟩, fun x H' y => ?_⟩
    obtain ⟨T, x2, rfl, hT, rfl, y⟩ := y
    exact turn i x2 T H (y xs q) p hT
end
/-- one shelf within another: house by house -/
def hsAll (h g : List (List Int)) (i : Nat) : List (List Int) := g.map fun ms => hsMv (h.getD i []) ms i
def withH (h g : List (List Int)) : List (List Int) := (List.range h.length).flatMap (hsAll h g)
theorem with_len (h g : List (List Int)) : ∀ i, ((List.range i).flatMap (hsAll h g)).length = i * g.length
  | 0 => by simp
  | i + 1 => by
    rw [List.range_succ, List.flatMap_append, List.length_append, with_len h g i, List.flatMap_cons, List.flatMap_nil, List.append_nil]
    unfold hsAll
    rw [List.length_map, Nat.add_mul, Nat.one_mul]
section
variable {P : Program} {w : World} {K : PySem.W.Frag} {mg : Str → Option Value} {base : Heap} {Cb Cm : Addr}
def spWithin (K : PySem.W.Frag) (Cm : Addr) : Sp := fun vs H Q E => ∃ (v v2 : V) (h g : List (List Int)) (m n : Nat), vs = [v, v2] ∧ TII K H v h ∧ TII K H v2 g ∧ Hb m h ∧ Hb n g ∧ (5 < m * n → bhE Cm "most" (.int 5) H E) ∧ (m * n ≤ 5 → ∀ H' u, Same H H' → TII K H' u (withH h g) → Q u H')
theorem ok_within (F : Df K mg "within" st_within ["outer", "inner"]) (B : Bu mg) (CH : CalX P w K mg base 6 "check_habit" (spCheckHabitX K Cb)) (CT : CalX P w K mg base 3 "check_together" (spTog Cm)) (CHs : Cal P w K mg base 1 "house_moves" (spHouse K)) : CalX P w K mg base 7 "within" (spWithin K Cm) := by
  refine mkCalX F sc_within (fun vs H Q E h => ?_) (fun f cdv A outer s H vs Q E hr h => ?_)
  · obtain ⟨v, v2, h, o, m, n, rfl, _⟩ := h
    rfl
  · obtain ⟨v, v2, h, o, m, n, rfl, hT, hT2, hb, hb2, bad, q⟩ := h
    refine ⟨_, pss_cons (ps_expr (pcX CH passE hr (pa_cons (pv 0) pa_nil))) (pss_cons (ps_expr (pcX CH passE hr (pa_cons (pv 1) pa_nil)))
      (pss_cons (ps_expr (pcX CT passE hr (pa_cons (pe_op op_mul (pe_callB (cl_len K) (by rfl) B.len PySem.boot_len (pa_cons (pv 0) pa_nil)) (pe_callB (cl_len K) (by rfl) B.len PySem.boot_len (pa_cons (pv 1) pa_nil))) pa_nil)))
      (pss_one (ps_ret (pe_tupleOf (by rfl) B.tuple (pe_lc2 (own := [("house", 2), ("houses", 3), ("moves", 4)]) (vs1 := [4]) (wi1 := iTup K (tVar 1)) (te := tCall (spHouse K) [] E0 (tCons (tVar 3) (tCons (tVar 2) (tCons (tVar 4) tNil)))) (g := gTup K 2 (gCons (gName 2) (gCons (gName 3) gNil))) (tt := tYes) (g1 := gName 4) (tt1 := tYes) rfl sc_within.nd (pi_enumT (by rfl) B.enumerate (pa_cons (pv 0) pa_nil))
        (blkOk_by (N := ["outer", "inner", "house", "houses", "moves"]) (sc := defScope st_within) (by decide +kernel)) (by decide) (fun _ _ _ _ _ => pg_tup rfl (pgs_cons (pg_name (i := 2) sc_within.nd rfl (Or.inl rfl)) (pgs_cons (pg_name (i := 3) sc_within.nd rfl (Or.inl rfl)) pgs_nil))) (fun _ _ _ _ _ => pts_nil)
        (fun _ _ _ _ _ => pi_tup (pv 1)) (fun _ _ _ _ _ => pg_name (i := 4) sc_within.nd rfl (Or.inl rfl)) (fun _ _ _ _ _ => pts_nil)
        (fun _ _ _ _ _ => pc CHs hr (pa_cons (pv 3) (pa_cons (pv 2) (pa_cons (pv 4) pa_nil)))))))))), ?_⟩
    have hk1 := hk_of hT hb
    have hk2 := hk_of hT2 hb2
    have m5 := hb.hi
    have n5 := hb2.hi
    have hl := hb.len
    have ol := hb2.len
    obtain ⟨a, xs, rfl, hS, hE⟩ := id hT
    obtain ⟨b, ys, rfl, hS2, hE2⟩ := id hT2
    have lx : xs.length = m := hE.len.trans hb.len
    have ly : ys.length = n := hE2.len.trans hb2.len
    refine ⟨_, rfl, _, _, rfl, hk1, fun _ H1 s1 => ?_, fun pl e => (by rw [hb_ok hb] at e; cases e)⟩
    refine ⟨_, rfl, _, _, rfl, hk2.on s1, fun _ H2 s2 => ?_, fun pl e => (by rw [hb_ok hb2] at e; cases e)⟩
    have s12 := s1.trans s2
    have mulok : CMul (xs.length : Int) (ys.length : Int) := .inr ⟨by omega, by omega⟩
    have emul : (xs.length : Int) * (ys.length : Int) = ((m * n : Nat) : Int) := by rw [lx, ly]; exact (Int.natCast_mul m n).symm
    refine ⟨_, rfl, a, xs, rfl, .inr (onT s12 hS), _, rfl, b, ys, rfl, .inr (onT s12 hS2), (xs.length : Int), (ys.length : Int), rfl, rfl, mulok, _, rfl, fun le => ?_, fun gt => (bad (by rw [emul] at gt; omega)).on s12⟩
    have few : m * n ≤ 5 := by rw [emul] at le; omega
    refine ⟨_, rfl, a, xs, rfl, onT s12 hS, fun D hD => ?_⟩
    refine out_enumL (xs := xs) _ (fun i H' => Same H2 H' ∧ ∃ us, H' D = some (.lst us) ∧ Each (TI K H') us ((List.range i).flatMap (hsAll h o))) ⟨same_new hD, [], upd_same, .nil⟩ (fun i H' _ h' => onT (s12.trans h'.1) hS) (fun i x T H' hx h' hT' => ?_) (fun H' h' => ?_)
    · obtain ⟨sm, us, eD, eu⟩ := h'
      obtain ⟨hs, hhs, hr1⟩ := hE.at hx
      have hi : i < m := by
        have := (List.getElem?_eq_some_iff.mp hhs).1
        omega
      have ehs : h.getD i [] = hs := by rw [List.getD_eq_getElem?_getD, hhs]; rfl
      have lhs := perm_len (hb.perm hs (List.mem_of_getElem? hhs))
      have sT := same_new (o := .tup [.int (i : Nat), x]) hT'
      have eDT := sT _ _ eD
      have sA := s12.trans (sm.trans sT)
      refine ⟨T, _, rfl, tupAt upd_same, rfl, _, _, rfl, _, _, rfl, rfl, rfl, ?_⟩
      refine ⟨_, rfl, b, rfl, ⟨_, onT sA hS2⟩, ?_⟩
      refine in_tupL (ys := ys) (fun j H3 => Same H2 H3 ∧ ∃ us, H3 D = some (.lst us) ∧ Each (TI K H3) us ((List.range i).flatMap (hsAll h o) ++ (hsAll h o i).take j))
        ⟨sm.trans sT, us, eDT, by rw [List.take_zero, List.append_nil]; exact eu.imp fun _ _ z => z.on (Same.tups sT)⟩ (fun j H3 _ h3 => onT (s12.trans h3.1) hS2) (fun j y H3 hy h3 => ?_) (fun H3 h3 => ?_)
      · obtain ⟨ms, hms, hr2⟩ := hE2.at hy
        obtain ⟨sm3, us3, eD3, eu3⟩ := h3
        have lms := perm_len (hb2.perm ms (List.mem_of_getElem? hms))
        refine ⟨rfl, ?_⟩
        refine ⟨_, rfl, _, rfl, _, rfl, x, y, i, hs, ms, rfl, hr1.on (Same.tups (s12.trans sm3)), hr2.on (Same.tups (s12.trans sm3)), by omega, by omega, fun H4 u s4 hu => ⟨us3, s4 _ _ eD3, ?_, ?_, us3 ++ [u], upd_same, ?_⟩⟩
        · have z1 := eu3.len
          have z2 := with_len h o i
          have z3 : (hsAll h o i).length = n := by unfold hsAll; rw [List.length_map, ol]
          rw [List.length_append, List.length_take, z2, z3, ol] at z1
          have z4 : i * n ≤ 5 * 5 := Nat.mul_le_mul (by omega) n5
          exact small1000 (by omega)
        · exact fun c ob ec => by rw [upd_ne (ne_of_none ec hD)]; exact s4 _ _ (sm3 c ob ec)
        · have fx : Tups K _ _ := (Fix.lst (o := .lst (us3 ++ [u])) (s4 _ _ eD3)).tups
          have em : (hsAll h o i)[j]? = some (hsMv hs ms i) := by
            unfold hsAll
            rw [List.getElem?_map, hms, ehs]
            rfl
          rw [List.take_add_one, em, ← List.append_assoc]
          exact (eu3.imp fun _ _ z => (z.on (Same.tups s4)).on fx).appE (.cons (hu.on fx) .nil)
      · obtain ⟨sm3, us3, eD3, eu3⟩ := h3
        refine ⟨sm3, us3, eD3, ?_⟩
        have z3 : (hsAll h o i).length = ys.length := by unfold hsAll; rw [List.length_map, ol, ly]
        rw [← z3, List.take_length] at eu3
        rw [List.range_succ, List.flatMap_append, List.flatMap_cons, List.flatMap_nil, List.append_nil]
        exact eu3
    · obtain ⟨sm, us, eD, eu⟩ := h'
      refine .inl ⟨D, us, rfl, lstAt eD, fun t ht => ?_⟩
      have s9 := same_new (o := .tup us) ht
      refine q few _ (.ref t) (s12.trans (sm.trans s9)) ⟨t, us, rfl, tupAt upd_same, ?_⟩
      unfold withH
      rw [hl, ← lx]
      exact eu.imp fun _ _ z => z.on (Same.tups s9)
end
end RH
set_option Elab.async false
set_option linter.all false
set_option maxRecDepth 100000
set_option maxHeartbeats 2000000
namespace RH
open PySem PySem.Spec PyProof.Rows L2
open NdefX (NScope CellsAt Caps slotAt cells_of startF ncx)
/-! ### a touch as a function that is handed on -/
section
variable {P : Program} {w : World} {K : PySem.W.Frag} {mg : Str → Option Value} {base : Heap} {CX : CXT} {k : Nat} {f : Addr} {live live' : Hp → Prop} {sp sp' : Sp} {outer : List Env} {s : Shared} {H : Hp}
theorem Callable.imp (c : Callable P w K mg base CX k f live sp outer s H) (hl : ∀ H, live' H → live H) (hs : ∀ vs H Q E, live' H → sp' vs H Q E → sp vs H Q E) : Callable P w K mg base CX k f live' sp' outer s H :=
  ⟨fun X e1 e2 e3 e4 e5 e6 pins σ H' s' I l => c.at_ X e1 e2 e3 e4 e5 e6 pins σ H' s' I (hl _ l),
    fun X e1 e2 e3 e4 e5 e6 e7 e8 e9 hr pins σ H' s' us vs Q E I l r hx q => c.run X e1 e2 e3 e4 e5 e6 e7 e8 e9 hr pins σ H' s' us vs Q E I (hl _ l) r hx (hs _ _ _ _ l q)⟩
end
def retArg (st : Stmt) (i : Nat) : Expr := match defBody st with
  | [.Return (some (.Call _ as _ _)) _] => as.getD i (.Constant .none 0 ⟨0, 0, 0, 0⟩)
  | _ => .Constant .none 0 ⟨0, 0, 0, 0⟩
def lamP : Expr → Arguments
  | .Lambda p _ _ _ => p
  | _ => defArgs st_law
def lamB : Expr → Expr
  | .Lambda _ b _ _ => b
  | e => e
def lamS : Expr → Scope
  | .Lambda _ _ sc _ => sc
  | _ => defScope st_law
def lamO : Expr → Pos
  | .Lambda _ _ _ p => p
  | _ => ⟨0, 0, 0, 0⟩
abbrev lam1 : Expr := retArg st_layout_depths 2
theorem ns1 : NScope ["one", "place", "habit"] ["one", "place"] ["habit"] (lamS lam1) := NdefX.nscope_by (by decide +kernel)
section
variable {P : Program} {w : World} {K : PySem.W.Frag} {mg : Str → Option Value} {base : Heap}
/-- what a step promises -/
def spStep (h : List (List Int)) (n : Nat) : Sp := fun vs H Q _ => ∃ (a : Addr) (L : List Int) (p : Int), vs = [.ref a, .int p] ∧ KX H a L ∧ (∀ i ∈ L, InR n i) ∧ L.length ≤ 1000 ∧ InR n p ∧
  ∀ H' q, Same H H' → H q = none → FT H' q (stp h p L) → Q (.ref q) H'
def spLam1 (K : PySem.W.Frag) (h : List (List Int)) (n : Nat) : List (Option V) → Sp := fun ws vs H Q E => ∃ v, ws = [some v] ∧ TII K H v h ∧ Hb n h ∧ spStep h n vs H Q E
theorem lok1 (CM : Cal P w K mg base 1 "move" (spMove K)) (h : List (List Int)) (n : Nat) (q : Str) (cl : List (Str × Addr)) (c f : Addr) : LOk P w K mg base CX0 2 f ⟨q, lamP lam1, lamB lam1, lamS lam1, cl, c⟩ ["one", "place"] ["habit"] (spLam1 K h n) := by
  refine lok_of ns1 (fun pm ctv us hl => ?_) (fun ws vs H Q E hq => ?_) (fun A outer s H vs ws Q E hr _ hsp => ?_)
  · match us, hl with
    | [_, _], _ => rfl
  · obtain ⟨v, _, _, _, a, L, p, rfl, _⟩ := hq
    rfl
  · obtain ⟨v, rfl, hT, hb, a, L, p, rfl, ha, hin, hlen, hp, q⟩ := hsp
    refine ⟨_, pc CM hr (pa_cons (pv 2) (pa_cons (pv 0) (pa_cons (pv 1) pa_nil))), ?_⟩
    exact ⟨_, rfl, _, rfl, _, rfl, v, h, n, a, L, p, rfl, hT, hb, .inl ha, hin, hlen, hp, q⟩
end
end RH
set_option Elab.async false
set_option linter.all false
set_option maxRecDepth 100000
set_option maxHeartbeats 2000000
namespace RH
open PySem PySem.Spec PyProof.Rows L2
/-! ### the search for depths -/
/-- tuples stay -/
def TK (H H' : Hp) : Prop := ∀ b xs, Rd H b (.tup xs) → Rd H' b (.tup xs)
theorem TK.refl (H : Hp) : TK H H := fun _ _ e => e
theorem TK.trans {H H1 H2 : Hp} (a : TK H H1) (b : TK H1 H2) : TK H H2 := fun c xs e => b c xs (a c xs e)
theorem TK.same {H H1 : Hp} (a : Same H H1) : TK H H1 := fun c xs e => by
  rcases e with e | ⟨o, e⟩
  · exact .inl (a c _ e)
  · exact .inr ⟨o, a c _ e⟩
/-- what holds no tuple -/
def NoT (o : HO) : Prop := (∀ xs, o ≠ .tup xs) ∧ ∀ ob u, o ≠ .frz ob u
theorem TK.upd {H : Hp} {p : Addr} {o o' : HO} (h : H p = some o) (n : NoT o) : TK H (upd H p o') := fun b xs e => by
  by_cases z : b = p
  · subst z
    rcases e with e | ⟨ob, e⟩
    · rw [h] at e
      exact absurd (Option.some.inj e) (n.1 xs)
    · rw [h] at e
      exact absurd (Option.some.inj e) (n.2 ob _)
  · rcases e with e | ⟨ob, e⟩
    · exact .inl (by rw [upd_ne z]; exact e)
    · exact .inr ⟨ob, by rw [upd_ne z]; exact e⟩
theorem EX.on {H H' : Hp} {xs : List V} {ls : List (List Int)} (e : TK H H') (h : EX H xs ls) : EX H' xs ls := h.imp fun b s z => e b _ z
theorem KB.on {H H' : Hp} {as : List (List Int × V)} {bs : List Addr} (e : TK H H') (h : KB H as bs) : KB H' as bs := h.imp fun b s z => e b _ z
theorem Same.upd {H H' : Hp} {p : Addr} {o : HO} (a : Same H H') (h : H p = none) : Same H (upd H' p o) := fun b u e => by
  rw [upd_ne (ne_of_none e h)]
  exact a b u e
theorem not_tup_l {xs : List V} : NoT (.lst xs) := ⟨fun _ z => (nomatch z), fun _ _ z => (nomatch z)⟩
theorem not_tup_d {φ : Heap → Prop} : NoT (.ext φ) := ⟨fun _ z => (nomatch z), fun _ _ z => (nomatch z)⟩
/-- what a search is handed: the step, what keeps it alive, the habit -/
structure GD where
  f : Addr
  live : Hp → Prop
  h : List (List Int)
  n : Nat
section
variable {P : Program} {w : World} {K : PySem.W.Frag} {mg : Str → Option Value} {base : Heap}
/-- the value of a state is the length of its word -/
def valD (q : SW) : List Int × V := (q.1, .int (q.2.length : Nat))
theorem valD_fst (l : List SW) : (l.map valD).map Prod.fst = l.map Prod.fst := by
  rw [List.map_map]
  rfl
theorem fst_snoc {bs : List (List Int × V)} {ls : List SW} {x : List Int × V} {y : SW} (h : bs.map Prod.fst = ls.map Prod.fst) (e : x.1 = y.1) : (bs ++ [x]).map Prod.fst = (ls ++ [y]).map Prod.fst := by
  rw [List.map_append, List.map_append, h, List.map_singleton, List.map_singleton, e]
def preD (P : Program) (w : World) (K : PySem.W.Frag) (mg : Str → Option Value) (base : Heap) (g : GD) : List Env → Shared → Hp → Prop := fun outer s H => Callable P w K mg base CX0 2 g.f g.live (spStep g.h g.n) outer s H
def spDepths (P : Program) (w : World) (K : PySem.W.Frag) (g : GD) : Sp := fun vs H Q _ => ∃ (a t : Addr) (L : List Int), vs = [.ref a, .ref t, .ref g.f, .int 120] ∧ KX H a L ∧ SqT K H t ((rg g.n).map V.int) ∧
  (∀ H', Same H H' → g.live H') ∧ Hb g.n g.h ∧ L.Perm (rg g.n) ∧
  ∀ (H' : Hp) (d : Addr) (k : Nat) (bs : List Addr), Same H H' → H' d = some (DE P w ((fd g.h g.n L k).map valD) bs d) → KB H' ((fd g.h g.n L k).map valD) bs → lv g.h g.n L k = [] → Q (.ref d) H'
/-- what stands within a level -/
def MidB (P : Program) (w : World) (H : Hp) (h : List (List Int)) (n : Nat) (L : List Int) (R : Hp → List SW → List (List Int × V) → Prop) (k : Nat) (d l u : Addr) (xs : List V) (i j : Nat) (H' : Hp) : Prop :=
  ∃ (as : List (List Int × V)) (ks : List Addr) (us : List V), Same H H' ∧ H' d = some (DE P w as ks d) ∧ KB H' as ks ∧ as.map Prod.fst = (fd h n L k ++ prt h n L k (i * n + j)).map Prod.fst ∧ R H' (fd h n L k ++ prt h n L k (i * n + j)) as ∧
    H' l = some (.lst xs) ∧ EX H' xs ((lv h n L k).map Prod.fst) ∧ H' u = some (.lst us) ∧ EX H' us ((prt h n L k (i * n + j)).map Prod.fst)
theorem lv_row {h : List (List Int)} {n : Nat} {L : List Int} {k i : Nat} {xs : List V} {x : V} {H : Hp} (hE : EX H xs ((lv h n L k).map Prod.fst)) (hx : xs[i]? = some x) : ∃ (q : SW) (b : Addr), (lv h n L k)[i]? = some q ∧ x = .ref b ∧ KX H b q.1 := by
  have hi : i < (lv h n L k).length := by
    have h1 := (List.getElem?_eq_some_iff.mp hx).1
    rw [hE.len, List.length_map] at h1
    exact h1
  have hq : (lv h n L k)[i]? = some (lv h n L k)[i] := List.getElem?_eq_getElem hi
  have hs : ((lv h n L k).map Prod.fst)[i]? = some ((lv h n L k)[i]).1 := by
    rw [List.getElem?_map, hq]
    rfl
  obtain ⟨b, h1, h2⟩ := hE.at hs
  rw [hx] at h1
  exact ⟨_, b, hq, Option.some.inj h1, h2⟩
theorem MidB.row {P : Program} {w : World} {H H' : Hp} {h : List (List Int)} {n : Nat} {L : List Int} {R : Hp → List SW → List (List Int × V) → Prop} {k : Nat} {d l u : Addr} {xs : List V} {i : Nat} (m : MidB P w H h n L R k d l u xs i n H') : MidB P w H h n L R k d l u xs (i + 1) 0 H' := by
  unfold MidB at m ⊢
  rw [show (i + 1) * n + 0 = i * n + n by rw [Nat.succ_mul]; rfl]
  exact m
theorem ok_depths {f : Addr} {fdat : FuncData} (F : Fun K "depths" "depths" st_depths f fdat) (B : Bu mg) (g : GD) : FnC P w K mg base CX0 3 f fdat ["start", "touches", "step", "most"] (preD P w K mg base g) (spDepths P w K g) := by
  refine fnC_of F sc_depths (fun vs H Q E h => ?_) (fun cdv A outer s H vs Q E hr hP h => ?_)
  · obtain ⟨a, t, L, rfl, _⟩ := h
    rfl
  · obtain ⟨a, t, L, rfl, ha, ht, hlive, hb, hL, q⟩ := h
    refine ⟨_, pss_cons (ps_set (i := 4) sc_depths.nd rfl (.inl rfl) (pe_disp1E hr.units0 (pv 0) pe_int))
      (pss_cons (ps_set (i := 5) sc_depths.nd rfl (.inl rfl) (pe_lst (pa_cons (pv 0) pa_nil)))
      (pss_cons (ps_while PassesOwn.never (PW.pt (pw_and (pt_truth (pv 5) (by intro _; rfl)) (pw_and1 (pt_cmpR op_le (pe_callB call_lenE (by rfl) B.len PySem.boot_len (pa_cons (pv 4) pa_nil)) (pv 3) (nomark _)))))
        (pss_cons (ps_set (i := 6) sc_depths.nd rfl (.inl rfl) (pe_lst pa_nil))
        (pss_cons (ps_for PassesOwn.never rfl (pi_list (pv 5)) (pg_name (i := 7) sc_depths.nd rfl (Or.inl rfl))
          (pss_one (ps_for PassesOwn.never rfl (pi_tup (pv 1)) (pg_name (i := 8) sc_depths.nd rfl (Or.inl rfl))
            (pss_cons (ps_set (i := 9) sc_depths.nd rfl (.inl rfl) (pe_can hP rfl hr (by decide) pass0 (i := 2) rfl (Or.inl rfl) (pa_cons (pv 7) (pa_cons (pv 8) pa_nil))))
            (pss_one (ps_if (pt_cmp (pc_dnotinE (hu_of hr) (pv 9) (pv 4)))
              (pss_cons (ps_dputE (hu_of hr) (pv 4) (pv 9) (pe_op op_add (pe_dgetE (hu_of hr) (pv 4) (pv 7) (fun _ _ => rfl)) pe_int) rfl)
              (pss_one (ps_expr (pe_bm PySem.F.plainAttrs_list PySem.F.slot_list_append PySem.F.type_list_append mt_append (pv 6) (pa_cons (pv 9) pa_nil))))) pss_nil))))))
        (pss_one (ps_set (i := 5) sc_depths.nd rfl (.inl rfl) (pv 6))))))
      (pss_one (ps_ret (pv 4))))), ?_⟩
    have n5 := hb.hi
    intro d hd
    refine ⟨_, rfl, upd_same, a, L, rfl, TK.same (same_new hd) _ _ ha, ?_⟩
    have hd1 : Same H (upd (upd H d (DE P w [] [] d)) d (DE P w [(L, .int 0)] [a] d)) := Same.upd (same_new hd) hd
    refine ⟨_, rfl, by show 1 ≤ sizeLine; decide, fun l hl => ?_⟩
    refine ⟨fun m σ H' => ∃ (k : Nat) (ks : List Addr) (xs : List V) (l : Addr), m = mea g.h g.n L k ∧ (∃ y6 y7 y8 y9, σ = [some (.ref a), some (.ref t), some (.ref g.f), some (.int 120), some (.ref d), some (.ref l), y6, y7, y8, y9]) ∧
      Same H H' ∧ H' d = some (DE P w ((fd g.h g.n L k).map valD) ks d) ∧ KB H' ((fd g.h g.n L k).map valD) ks ∧ H' l = some (.lst xs) ∧ EX H' xs ((lv g.h g.n L k).map Prod.fst), ⟨mea g.h g.n L 0, 0, [a], [.ref a], l, rfl, ⟨none, none, none, none, rfl⟩, hd1.trans (same_new hl), same_new hl _ _ upd_same, ?_, upd_same, ?_⟩, ?_⟩
    · exact .cons (TK.same (hd1.trans (same_new hl)) _ _ ha) .nil
    · exact .cons (TK.same (hd1.trans (same_new hl)) _ _ ha) .nil
    rintro m σ H1 ⟨k, ks, xs, l, rfl, ⟨y6, y7, y8, y9, rfl⟩, sm, eD, kb, eL, hE⟩
    have lx : xs.length = (lv g.h g.n L k).length := hE.len.trans (List.length_map ..)
    refine ⟨_, rfl, !xs.isEmpty, .inl ⟨xs, lstAt eL, rfl⟩, ite2 (fun ex => ?_) (fun ex => ?_)⟩
    · have hne : lv g.h g.n L k ≠ [] := by
        intro z
        rw [z] at lx
        rw [List.eq_nil_of_length_eq_zero lx] at ex
        cases ex
      have hlen := hb.fd_few hL k
      refine ⟨_, rfl, d, _, ks, rfl, eD, kb, _, rfl, _, 120, rfl, rfl, _, rfl, ifT (decide_eq_true (by rw [List.length_map]; omega)) ?_⟩
      refine ⟨fun σ' H' => ∃ m', m' < mea g.h g.n L k ∧ ∃ (k : Nat) (ks : List Addr) (xs : List V) (l : Addr), m' = mea g.h g.n L k ∧ (∃ y6 y7 y8 y9, σ' = [some (.ref a), some (.ref t), some (.ref g.f), some (.int 120), some (.ref d), some (.ref l), y6, y7, y8, y9]) ∧
        Same H H' ∧ H' d = some (DE P w ((fd g.h g.n L k).map valD) ks d) ∧ KB H' ((fd g.h g.n L k).map valD) ks ∧ H' l = some (.lst xs) ∧ EX H' xs ((lv g.h g.n L k).map Prod.fst), fun _ _ h => h, ?_⟩
      refine ⟨Nat.zero_le _, fun u hu => ?_⟩
      have su := same_new (o := .lst []) hu
      have hlu : l ≠ u := ne_of_none eL hu
      have huH := none_of sm hu
      refine ⟨_, rfl, l, rfl, ⟨_, lstAt (su _ _ eL)⟩, ?_⟩
      refine for_list (xs := xs) (fun i σ H' => MidB P w H g.h g.n L (fun _ l as => as = l.map valD) k d l u xs i 0 H' ∧ ∃ y7 y8 y9, σ = [some (.ref a), some (.ref t), some (.ref g.f), some (.int 120), some (.ref d), some (.ref l), some (.ref u), y7, y8, y9])
        ⟨⟨_, ks, [], sm.trans su, su _ _ eD, kb.on (TK.same su), ?_, ?_, su _ _ eL, hE.on (TK.same su), upd_same, ?_⟩, _, _, _, rfl⟩ (fun i σ H' _ h' => ?_) (fun i x σ H2 hx h' => ?_) (fun σ H2 h' => ?_)
      · rw [Nat.zero_mul, prt_zero, List.append_nil, valD_fst]
      · rw [Nat.zero_mul, prt_zero, List.append_nil]
      · rw [Nat.zero_mul, prt_zero]
        exact .nil
      · obtain ⟨⟨_, _, _, _, _, _, _, _, e, _⟩, _⟩ := h'
        exact lstAt e
      · obtain ⟨hM, z7, z8, z9, rfl⟩ := h'
        obtain ⟨q0, b, hq0, rfl, _⟩ := lv_row hE hx
        have hp0 := hb.lv_perm hL k q0 (List.mem_of_getElem? hq0)
        refine ⟨_, rfl, t, rfl, ⟨_, onT (hM.choose_spec.choose_spec.choose_spec.1) ht⟩, ?_⟩
        refine for_tup (xs := (rg g.n).map V.int) (fun j σ H' => MidB P w H g.h g.n L (fun _ l as => as = l.map valD) k d l u xs i j H' ∧ ∃ y8 y9, σ = [some (.ref a), some (.ref t), some (.ref g.f), some (.int 120), some (.ref d), some (.ref l), some (.ref u), some (.ref b), y8, y9])
          ⟨hM, _, _, rfl⟩ (fun j σ H' _ h' => onT (h'.1.choose_spec.choose_spec.choose_spec.1) ht) (fun j x2 σ H3 hx2 h' => ?_) (fun σ H3 h' => ?_)
        · obtain ⟨⟨bs, ks, us, sm3, eD3, kb3, hf3, hv3, eL3, hE3, eU3, hF3⟩, w8, w9, rfl⟩ := h'
          obtain ⟨pj, hpj, rfl⟩ := map_at hx2
          have hj : j < g.n := by
            have := (List.getElem?_eq_some_iff.mp hpj).1
            rw [rg_len] at this
            exact this
          have epj : pj = (j : Int) := by
            rw [rg_at hj] at hpj
            exact (Option.some.inj hpj).symm
          subst epj
          obtain ⟨q0', b', hq0', eb', hb3⟩ := lv_row hE3 hx
          cases eb'
          rw [hq0] at hq0'
          cases hq0'
          have hfew := hb.prt_few hL k (i * g.n + j)
          have blen : bs.length ≤ 120 := by
            have := congrArg List.length hf3
            rw [List.length_map, List.length_map] at this
            omega
          have ulen : us.length ≤ 120 := by
            have h1 := hF3.len
            rw [List.length_map] at h1
            rw [List.length_append] at hfew
            omega
          refine ⟨rfl, hlive _ sm3, _, rfl, _, rfl, hlive _ sm3, b, q0.1, (j : Int), rfl, hb3, fun z hz => perm_in hp0 hz, by rw [perm_len hp0]; omega, ⟨by omega, by omega⟩, fun H4 qn s4 nq eq4 => ?_⟩
          have sm4 := sm3.trans s4
          have eD4 := s4 _ _ eD3
          have eU4 := s4 _ _ eU3
          have kb4 := kb3.on (TK.same s4)
          refine ⟨_, rfl, _, rfl, d, qn, bs, ks, stp g.h (j : Int) q0.1, rfl, rfl, eD4, kb4, eq4.kx, _, rfl, ?_⟩
          by_cases hm : stp g.h (j : Int) q0.1 ∈ bs.map Prod.fst
          · have hm2 := hm
            rw [hf3] at hm2
            have ep := prt_old hq0 hj hm2
            refine ifF (by rw [decide_eq_true hm]; rfl) ⟨⟨bs, ks, us, sm4, eD4, kb4, ?_, ?_, s4 _ _ eL3, hE3.on (TK.same s4), eU4, ?_⟩, _, _, rfl⟩
            · rw [show i * g.n + (j + 1) = i * g.n + j + 1 from rfl, ep]
              exact hf3
            · rw [show i * g.n + (j + 1) = i * g.n + j + 1 from rfl, ep]
              exact hv3
            · rw [show i * g.n + (j + 1) = i * g.n + j + 1 from rfl, ep]
              exact hF3.on (TK.same s4)
          · have hm2 := hm
            rw [hf3] at hm2
            have ep := prt_new hq0 hj hm2
            refine ifT (by rw [decide_eq_false hm]; rfl) ?_
            have hold : q0.1 ∈ bs.map Prod.fst := by
              rw [hf3, List.map_append]
              exact List.mem_append_left _ (List.mem_map.mpr ⟨q0, lv_fd (List.mem_of_getElem? hq0), rfl⟩)
            refine ⟨_, rfl, _, rfl, d, b, bs, ks, q0.1, rfl, rfl, eD4, kb4, TK.same s4 _ _ hb3, hold, fun v hvm => ?_⟩
            have evk : v = .int (k : Nat) := by
              rw [hv3] at hvm
              obtain ⟨y, hy, ey⟩ := List.mem_map.mp hvm
              have ey2 : (y.1, V.int (y.2.length : Nat)) = (q0.1, v) := ey
              have e1 : y.1 = q0.1 := (Prod.mk.inj ey2).1
              have e2 : V.int (y.2.length : Nat) = v := (Prod.mk.inj ey2).2
              have h1 := prt_fd hy
              have h2 : q0 ∈ fd g.h g.n L (k + 1) := fd_mono (Nat.le_succ k) (lv_fd (List.mem_of_getElem? hq0))
              have e3 := fd_val (s := q0.1) (w := y.2) (w' := q0.2) (by rw [← e1]; exact h1) h2
              rw [← e2, e3, lv_len k q0 (List.mem_of_getElem? hq0)]
            subst evk
            refine ⟨(k : Nat), 1, rfl, rfl, _, rfl, _, rfl, d, qn, bs, ks, stp g.h (j : Int) q0.1, rfl, rfl, eD4, kb4, eq4.kx, hm, small1000 (by omega), ?_⟩
            have tk5 : TK H4 (upd H4 d (DE P w (bs ++ [(stp g.h (j : Int) q0.1, V.int ((k : Nat) + 1 : Int))]) (ks ++ [qn]) d)) := TK.upd eD4 not_tup_d
            have eU5 : (upd H4 d (DE P w (bs ++ [(stp g.h (j : Int) q0.1, V.int ((k : Nat) + 1 : Int))]) (ks ++ [qn]) d)) u = some (.lst us) := by
              rw [upd_ne (ne_of eU4 eD4 (fun z => nomatch z))]
              exact eU4
            have eL5 : (upd H4 d (DE P w (bs ++ [(stp g.h (j : Int) q0.1, V.int ((k : Nat) + 1 : Int))]) (ks ++ [qn]) d)) l = some (.lst xs) := by
              rw [upd_ne (ne_of (s4 _ _ eL3) eD4 (fun z => nomatch z))]
              exact s4 _ _ eL3
            have sm5 : Same H (upd H4 d (DE P w (bs ++ [(stp g.h (j : Int) q0.1, V.int ((k : Nat) + 1 : Int))]) (ks ++ [qn]) d)) := Same.upd sm4 hd
            have eD5 : (upd H4 d (DE P w (bs ++ [(stp g.h (j : Int) q0.1, V.int ((k : Nat) + 1 : Int))]) (ks ++ [qn]) d)) d = some (DE P w (bs ++ [(stp g.h (j : Int) q0.1, V.int ((k : Nat) + 1 : Int))]) (ks ++ [qn]) d) := upd_same
            have kb5 : KB (upd H4 d (DE P w (bs ++ [(stp g.h (j : Int) q0.1, V.int ((k : Nat) + 1 : Int))]) (ks ++ [qn]) d)) (bs ++ [(stp g.h (j : Int) q0.1, V.int ((k : Nat) + 1 : Int))]) (ks ++ [qn]) := (kb4.on tk5).snoc (q := (stp g.h (j : Int) q0.1, V.int ((k : Nat) + 1 : Int))) (b := qn) (tk5 _ _ eq4.kx)
            have hq5 := tk5 _ _ eq4.kx
            refine ⟨_, rfl, .inl ⟨rfl, _, lstAt eU5⟩, _, rfl, u, us, .ref qn, rfl, rfl, eU5, small1000 (by omega), ?_⟩
            have tk6 : TK (upd H4 d (DE P w (bs ++ [(stp g.h (j : Int) q0.1, V.int ((k : Nat) + 1 : Int))]) (ks ++ [qn]) d)) (upd (upd H4 d (DE P w (bs ++ [(stp g.h (j : Int) q0.1, V.int ((k : Nat) + 1 : Int))]) (ks ++ [qn]) d)) u (.lst (us ++ [.ref qn]))) := TK.upd eU5 not_tup_l
            have tk46 := (TK.same s4).trans (tk5.trans tk6)
            refine ⟨⟨bs ++ [(stp g.h (j : Int) q0.1, V.int ((k : Nat) + 1 : Int))], ks ++ [qn], us ++ [.ref qn], Same.upd sm5 huH, ?_, kb5.on tk6, ?_, ?_, ?_, hE3.on tk46, upd_same, ?_⟩, _, _, rfl⟩
            · rw [upd_ne (ne_of eD5 eU5 (fun z => nomatch z))]
              exact eD5
            · rw [show i * g.n + (j + 1) = i * g.n + j + 1 from rfl, ep, ← List.append_assoc]
              exact fst_snoc hf3 rfl
            · rw [show i * g.n + (j + 1) = i * g.n + j + 1 from rfl, ep, ← List.append_assoc]
              show bs ++ _ = List.map valD _
              rw [List.map_append, ← hv3]
              congr 1
              show [(stp g.h (j : Int) q0.1, V.int ((k : Nat) + 1 : Int))] = [valD (stp g.h (j : Int) q0.1, q0.2 ++ [(j : Int)])]
              unfold valD
              rw [List.length_append, lv_len k q0 (List.mem_of_getElem? hq0)]
              rfl
            · rw [upd_ne hlu]
              exact eL5
            · rw [show i * g.n + (j + 1) = i * g.n + j + 1 from rfl, ep, List.map_append]
              exact EX.snoc (tk6 _ _ hq5) (hF3.on tk46)
        · obtain ⟨hM3, w8, w9, rfl⟩ := h'
          rw [List.length_map, rg_len] at hM3
          exact ⟨hM3.row, _, _, _, rfl⟩
      · obtain ⟨⟨bs, ks, us, sm3, eD3, kb3, hf3, hv3, eL3, hE3, eU3, hF3⟩, w7, w8, w9, rfl⟩ := h'
        rw [lx, Nat.add_zero, prt_all] at hv3 hF3
        subst hv3
        exact ⟨_, rfl, mea g.h g.n L (k + 1), hb.mea_less hL hne, k + 1, ks, us, u, rfl, ⟨_, _, _, _, rfl⟩, sm3, eD3, kb3, eU3, hF3⟩
    · have hnil : lv g.h g.n L k = [] := by
        cases xs with
        | nil => exact List.eq_nil_of_length_eq_zero lx.symm
        | cons x r => exact absurd rfl ex
      refine ifF rfl ⟨_, rfl, q H1 d k ks sm eD kb hnil⟩
end
end RH
set_option Elab.async false
set_option linter.all false
set_option maxRecDepth 100000
set_option maxHeartbeats 2000000
namespace RH
open PySem PySem.Spec PyProof.Rows L2
open NdefX (NScope CellsAt Caps slotAt slotAt_of cells_of startF ncx)
open LamX (Tabs TabS TabB ExtN CodeO codeO_ne)
/-! ### the defs that make a step -/
theorem frs_free {X : Cx} {pins : List (Addr × Obj)} {σ : L2.St} {H : Hp} {s : Shared} (I : Inv X pins σ H s) (hf : ∀ x, X.fn x = true) {y : Str} {c : Addr} (h : X.env.cells.lookup y = some c) : c ∉ frs X.stack := by
  have out : c ∉ frs X.outer := fun z => by
    obtain ⟨_, o, e, _⟩ := I.ok.funs.mem z
    have h1 := Heap.lt_size e
    exact absurd (Nat.lt_of_lt_of_le h1 (I.ok.cab y c (hf y) h)) (Nat.lt_irrefl _)
  rcases I.ok.stk with e | ⟨e, ef⟩
  · rw [e]
    exact out
  · rw [e]
    intro z
    have z2 : c = X.env.locals ∨ c ∈ frs X.outer := by
      unfold frs at z ⊢
      rw [List.filterMap_cons, ef] at z
      exact List.mem_cons.mp z
    rcases z2 with z2 | z2
    · obtain ⟨m, hn, _⟩ := I.loc
      obtain ⟨o, es, ep, e1, e2, _⟩ := hn
      obtain ⟨v, o2, e3, e4⟩ := I.cell y c h
      rw [z2, e1] at e3
      cases e3
      rw [e2] at e4
      cases e4
    · exact out z2
/-- a def of the text with its code object -/
structure DfC (K : PySem.W.Frag) (mg : Str → Option Value) (x : Str) (st : Stmt) (ps : List Str) (c : Addr) : Prop where
  ex : ∃ (f : Addr) (oc : Value) (od : Option Addr) (kV doc pm : Value) (an : Option Addr) (ct : Value) (osl : Array (Option Value)), K.lookup f = some ⟨oc, od, .func (PySem.W.fnOf x x (defArgs st) (defBody st) (defScope st) .none kV doc pm an (.ref c) ct), osl⟩ ∧
    PySem.W.codeIn K (.ref c) x = true ∧ PySem.W.keepIn K (.ref f) = true ∧ mg x = some (.ref f) ∧ Binds K (PySem.W.fnOf x x (defArgs st) (defBody st) (defScope st) .none kV doc pm an (.ref c) ct) ps []
section
variable {P : Program} {w : World} {K : PySem.W.Frag} {mg : Str → Option Value} {base : Heap}
theorem mkCalC {x : Str} {st : Stmt} {N ps : List Str} {k : Nat} {sp : Sp} {c : Addr} (F : DfC K mg x st ps c) (S : FnScope N ps (defScope st)) (len : ∀ vs H Q E, sp vs H Q E → vs.length = ps.length)
    (hbody : ∀ (f : Addr) (A : Around) (outer : List Env) (s : Shared) (H : Hp) (vs : List V) (Q : VK) (E : XK), Room k (A.deeper (envOfC x (defScope st) s.heap.objs.size f (.ref c))) → sp vs H Q E →
      ∃ t, PSs (cxOf CX0 P w K mg base N x (defScope st) f (.ref c) A outer s H E).nox (defBody st) t ∧ t { nx := fun _ H' => Q .non H', rt := Q } (start N vs) H) : Cal P w K mg base (k + 1) x sp := by
  obtain ⟨f, oc, od, kV, doc, pm, an, ct, osl, lk, hcd, kp, g, b⟩ := F.ex
  refine ⟨f, _, ps, fn_of lk hcd S len fun A outer s H vs Q E hr hsp => ?_, g, kp, b⟩
  obtain ⟨t, h, q⟩ := hbody f A outer s H vs Q E hr hsp
  exact ⟨t, h.nox, q⟩
/-- the name that a lambda of the def x bears -/
def lamQ (x : Str) : Str := (envOfC x (defScope st_layout_depths) 0 0 .none).qual ++ "<lambda>"
def tabsT (P1 P2 : Addr) : List (Addr × Str) := [(P1, lamQ "layout_depths"), (P2, lamQ "law")]
def spLDepths (P : Program) (w : World) (K : PySem.W.Frag) (T : List (Addr × Str)) : Sp := fun vs H Q _ => ∃ (v : V) (h : List (List Int)) (n : Nat) (a : Addr) (L : List Int), vs = [v, .ref a] ∧ TII K H v h ∧ Hb n h ∧ KX H a L ∧ L.Perm (rg n) ∧ Tabs T H ∧
  ∀ (H' : Hp) (d : Addr) (k : Nat) (ks : List Addr), ExtN H H' → Tabs T H' → H' d = some (DE P w ((fd h n L k).map valD) ks d) → KB H' ((fd h n L k).map valD) ks → lv h n L k = [] → Q (.ref d) H'
theorem ok_ldepths {c P1 P2 : Addr} (F : DfC K mg "layout_depths" st_layout_depths ["habit", "layout"] c) (FD : Df K mg "depths" st_depths ["start", "touches", "step", "most"]) (B : Bu mg) (TB : TabB base mg c P1) (hPP : P1 ≠ P2) (c120 : ∃ t, mg "MOST_LAYOUTS" = some (.int 120 t))
    (CP : Cal P w K mg base 1 "places_of_habit" (spPlacesOf K)) (CM : Cal P w K mg base 1 "move" (spMove K)) : Cal P w K mg base 4 "layout_depths" (spLDepths P w K (tabsT P1 P2)) := by
  obtain ⟨fD, fdD, FunD, gD, bD⟩ := FD.ex
  refine mkCalC F sc_layout_depths (fun vs H Q E h => ?_) (fun f A outer s H vs Q E hr h => ?_)
  · obtain ⟨v, h, n, a, L, rfl, _⟩ := h
    rfl
  · obtain ⟨v, h, n, a, L, rfl, hT, hb, ha, hL, hTb, q⟩ := h
    have hfree : ∀ y ∈ (lamS lam1).names, y.2 = .free → (defScope st_layout_depths).names.lookup y.1 = some .cell ∨ (defScope st_layout_depths).names.lookup y.1 = some .free := by decide +kernel
    have hfr : ∀ y ∈ (["habit"] : List Str), (y, NameKind.free) ∈ (lamS lam1).names := by decide +kernel
    let X : Cx := (cxOf CX0 P w K mg base ["habit", "layout"] "layout_depths" (defScope st_layout_depths) f (.ref c) A outer s H E).nox
    have hfX : ∀ y ∈ (lamS lam1).names, y.2 = .free → X.env.scope.names.lookup y.1 = some .cell ∨ X.env.scope.names.lookup y.1 = some .free := hfree
    let mk : Addr → LF := fun c' => ⟨X.env.qual ++ "<lambda>", lamP lam1, lamB lam1, lamS lam1, cloFrom X.env.cells (lamS lam1).names [], c'⟩
    let preS : GD → L2.St → Hp → Prop := fun g σ H => ∃ (c' : Addr) (hv : V), σ[0]? = some (some hv) ∧ H g.f = some (FnL g.f (mk c')) ∧ H c' = some (CodeO c' (mk c').qual) ∧ g.live = (fun H' => liveL g.f (mk c') H' ∧ TII K H' hv g.h) ∧ Hb g.n g.h
    have hP : ∀ (g : GD) (pins : List (Addr × Obj)) (σ : L2.St) (H : Hp) (s : Shared), Inv X pins σ H s → preS g σ H → preD P w K mg base g X.stack s H := by
      rintro g pins σ H s I ⟨c', hv, h0, h1, h2, h3, h4⟩
      have C : CellsAt (mk c').cl ["habit"] [some hv] s.heap H := by
        have := cells_of I (Caps.made (X := X) (fr := ["habit"]) (js := [0]) I.ok hfX hfr rfl)
        rw [show ([0].map (slotAt σ)) = [some hv] from by rw [List.map_cons, slotAt_of h0]; rfl] at this
        exact this
      have Fn := lok1 (P := P) (w := w) (mg := mg) (base := base) CM g.h g.n (mk c').qual (mk c').cl c' g.f
      refine (callable_lam Fn C fun y c0 e => frs_free I (fun _ => rfl) (NdefX.clo_cm (fun y hy e => (hfX y hy e).elim (fun z => I.ok.has _ (.inl z)) fun z => I.ok.has _ (.inr z)) e)).imp (fun H' l => ?_) (fun vs H' Q E l hs => ?_)
      · rw [h3] at l
        exact l.1
      · rw [h3] at l
        exact ⟨hv, rfl, l.2, h4, hs⟩
    refine ⟨_, pss_one (ps_ret (pe_callC (X := X) (preS := preS) (fun g => ok_depths FunD B g) hP hr (by decide) rfl gD FunD.kp bD pass0 (pa_cons (pv 1) (pa_cons (pc CP hr (pa_cons (pv 0) pa_nil))
      (pa_cons (pe_lam (T := tabsT P1 P2) (params := lamP lam1) (body := lamB lam1) (scope := lamS lam1) (pos := lamO lam1) TB rfl (by exact List.Mem.head _) (fun p hp e => ?_) rfl hfX) (pa_cons (pk c120) pa_nil)))))), ?_⟩
    · rcases List.mem_cons.mp hp with rfl | hp
      · rfl
      · rw [List.mem_singleton.mp hp] at e
        exact absurd e.symm hPP
    refine ⟨_, rfl, _, rfl, v, h, n, rfl, hT, hb, fun t ht => ⟨hTb.ext fun b o e => same_new ht b o e, fun f1 c1 H1 ex nn T1 nf e1 e2 => ?_⟩⟩
    have s1 := same_new (o := .tup ((rg n).map V.int)) ht
    have ex0 : ExtN H H1 := (ExtN.of fun b o e => s1 b o e).trans ex
    have tupX : ∀ b xs, Rd H b (.tup xs) → Rd H1 b (.tup xs) := fun b xs e => by
      rcases e with e | ⟨ob, e⟩
      · exact .inl (ex0 _ _ e (fun ps z => nomatch z))
      · exact .inr ⟨ob, ex0 _ _ e (fun ps z => nomatch z)⟩
    have hT1 : TII K H1 v h := hT.on fun a' xs hs => by
      rcases hs with hs | hs
      · exact .inl (tupX _ _ hs)
      · exact .inr hs
    refine ⟨⟨f1, fun H' => liveL f1 (mk c1) H' ∧ TII K H' v h, h, n⟩, ⟨c1, v, rfl, e1, e2, rfl, hb⟩, a, t, L, rfl, tupX _ _ ha, tupAt (ex _ _ upd_same (fun ps z => nomatch z)), fun H' sm => ⟨⟨sm _ _ e1, sm _ _ e2⟩, hT1.on (Same.tups sm)⟩, hb, hL, fun H' d k ks sm e kb en => ?_⟩
    exact q H' d k ks (ex0.trans (ExtN.of fun b o e => sm b o e)) (T1.ext fun b o e => sm b o e) e kb en
end
section
variable {P : Program} {w : World} {K : PySem.W.Frag} {mg : Str → Option Value} {base : Heap} {Cb : Addr}
theorem extN_same {H H' : Hp} (e : Same H H') : ExtN H H' := ExtN.of fun b o h => e b o h
theorem tabs_same {T : List (Addr × Str)} {H H' : Hp} (t : Tabs T H) (e : Same H H') : Tabs T H' := t.ext fun b o h => e b o h
def spOrd (K : PySem.W.Frag) (T : List (Addr × Str)) : Sp := fun vs H Q _ => ∃ (v : V) (h : List (List Int)) (n : Nat), vs = [v] ∧ TII K H v h ∧ Hb n h ∧ Tabs T H ∧
  ∀ (H' : Hp) (k : Nat), ExtN H H' → Tabs T H' → lv h n (rg n) k = [] → Q (.int ((fd h n (rg n) k).length : Nat)) H'
theorem ok_ordr {T : List (Addr × Str)} (F : Df K mg "order" st_order ["habit"]) (B : Bu mg) (CH : CalX P w K mg base 6 "check_habit" (spCheckHabitX K Cb)) (CP : Cal P w K mg base 1 "places_of_habit" (spPlacesOf K)) (CD : Cal P w K mg base 4 "layout_depths" (spLDepths P w K T)) :
    CalX P w K mg base 7 "order" (spOrd K T) := by
  refine mkCalX F sc_order (fun vs H Q E h => ?_) (fun f cdv A outer s H vs Q E hr h => ?_)
  · obtain ⟨v, h, n, rfl, _⟩ := h
    rfl
  · obtain ⟨v, h, n, rfl, hT, hb, hTb, q⟩ := h
    refine ⟨_, pss_cons (ps_expr (pcX CH passE hr (pa_cons (pv 0) pa_nil)))
      (pss_one (ps_ret (pe_callB call_lenE (by rfl) B.len PySem.boot_len (pa_cons (pc CD hr (pa_cons (pv 0) (pa_cons (pc CP hr (pa_cons (pv 0) pa_nil)) pa_nil))) pa_nil)))), ?_⟩
    refine ⟨_, rfl, _, _, rfl, hk_of hT hb, fun _ H1 s1 => ?_, fun pl e => (by rw [hb_ok hb] at e; cases e)⟩
    refine ⟨_, rfl, _, rfl, _, h, n, rfl, hT.on (Same.tups s1), hb, fun t ht => ?_⟩
    have s2 := s1.trans (same_new (o := .tup ((rg n).map V.int)) ht)
    refine ⟨_, h, n, t, rg n, rfl, hT.on (Same.tups s2), hb, .inl upd_same, List.Perm.refl _, tabs_same hTb s2, fun H3 d k ks ex t3 e kb en => ⟨d, _, ks, rfl, e, kb, ?_⟩⟩
    rw [List.length_map]
    exact q H3 k ((extN_same s2).trans ex) t3 en
end
end RH
set_option Elab.async false
set_option linter.all false
set_option maxRecDepth 100000
set_option maxHeartbeats 2000000
namespace RH
open PySem PySem.Spec PyProof.Rows L2
/-! ### habits that the law draws -/
def rgI (a b : Int) : List Int := (List.range (b - a).toNat).map fun i : Nat => a + (i : Int)
theorem rgV_rgI (a b : Int) : rgV a b = (rgI a b).map V.int := by
  unfold rgV rgI
  rw [List.map_map]
  rfl
def wF (n pl : Nat) : List Int := rgI 1 ((pl : Int) + 1) ++ [0] ++ rgI ((pl : Int) + 1) (n : Int)
theorem wF_all : ∀ n, n < 6 → ∀ pl, pl < n → (wF n pl).isPerm (rg n) = true := by decide +kernel
theorem wF_perm {n pl : Nat} (hn : n ≤ 5) (hp : pl < n) : (wF n pl).Perm (rg n) := List.isPerm_iff.mp (wF_all n (by omega) pl hp)
theorem TIF.fix {H H' : Hp} {v : V} {ns : List Int} (f : Fix H H') (h : TIF H v ns) : TIF H' v ns := let ⟨b, e, g⟩ := h; ⟨b, e, g.fix f⟩
/-- the rows found so far -/
def HF (K : PySem.W.Frag) (p g : Addr) (H : Hp) (n i : Nat) (H' : Hp) : Prop := ∃ (xs : List V) (hs : List (List Int)), But p H H' ∧ Row K H' p ∧ H' g = some (.lst xs) ∧ Each (TIF H') xs hs ∧ hs.length = i ∧ ∀ ns ∈ hs, ns.Perm (rg n)
theorem HF.step {K : PySem.W.Frag} {p g : Addr} {H H1 H5 : Hp} {n i : Nat} (h : HF K p g H n i H1) (hg : H g = none) (hpg : p ≠ g) (b : But p H1 H5) (r : Row K H5 p) :
    ∃ xs, H5 g = some (.lst xs) ∧ xs.length = i ∧ ∀ (v : V) (ns : List Int) (H6 : Hp), Same H5 H6 → TIF H6 v ns → ns.Perm (rg n) → HF K p g H n (i + 1) (upd H6 g (.lst (xs ++ [v]))) := by
  obtain ⟨xs, hs, hB, hR, e, hE, hl, hp⟩ := h
  have e5 := b _ _ e (Ne.symm hpg)
  refine ⟨xs, e5, hE.len.trans hl, fun v ns H6 s6 hq hpm => ⟨xs ++ [v], hs ++ [ns], ((hB.trans b).trans (But.same s6)).fresh hg, (r.same s6).lst_upd (s6 _ _ e5) hpg, upd_same, ?_, by rw [List.length_append, hl]; rfl, fun ns' hm => ?_⟩⟩
  · have f2 : Fix H6 (upd H6 g (.lst (xs ++ [v]))) := Fix.lst (s6 _ _ e5)
    have f1 : Fix H1 (upd H6 g (.lst (xs ++ [v]))) := (hR.fix b).trans ((Fix.same s6).trans f2)
    exact Each.snoc (hq.fix f2) (hE.imp fun _ _ z => z.fix f1)
  · rcases List.mem_append.mp hm with h1 | h1
    · exact hp _ h1
    · rw [List.mem_singleton.mp h1]
      exact hpm
section
variable {P : Program} {w : World} {K : PySem.W.Frag} {mg : Str → Option Value} {base : Heap}
def spHabF (K : PySem.W.Frag) : Sp := fun vs H Q _ => ∃ (p : Addr) (n : Nat), vs = [.ref p, .int (n : Int)] ∧ Row K H p ∧ 2 ≤ n ∧ n ≤ 5 ∧ ∀ (H' : Hp) (v : V) (h : List (List Int)), Hb n h → But p H H' → Row K H' p → THF K H' v h → Q v H'
theorem ok_habF (F : Df K mg "_law_habit" st__law_habit ["row", "many"]) (B : Bu mg) (CT : Cal P w K mg base 1 "_law_taken" (spTaken K)) (CP : Cal P w K mg base 2 "_law_permutation" (spPermL K)) : Cal P w K mg base 3 "_law_habit" (spHabF K) := by
  refine mkCal F sc__law_habit (fun vs H Q E h => ?_) (fun f cdv A outer s H vs Q E hr h => ?_)
  · obtain ⟨p, n, rfl, _⟩ := h
    rfl
  · obtain ⟨p, n, rfl, hR, h2, h5, q⟩ := h
    refine ⟨_, pss_cons (ps_set (i := 2) sc__law_habit.nd rfl (.inl rfl) (pe_lst pa_nil))
      (pss_cons (ps_for PassesOwn.never rfl (pi_range1 (by rfl) B.range (pa_cons (pv 1) pa_nil)) (pg_name (i := 3) sc__law_habit.nd rfl (.inl rfl))
        (pss_cons (ps_set (i := 4) sc__law_habit.nd rfl (.inl rfl) (pc CT hr (pa_cons (pv 0) (pa_cons pe_int pa_nil))))
        (pss_one (ps_if (pt_cmpR op_eq (pv 4) pe_int (nomark _))
          (pss_one (ps_expr (pe_bm PySem.F.plainAttrs_list PySem.F.slot_list_append PySem.F.type_list_append mt_append (pv 2) (pa_cons (pe_tupRgF rfl (by rfl) B.tuple (prg_1 (by rfl) B.range (pv 1))) pa_nil))))
          (pss_one (ps_if (pt_cmpR op_eq (pv 4) pe_int (nomark _))
            (pss_one (ps_expr (pe_bm PySem.F.plainAttrs_list PySem.F.slot_list_append PySem.F.type_list_append mt_append (pv 2) (pa_cons (pe_tupleF (by rfl) B.tuple (pe_op op_cat (pe_op op_cat (pe_listRg rfl (by rfl) B.list (prg_2 (by rfl) B.range pe_int (pe_op op_add (pv 3) pe_int))) (pe_lst (pa_cons pe_int pa_nil)))
              (pe_listRg rfl (by rfl) B.list (prg_2 (by rfl) B.range (pe_op op_add (pv 3) pe_int) (pv 1))))) pa_nil))))
            (pss_one (ps_expr (pe_bm PySem.F.plainAttrs_list PySem.F.slot_list_append PySem.F.type_list_append mt_append (pv 2) (pa_cons (pc CP hr (pa_cons (pv 0) (pa_cons (pv 1) pa_nil))) pa_nil)))))))))) 
      (pss_one (ps_ret (pe_tupleOf (by rfl) B.tuple (pv 2))))), ?_⟩
    refine ⟨Nat.zero_le _, fun g hg => ?_⟩
    have hpg : p ≠ g := hR.ne hg
    have eg : (upd H g (.lst [])) g = some (.lst []) := upd_same
    refine ⟨_, rfl, (n : Int), rfl, by omega, by omega, ?_⟩
    rw [Int.toNat_natCast]
    refine for_range (lo := 0) (n := n) (fun i σ H' => ∃ y3 y4, σ = [some (.ref p), some (.int (n : Int)), some (.ref g), y3, y4] ∧ HF K p g H n i H') ⟨none, none, rfl, [], [], But.same (same_new hg), hR.new hg, eg, .nil, rfl, fun _ hm => absurd hm List.not_mem_nil⟩ (fun i σ H1 hi h' => ?_) (fun σ H1 h' => ?_)
    · obtain ⟨y3, y4, rfl, hF⟩ := h'
      rw [Int.zero_add]
      refine ⟨_, rfl, p, 4, rfl, hF.choose_spec.choose_spec.2.1, by decide, by decide, fun k H2 k0 k4 hB hR2 => ?_⟩
      obtain ⟨xs, eg2, lx, more⟩ := hF.step hg hpg hB hR2
      refine ⟨_, rfl, rfl, _, rfl, ite2 (fun e => ?_) (fun e => ?_)⟩
      · refine ⟨_, rfl, .inl ⟨rfl, _, lstAt eg2⟩, _, rfl, (n : Int), rfl, ⟨by omega, by omega, by omega, by omega, by omega⟩, fun t ob ht hob => ?_⟩
        have st := same_new (o := .frz ob (.tup (rgV 0 (n : Int)))) ht
        refine ⟨g, xs, _, rfl, rfl, st _ _ eg2, small1000 (by omega), _, _, rfl, more _ (rg n) _ st ⟨t, rfl, ob, ?_, hob⟩ (List.Perm.refl _)⟩
        rw [upd_same, rgV_rg]
      · refine ⟨_, rfl, rfl, _, rfl, ite2 (fun e2 => ?_) (fun e2 => ?_)⟩
        · refine ⟨_, rfl, .inl ⟨rfl, _, lstAt eg2⟩, _, rfl, (i : Int), 1, rfl, rfl, _, _, rfl, rfl, ⟨by omega, by omega, by omega, by omega, by omega⟩, fun l1 hl1 => ?_⟩
          refine ⟨by decide +kernel, fun l2 hl2 => ?_⟩
          have s1 := same_new (o := .lst (rgV 1 ((i : Int) + 1))) hl1
          have s2 := same_new (o := .lst [.int 0]) hl2
          refine ⟨l1, l2, _, _, rfl, rfl, s2 _ _ upd_same, upd_same, by rw [rgV_length, sizeLine_eq]; show _ + 1 ≤ _; omega, fun l3 hl3 => ?_⟩
          have s3 := same_new (o := .lst (rgV 1 ((i : Int) + 1) ++ [.int 0])) hl3
          refine ⟨_, rfl, (i : Int), 1, rfl, rfl, _, rfl, _, _, rfl, rfl, ⟨by omega, by omega, by omega, by omega, by omega⟩, fun l4 hl4 => ?_⟩
          have s4 := same_new (o := .lst (rgV ((i : Int) + 1) (n : Int))) hl4
          refine ⟨l3, l4, _, _, rfl, rfl, s4 _ _ upd_same, upd_same, by rw [List.length_append, rgV_length, rgV_length, sizeLine_eq]; show _ + 1 + _ ≤ _; omega, fun l5 hl5 => ⟨l5, _, rfl, lstAt upd_same, fun t ob ht hob => ?_⟩⟩
          have s5 := same_new (o := .lst (rgV 1 ((i : Int) + 1) ++ [.int 0] ++ rgV ((i : Int) + 1) (n : Int))) hl5
          have s6 := same_new (o := .frz ob (.tup (rgV 1 ((i : Int) + 1) ++ [.int 0] ++ rgV ((i : Int) + 1) (n : Int)))) ht
          have sA := s1.trans (s2.trans (s3.trans (s4.trans (s5.trans s6))))
          refine ⟨g, xs, _, rfl, rfl, sA _ _ eg2, small1000 (by omega), _, _, rfl, more _ (wF n i) _ sA ⟨t, rfl, ob, ?_, hob⟩ (wF_perm h5 hi)⟩
          rw [upd_same]
          unfold wF
          rw [List.map_append, List.map_append, ← rgV_rgI, ← rgV_rgI]
          rfl
        · refine ⟨_, rfl, .inl ⟨rfl, _, lstAt eg2⟩, _, rfl, _, rfl, p, n, rfl, hR2, h5, fun H3 v ns pm hB3 hR3 hv => ?_⟩
          obtain ⟨xs3, eg3, lx3, more3⟩ := hF.step hg hpg (hB.trans hB3) hR3
          exact ⟨g, xs3, _, rfl, rfl, eg3, small1000 (by omega), _, _, rfl, more3 v ns H3 (Same.refl _) hv pm⟩
    · obtain ⟨y3, y4, rfl, xs, hs, hB, hR1, e, hE, hl, hp⟩ := h'
      refine ⟨_, rfl, .inl ⟨g, xs, rfl, lstAt e, fun t ht => ?_⟩⟩
      have st := same_new (o := .tup xs) ht
      exact q _ (.ref t) hs ⟨hl, hp, h2, h5⟩ (hB.trans (But.same st)) (hR1.same st) ⟨t, xs, rfl, tupAt upd_same, hE.imp fun _ _ z => z.same st⟩
end
end RH
set_option Elab.async false
set_option linter.all false
set_option maxRecDepth 100000
set_option maxHeartbeats 2000000
namespace RH
open PySem PySem.Spec PyProof.Rows L2
open NdefX (NScope CellsAt Caps slotAt slotAt_of cells_of startF ncx)
open LamX (Tabs TabS TabB ExtN CodeO codeO_ne)
/-! ### what a work says -/
/-- the three classes that the law tells apart -/
structure Sd (K : PySem.W.Frag) (mg : Str → Option Value) (Cb Cl Cm : Addr) : Prop where
  gb : mg "BadHabit" = some (.ref Cb)
  gl : mg "BadLayout" = some (.ref Cl)
  gm : mg "TooMany" = some (.ref Cm)
  bb : PySem.W.exmOne K (.ref Cb) (.ref Cb) = some true
  lb : PySem.W.exmOne K (.ref Cl) (.ref Cb) = some false
  ll : PySem.W.exmOne K (.ref Cl) (.ref Cl) = some true
  mb : PySem.W.exmOne K (.ref Cm) (.ref Cb) = some false
  ml : PySem.W.exmOne K (.ref Cm) (.ref Cl) = some false
  mm : PySem.W.exmOne K (.ref Cm) (.ref Cm) = some true
  xm : XfC K Cm
  no : PySem.W.findIn K (.ref Cm) "most" = some none
/-- a thing to call -/
structure GW where
  f : Addr
  live : Hp → Prop
  sp : Sp
/-- what is handed back for an error -/
def SaidE (Cb Cl Cm : Addr) (Q : VK) : XK := fun cls d H => (cls = .ref Cb ∧ Q (.str "habit") H) ∨ (cls = .ref Cl ∧ Q (.str "layout") H) ∨ (cls = .ref Cm ∧ ∃ dd, d = some dd ∧ H dd = some (.xd [("most", .int 5)]) ∧ Q (.str "many 5") H)
section
variable {P : Program} {w : World} {K : PySem.W.Frag} {mg : Str → Option Value} {base : Heap} {Cb Cl Cm : Addr}
def preW (P : Program) (w : World) (K : PySem.W.Frag) (mg : Str → Option Value) (base : Heap) (g : GW) : List Env → Shared → Hp → Prop := fun outer s H => Call0 P w K mg base 8 g.f g.live g.sp outer s H
def spSaid (Cb Cl Cm : Addr) (g : GW) : Sp := fun vs H Q _ => vs = [.ref g.f] ∧ g.live H ∧ ∀ (Qx : VK) (Ex : XK), (∀ cls d H', SaidE Cb Cl Cm Q cls d H' → Ex cls d H') → g.sp [] H Qx Ex
theorem run_exS {X : Cx} {st : List Stmt} {pins : List (Addr × Obj)} {s : Shared} {σ : L2.St} {H : Hp} {D : Ends} (I : Inv X pins σ H s) (h : ∃ t, PSs X st t ∧ t D σ H) : wpAny (model X.prog X.w) X.A (execs st X.env) (SP X pins D) X.xe s := h.elim fun _ h => h.1.run pins s σ H D I h.2
def saidM (a : Addr) (cls : Value) (d : Option Addr) (Cm : Addr) : TS := fun D σ H => ∃ x, σ[1]? = some (some x) ∧ x = .ref a ∧ cls = .ref Cm ∧ ∃ (dd : Addr), d = some dd ∧ H dd = some (.xd [("most", .int 5)]) ∧ D.rt (.str "many 5") H
theorem ok_said {f : Addr} {fdat : FuncData} (F : Fun K "_law_said" "_law_said" st__law_said f fdat) (B : Bu mg) (S : Sd K mg Cb Cl Cm) (g : GW) : FnC P w K mg base CX0 9 f fdat ["work"] (preW P w K mg base g) (spSaid Cb Cl Cm g) := by
  refine fnC_of F sc__law_said (fun vs H Q E h => ?_) (fun cdv A outer s H vs Q E hr hP h => ?_)
  · obtain ⟨rfl, _⟩ := h
    rfl
  · obtain ⟨rfl, hl, q⟩ := h
    refine ⟨_, pss_cons (ps_try_named (l := [(.ref Cb, 1, fun a cls d D σ H => D.rt (.str "habit") H), (.ref Cl, 1, fun a cls d D σ H => D.rt (.str "layout") H), (.ref Cm, 1, fun a cls d => saidM a cls d Cm)])
        (tb := fun W => tDrop (tCall0C g.f g.live 0 g.sp (WE W))) (W := fun _ _ _ _ => False) rfl rfl sc__law_said.nd takes0
        (fun W pn xe tk _ => by exact pss_one (ps_expr (pe_call0C hP rfl hr (by decide) (fun σ => passAt tk σ) rfl (.inl rfl))))
        (.cons ⟨rfl, by decide, .inl S.gb⟩ rfl rfl (fun a oe cls d pn hz hf => pss_one (ps_ret pe_str))
          (.cons ⟨rfl, by decide, .inl S.gl⟩ rfl rfl (fun a oe cls d pn hz hf => pss_one (ps_ret pe_str))
            (.cons ⟨rfl, by decide, .inl S.gm⟩ rfl rfl (fun a oe cls d pn hz hf => ⟨fun pins s2 σ H2 D I h2 => ?_⟩) .nil))))
      (pss_one (ps_ret pe_str)), ?_⟩
    · obtain ⟨x, hx, rfl, rfl, dd, rfl, hd, q2⟩ := h2
      refine run_exS I ⟨_, pss_one (ps_ret (pe_op op_add_str pe_str (pe_callTy call_str_int (by rfl) B.str (by decide +kernel) (pa_cons (pe_xf (X := (cxOf CX0 P w K mg base ["work", "e"] "_law_said" (defScope st__law_said) f cdv A outer s H E).nox) (a := a) (pn := pn) S.xm S.no hz hf (pv 1)) pa_nil)))), ?_⟩
      exact ⟨_, hx, rfl, rfl, dd, _, .int 5, rfl, hd, rfl, 5, rfl, by decide +kernel, _, _, rfl, rfl, by rw [sizeLine_eq]; decide +kernel, q2⟩
    · refine ⟨rfl, hl, q _ _ fun cls d H' e => ?_⟩
      rcases e with ⟨rfl, q⟩ | ⟨rfl, q⟩ | ⟨rfl, dd, rfl, hd, q⟩
      · exact ⟨true, S.bb, fun _ a ha => q, fun z => nomatch z⟩
      · exact ⟨false, S.lb, (fun z => nomatch z), fun _ => ⟨true, S.ll, fun _ a ha => q, fun z => nomatch z⟩⟩
      · exact ⟨false, S.mb, (fun z => nomatch z), fun _ => ⟨false, S.ml, (fun z => nomatch z), fun _ => ⟨true, S.mm, fun _ a ha => ⟨_, rfl, rfl, rfl, dd, rfl, hd, q⟩, fun z => nomatch z⟩⟩⟩
end
end RH
set_option Elab.async false
set_option linter.all false
set_option maxRecDepth 100000
set_option maxHeartbeats 2000000
namespace RH
open PySem PySem.Spec PyProof.Rows L2
/-! ### what the joined shelves do: the mathematics of the law -/
section
variable {h o g : List (List Int)} {m n : Nat}
/-- the touches of the first shelf, of the second -/
def loW (m : Nat) (ws : List Int) : List Int := ws.filter fun t => decide (t < (m : Int))
def hiW (m : Nat) (ws : List Int) : List Int := (ws.filter fun t => decide ((m : Int) ≤ t)).map fun t => t - (m : Int)
theorem mvs_jn (hh : Hb m h) (ho : Hb n o) : ∀ {ws a b : List Int}, (∀ t ∈ ws, InR (m + n) t) → a.Perm (rg m) → b.Perm (rg n) → mvs (besH h o) (jn m a b) ws = jn m (mvs h a (loW m ws)) (mvs o b (hiW m ws))
  | [], _, _, _, _, _ => rfl
  | t :: ws, a, b, hw, ha, hb => by
    have ht := hw t List.mem_cons_self
    have hr : ∀ u ∈ ws, InR (m + n) u := fun u hu => hw u (List.mem_cons_of_mem _ hu)
    show mvs (besH h o) (stp (besH h o) t (jn m a b)) ws = _
    unfold loW hiW
    by_cases lt : t < (m : Int)
    · have f1 : (t :: ws).filter (fun t => decide (t < (m : Int))) = t :: ws.filter fun t => decide (t < (m : Int)) := List.filter_cons_of_pos (decide_eq_true lt)
      have f2 : (t :: ws).filter (fun t => decide ((m : Int) ≤ t)) = ws.filter fun t => decide ((m : Int) ≤ t) := List.filter_cons_of_neg (by rw [decide_eq_true_iff]; omega)
      rw [f1, f2, stp_lo hh ho ⟨ht.1, lt⟩ (fun i => perm_in ha) (fun i => perm_in hb)]
      exact mvs_jn hh ho hr (hh.stp_perm ⟨ht.1, lt⟩ ha) hb
    · have ge : InR n (t - (m : Int)) := ⟨by have := ht.1; omega, by have := ht.2; omega⟩
      have e : t = (m : Int) + (t - (m : Int)) := by omega
      have f1 : (t :: ws).filter (fun t => decide (t < (m : Int))) = ws.filter fun t => decide (t < (m : Int)) := List.filter_cons_of_neg (by rw [decide_eq_true_iff]; exact lt)
      have f2 : (t :: ws).filter (fun t => decide ((m : Int) ≤ t)) = t :: ws.filter fun t => decide ((m : Int) ≤ t) := List.filter_cons_of_pos (decide_eq_true (by omega))
      rw [f1, f2, List.map_cons]
      conv => lhs; rw [e]
      rw [stp_hi hh ho ge (fun i => perm_in ha) (fun i => perm_in hb)]
      exact mvs_jn hh ho hr ha (ho.stp_perm ge hb)
theorem lo_in {ws : List Int} (hw : ∀ t ∈ ws, InR (m + n) t) : ∀ t ∈ loW m ws, InR m t := fun t ht => by
  have := List.mem_filter.mp ht
  exact ⟨(hw t this.1).1, of_decide_eq_true this.2⟩
theorem hi_in {ws : List Int} (hw : ∀ t ∈ ws, InR (m + n) t) : ∀ t ∈ hiW m ws, InR n t := fun t ht => by
  obtain ⟨u, hu, rfl⟩ := List.mem_map.mp ht
  have := List.mem_filter.mp hu
  have := of_decide_eq_true this.2
  have := (hw u (List.mem_filter.mp hu).1).2
  exact ⟨by omega, by omega⟩
/-! #### undone -/
theorem inv_perm {r : List Int} (hr : r.Perm (rg n)) : (invR r).Perm (rg n) := by
  have e1 : r.map (fun x => ((r.idxOf x : Nat) : Int)) = rg n := by
    refine List.ext_getElem (by rw [List.length_map, rg_len, perm_len hr]) fun i h1 h2 => ?_
    rw [List.getElem_map, (perm_nd hr).idxOf_getElem i (by rw [List.length_map] at h1; exact h1)]
    have := rg_at (n := n) (i := i) (by rw [rg_len] at h2; exact h2)
    rw [List.getElem?_eq_getElem h2] at this
    exact (Option.some.inj this).symm
  have e2 : (rg n).map (fun x => ((r.idxOf x : Nat) : Int)) = invR r := by
    unfold rg invR
    rw [List.map_map, perm_len hr]
    rfl
  have := hr.map fun x => ((r.idxOf x : Nat) : Int)
  rw [e1, e2] at this
  exact this.symm
theorem inv_inv {r : List Int} (hr : r.Perm (rg n)) : invR (invR r) = r := by
  have pi := inv_perm hr
  refine List.ext_getElem (by rw [inv_len pi, perm_len hr]) fun i h1 h2 => ?_
  have hi : i < n := by rw [perm_len hr] at h2; exact h2
  obtain ⟨x, hx, ex, ix⟩ := o_at hr hi
  have e1 : r[i] = (x : Int) := by
    rw [← ex, List.getD_eq_getElem?_getD, List.getElem?_eq_getElem h2]
    rfl
  have e2 : (invR (invR r))[i] = (((invR r).idxOf (i : Int) : Nat) : Int) := by
    have := inv_getD pi hi
    rw [List.getD_eq_getElem?_getD, List.getElem?_eq_getElem h1] at this
    exact this
  rw [e1, e2]
  -- in the inverse i stands at x
  obtain ⟨y, hy, ey, iy⟩ := o_at pi hx
  have := inv_getD hr hx
  rw [ey, ix] at this
  have : y = i := by omega
  subst this
  rw [iy]
theorem mv_inv (hh : Hb n h) {p s : Nat} (hp : p < n) (hs : s < n) : mv (h.map invR) (p : Int) (mv h (p : Int) (s : Int)) = (s : Int) := by
  have hr := hh.perm _ (hh.row (p := (p : Int)) ⟨by omega, by omega⟩)
  rw [Int.toNat_natCast] at hr
  obtain ⟨x, hx, ex, ix⟩ := o_at hr hs
  have e : mv h (p : Int) (s : Int) = (x : Int) := by
    unfold mv
    rw [Int.toNat_natCast, Int.toNat_natCast]
    exact ex
  rw [e]
  unfold mv
  rw [Int.toNat_natCast, Int.toNat_natCast]
  have e2 : (h.map invR).getD p [] = invR (h.getD p []) := by
    rw [List.getD_eq_getElem?_getD, List.getElem?_map, List.getD_eq_getElem?_getD, List.getElem?_eq_getElem (by rw [hh.len]; exact hp)]
    rfl
  rw [e2, inv_getD hr hx, ix]
theorem stp_inv (hh : Hb n h) {p : Int} (hp : InR n p) {L : List Int} (hL : L.Perm (rg n)) : stp (h.map invR) p (stp h p L) = L := by
  obtain ⟨t, ht, rfl⟩ := nat_of hp
  unfold stp
  rw [List.map_map]
  conv => rhs; rw [← List.map_id L]
  refine List.map_congr_left fun x hx => ?_
  obtain ⟨s, hs, rfl⟩ := nat_of (perm_in hL hx)
  exact mv_inv hh ht hs
theorem inv_hb (hh : Hb n h) : Hb n (h.map invR) := ⟨by rw [List.length_map, hh.len], fun r hr => by
  obtain ⟨x, hx, rfl⟩ := List.mem_map.mp hr
  exact inv_perm (hh.perm x hx), hh.lo, hh.hi⟩
theorem inv_back (hh : Hb n h) : (h.map invR).map invR = h := by
  rw [List.map_map]
  conv => rhs; rw [← List.map_id h]
  exact List.map_congr_left fun x hx => inv_inv (hh.perm x hx)
/-! #### doubled -/
theorem dbl_perm {r : List Int} (hr : r.Perm (rg n)) : (dblR r).Perm (rg n) := by
  have e : (rg n).map (fun x => r.getD x.toNat 0) = r := by
    refine List.ext_getElem (by rw [List.length_map, rg_len, perm_len hr]) fun i h1 h2 => ?_
    have hi : i < n := by rw [perm_len hr] at h2; exact h2
    have e0 : (rg n)[i]'(by rw [rg_len]; exact hi) = (i : Int) := by
      have := rg_at (n := n) (i := i) hi
      rw [List.getElem?_eq_getElem (by rw [rg_len]; exact hi)] at this
      exact Option.some.inj this
    rw [List.getElem_map, e0, Int.toNat_natCast, List.getD_eq_getElem?_getD, List.getElem?_eq_getElem h2]
    rfl
  have := hr.map fun x => r.getD x.toNat 0
  rw [e] at this
  exact this.trans hr
theorem dbl_hb (hh : Hb n h) : Hb n (h.map dblR) := ⟨by rw [List.length_map, hh.len], fun r hr => by
  obtain ⟨x, hx, rfl⟩ := List.mem_map.mp hr
  exact dbl_perm (hh.perm x hx), hh.lo, hh.hi⟩
theorem stp_dbl (hh : Hb n h) {p : Int} (hp : InR n p) {L : List Int} (hL : L.Perm (rg n)) : stp (h.map dblR) p L = stp h p (stp h p L) := by
  obtain ⟨t, ht, rfl⟩ := nat_of hp
  unfold stp
  rw [List.map_map]
  refine List.map_congr_left fun x hx => ?_
  obtain ⟨s, hs, rfl⟩ := nat_of (perm_in hL hx)
  show ((h.map dblR).getD (t : Int).toNat []).getD (s : Int).toNat 0 = (h.getD (t : Int).toNat []).getD ((h.getD (t : Int).toNat []).getD (s : Int).toNat 0).toNat 0
  rw [Int.toNat_natCast, Int.toNat_natCast]
  have hr := hh.perm _ (hh.row (p := (t : Int)) ⟨by omega, by omega⟩)
  rw [Int.toNat_natCast] at hr
  have e2 : (h.map dblR).getD t [] = dblR (h.getD t []) := by
    rw [List.getD_eq_getElem?_getD, List.getElem?_map, List.getD_eq_getElem?_getD, List.getElem?_eq_getElem (by rw [hh.len]; exact ht)]
    rfl
  rw [e2]
  unfold dblR
  exact getD_m (f := fun g => (h.getD t []).getD g.toNat 0) (by rw [perm_len hr]; exact hs)
/-! #### called otherwise -/
theorem cal_hb (hh : Hb n h) {r : List Int} (hr : r.Perm (rg n)) : Hb n (calH h r) := by
  refine ⟨by unfold calH; rw [List.length_map, inv_len hr], fun x hx => ?_, hh.lo, hh.hi⟩
  unfold calH at hx
  obtain ⟨p, hp, rfl⟩ := List.mem_map.mp hx
  obtain ⟨k, hk, rfl⟩ := inv_mem hr hp
  have q := (hh.stp_perm (p := (k : Int)) ⟨by omega, by omega⟩ (inv_perm hr)).map fun x => r.getD x.toNat 0
  have e : (rg n).map (fun x => r.getD x.toNat 0) = r := by
    refine List.ext_getElem (by rw [List.length_map, rg_len, perm_len hr]) fun i h1 h2 => ?_
    have hi : i < n := by rw [perm_len hr] at h2; exact h2
    have e0 : (rg n)[i]'(by rw [rg_len]; exact hi) = (i : Int) := by
      have := rg_at (n := n) (i := i) hi
      rw [List.getElem?_eq_getElem (by rw [rg_len]; exact hi)] at this
      exact Option.some.inj this
    rw [List.getElem_map, e0, Int.toNat_natCast, List.getD_eq_getElem?_getD, List.getElem?_eq_getElem h2]
    rfl
  rw [e] at q
  unfold stp at q
  rw [List.map_map] at q
  exact q.trans hr
/-- the names of places -/
def nmd (r xs : List Int) : List Int := xs.map fun x => r.getD x.toNat 0
theorem nmd_perm {r xs : List Int} (hr : r.Perm (rg n)) (hx : xs.Perm (rg n)) : (nmd r xs).Perm (rg n) := by
  have e : (rg n).map (fun x => r.getD x.toNat 0) = r := by
    refine List.ext_getElem (by rw [List.length_map, rg_len, perm_len hr]) fun i h1 h2 => ?_
    have hi : i < n := by rw [perm_len hr] at h2; exact h2
    have e0 : (rg n)[i]'(by rw [rg_len]; exact hi) = (i : Int) := by
      have := rg_at (n := n) (i := i) hi
      rw [List.getElem?_eq_getElem (by rw [rg_len]; exact hi)] at this
      exact Option.some.inj this
    rw [List.getElem_map, e0, Int.toNat_natCast, List.getD_eq_getElem?_getD, List.getElem?_eq_getElem h2]
    rfl
  have := hx.map fun x => r.getD x.toNat 0
  rw [e] at this
  exact this.trans hr
theorem nmd_in {r xs : List Int} (hr : r.Perm (rg n)) (hx : ∀ t ∈ xs, InR n t) : ∀ t ∈ nmd r xs, InR n t := fun t ht => by
  obtain ⟨x, hm, rfl⟩ := List.mem_map.mp ht
  obtain ⟨k, hk, rfl⟩ := nat_of (hx x hm)
  obtain ⟨y, hy, ey, _⟩ := o_at hr hk
  rw [Int.toNat_natCast, ey]
  exact ⟨by omega, by omega⟩
theorem stp_cal (hh : Hb n h) {r : List Int} (hr : r.Perm (rg n)) {p : Int} (hp : InR n p) {L : List Int} (hL : L.Perm (rg n)) : stp (calH h r) (r.getD p.toNat 0) (nmd r L) = nmd r (stp h p L) := by
  obtain ⟨t, ht, rfl⟩ := nat_of hp
  unfold nmd stp
  rw [List.map_map, List.map_map]
  refine List.map_congr_left fun x hx => ?_
  obtain ⟨s, hs, rfl⟩ := nat_of (perm_in hL hx)
  show mv (calH h r) (r.getD (t : Int).toNat 0) (r.getD (s : Int).toNat 0) = r.getD (mv h (t : Int) (s : Int)).toNat 0
  rw [Int.toNat_natCast, Int.toNat_natCast]
  exact mv_cal hr ht hs
theorem mvs_cal (hh : Hb n h) {r : List Int} (hr : r.Perm (rg n)) : ∀ {ws L : List Int}, (∀ t ∈ ws, InR n t) → L.Perm (rg n) → mvs (calH h r) (nmd r L) (nmd r ws) = nmd r (mvs h L ws)
  | [], _, _, _ => rfl
  | t :: ws, L, hw, hL => by
    show mvs (calH h r) (stp (calH h r) (r.getD t.toNat 0) (nmd r L)) (nmd r ws) = _
    rw [stp_cal hh hr (hw t List.mem_cons_self) hL]
    exact mvs_cal hh hr (fun u hu => hw u (List.mem_cons_of_mem _ hu)) (hh.stp_perm (hw t List.mem_cons_self) hL)
/-! #### one within another, two places each -/
def all2 : List (List (List Int)) := [[[0, 1], [0, 1]], [[0, 1], [1, 0]], [[1, 0], [0, 1]], [[1, 0], [1, 0]]]
theorem row2 {r : List Int} (hr : r.Perm (rg 2)) : r = [0, 1] ∨ r = [1, 0] := by
  have l := perm_len hr
  match r, l with
  | [a, b], _ =>
    have ha := perm_in hr (x := a) (by simp)
    have hb := perm_in hr (x := b) (by simp)
    have nd := perm_nd hr
    have ne : a ≠ b := fun e => by
      subst e
      simp at nd
    obtain ⟨x, hx, rfl⟩ := nat_of ha
    obtain ⟨y, hy, rfl⟩ := nat_of hb
    have : x ≠ y := fun e => ne (by rw [e])
    have : (x = 0 ∧ y = 1) ∨ (x = 1 ∧ y = 0) := by omega
    rcases this with ⟨rfl, rfl⟩ | ⟨rfl, rfl⟩
    · exact .inl rfl
    · exact .inr rfl
theorem hb2 (hh : Hb 2 h) : h ∈ all2 := by
  have l := hh.len
  match h, l with
  | [a, b], _ =>
    rcases row2 (hh.perm a (by simp)) with rfl | rfl <;> rcases row2 (hh.perm b (by simp)) with rfl | rfl <;> decide
theorem with_all : ∀ h ∈ all2, ∀ g ∈ all2, (withH h g).length = 4 ∧ (∀ r ∈ withH h g, r.isPerm (rg 4) = true) ∧ ∀ p : Nat, p < 2 → ∀ s : Nat, s < 2 → ∀ at_ : Nat, at_ < 4 →
    mv (withH h g) ((p * 2 + s : Nat) : Int) (at_ : Int) = mv h (p : Int) ((at_ / 2 : Nat) : Int) * 2 + (if at_ / 2 = p then mv g (s : Int) ((at_ % 2 : Nat) : Int) else ((at_ % 2 : Nat) : Int)) := by decide +kernel
theorem with_hb (hh : Hb 2 h) (hg : Hb 2 g) : Hb 4 (withH h g) := by
  have := with_all h (hb2 hh) g (hb2 hg)
  exact ⟨this.1, fun r hr => List.isPerm_iff.mp (this.2.1 r hr), by decide, by decide⟩
end
end RH
set_option Elab.async false
set_option linter.all false
set_option maxRecDepth 100000
set_option maxHeartbeats 2000000
namespace RH
open PySem PySem.Spec PyProof.Rows L2
open NdefX (NScope CellsAt Caps slotAt slotAt_of cells_of startF ncx)
open LamX (Tabs TabS TabB ExtN CodeO codeO_ne)
/-! ### the law's lambdas -/
/-- the lambda that a statement of the law hands on -/
def lamIn : Stmt → Expr
  | .Assign _ (.List [.Call _ [l] _ _] _) _ => l
  | .Expr (.Call _ [.Call _ [l] _ _] _ _) _ => l
  | _ => .Constant .none 0 ⟨0, 0, 0, 0⟩
abbrev lamS4 (i : Nat) : Expr := lamIn ((defBody st_law).getD (20 + i) (.Pass ⟨0, 0, 0, 0⟩))
theorem nsl0 : NScope ["great", "one"] [] ["great", "one"] (lamS (lamS4 0)) := NdefX.nscope_by (by decide +kernel)
theorem nsl1 : NScope ["a", "other", "great"] ["a"] ["other", "great"] (lamS (lamS4 1)) := NdefX.nscope_by (by decide +kernel)
theorem nsl2 : NScope ["b", "one"] ["b"] ["one"] (lamS (lamS4 2)) := NdefX.nscope_by (by decide +kernel)
theorem nsl3 : NScope ["c", "row", "one"] ["c"] ["row", "one"] (lamS (lamS4 3)) := NdefX.nscope_by (by decide +kernel)
section
variable {P : Program} {w : World} {K : PySem.W.Frag} {mg : Str → Option Value} {base : Heap} {Cb Cl Cm : Addr}
theorem passN {N : List Str} {F : NdefX.NF} {f : Addr} {A : Around} {outer : List Env} {s : Shared} {H : Hp} {E : XK} : Passes (L2.CX P w) (ncx (L2.CX P w) P w K mg base N F f A outer s H E) E :=
  passes_call (W := fun cls d _ H => E cls d H) (takes_of rfl rfl rfl rfl) (fun _ _ _ _ h => h)
/-- a lambda that calls sp with what it caught -/
def spL (sp : Sp) (n : Nat) (g : List V → List V) : List (Option V) → Sp := fun ws vs H Q E => ∃ us : List V, us.length = n ∧ ws = us.map some ∧ vs = [] ∧ sp (g us) H Q E
theorem lokl0 (M : CalX P w K mg base 7 "beside" (spBeside K Cm)) (q : Str) (cl : List (Str × Addr)) (c f : Addr) : LOk P w K mg base (L2.CX P w) 8 f ⟨q, lamP (lamS4 0), lamB (lamS4 0), lamS (lamS4 0), cl, c⟩ [] ["great", "one"] (spL (spBeside K Cm) 2 id) := by
  refine lok_of nsl0 (fun pm ctv us hl => ?_) (fun ws vs H Q E hq => ?_) (fun A outer s H vs ws Q E hr hwl hsp => ?_)
  · match us, hl with
    | [], _ => rfl
  · obtain ⟨us, _, _, rfl, _⟩ := hq
    rfl
  · obtain ⟨us, hl, rfl, rfl, hsp⟩ := hsp
    match us, hl, hsp with
    | [u1, u2], _, hsp => exact ⟨_, pcX M passN hr (pa_cons (pv 0) (pa_cons (pv 1) pa_nil)), _, rfl, _, rfl, hsp⟩
/-- how the default comes to the parameter -/
theorem bindD {F : LF} {t : Addr} {x : Str} {s : Shared} {doc pm ctv u : Value} (h : s.heap.get? t = some (PySem.W.kdv_tup [u])) (h₁ : ∃ k : Option (Array Value) → Sem (List (Str × Value)), bindArgs (F.fdV (.ref t) doc pm ctv) ⟨[], []⟩ = seqItems? (.ref t) >>= k ∧ k (some [u].toArray) = pure [(x, u)]) :
    BindsTo s (F.fdV (.ref t) doc pm ctv) ⟨[], []⟩ [(x, u)] := by
  obtain ⟨k, e1, e2⟩ := h₁
  exact BindsTo.of_defaults rfl h rfl e1 e2
theorem lokl1 (M : CalX P w K mg base 7 "within" (spWithin K Cm)) (q : Str) (cl : List (Str × Addr)) (c f t : Addr) (n : Int) : LOkD P w K mg base (L2.CX P w) 8 f ⟨q, lamP (lamS4 1), lamB (lamS4 1), lamS (lamS4 1), cl, c⟩ t n ["other", "great"] (spL (spWithin K Cm) 2 id) := by
  refine lokD_of nsl1 (fun s doc pm ctv u h => bindD h ⟨_, rfl, rfl⟩) (fun A outer s H ws Q E hr hwl hsp => ?_)
  obtain ⟨us, hl, rfl, _, hsp⟩ := hsp
  match us, hl, hsp with
  | [u1, u2], _, hsp => exact ⟨_, pcX M passN hr (pa_cons (pv 1) (pa_cons (pv 2) pa_nil)), _, rfl, _, rfl, hsp⟩
def spCal0 (K : PySem.W.Frag) (Cl : Addr) : Sp := fun vs H Q E => ∃ v h n, vs = [v] ∧ TII K H v h ∧ Hb n h ∧ noE Cl H E
theorem lokl2 (M : CalX P w K mg base 7 "called" (spCalled K Cl)) (q : Str) (cl : List (Str × Addr)) (c f t : Addr) (n : Int) : LOkD P w K mg base (L2.CX P w) 8 f ⟨q, lamP (lamS4 2), lamB (lamS4 2), lamS (lamS4 2), cl, c⟩ t n ["one"] (spL (spCal0 K Cl) 1 id) := by
  refine lokD_of nsl2 (fun s doc pm ctv u h => bindD h ⟨_, rfl, rfl⟩) (fun A outer s H ws Q E hr hwl hsp => ?_)
  obtain ⟨us, hl, rfl, _, hsp⟩ := hsp
  match us, hl, hsp with
  | [u1], _, hsp =>
    obtain ⟨v, h, m, e, hT, hb, hE⟩ := hsp
    obtain rfl : u1 = v := List.cons.inj e |>.1
    refine ⟨_, pcX M passN hr (pa_cons (pv 1) (pa_cons (pe_tup (pa_cons pe_int pa_nil)) pa_nil)), _, rfl, by show 1 ≤ sizeLine; decide, fun tt htt => ?_⟩
    have st := same_new (o := .tup [.int 0]) htt
    have n2 := hb.lo
    exact ⟨u1, .ref tt, h, m, rfl, hT.on (Same.tups st), hb, .inl ⟨_, wd_ints (ns := [0]) (tupAt upd_same) (by decide), lay_len (by show 1 ≠ m; omega), fun H' s' => hE H' (st.trans s')⟩⟩
theorem not_row {H : Hp} {p b : Addr} {xs : List V} (h : Row K H p) (e : H b = some (.lst xs)) (hn : ∀ a i r c : Int, ∀ q : Addr, xs ≠ [.ref q, .int i, .int r, .int c]) : b ≠ p := fun z => by
  obtain ⟨a, ns, i, r, cc, A⟩ := h
  have := A.at_
  rw [← z, e] at this
  exact hn 0 i r cc a (HO.lst.inj (Option.some.inj this))
theorem tk_of {H H' : Hp} {p b : Addr} {xs : List V} (h : Row K H p) (hB : But p H H') (e : H b = some (.tup xs)) : SqT K H' b xs := tupAt (hB _ _ e fun z => by
  obtain ⟨a, ns, i, r, cc, A⟩ := h
  have := A.at_
  rw [← z, e] at this
  cases this)
def spBk0 (K : PySem.W.Frag) (Cb : Addr) : Sp := fun vs H Q E => ∃ p v, vs = [.ref p, v] ∧ Row K H p ∧ ∀ pl H', But p H H' → Row K H' p → bhE Cb "place" pl H' E
theorem lokl3 (B : Bu mg) (M : CalX P w K mg base 7 "backed" (spBacked K Cb)) (CPk : Cal P w K mg base 2 "_law_pick" (spPick K)) (q : Str) (cl : List (Str × Addr)) (c f t : Addr) (n : Int) : LOkD P w K mg base (L2.CX P w) 8 f ⟨q, lamP (lamS4 3), lamB (lamS4 3), lamS (lamS4 3), cl, c⟩ t n ["row", "one"] (spL (spBk0 K Cb) 2 id) := by
  refine lokD_of nsl3 (fun s doc pm ctv u h => bindD h ⟨_, rfl, rfl⟩) (fun A outer s H ws Q E hr hwl hsp => ?_)
  obtain ⟨us, hl, rfl, _, hsp⟩ := hsp
  match us, hl, hsp with
  | [u1, u2], _, hsp =>
    obtain ⟨p, v, e, hR, hE⟩ := hsp
    obtain ⟨rfl, eu⟩ := List.cons.inj e
    obtain rfl : u2 = v := List.cons.inj eu |>.1
    refine ⟨_, pcX M passN hr (pa_cons (pc CPk hr (pa_cons (pv 1) (pa_cons (pe_lst (pa_cons pe_non (pa_cons (pe_tup (pa_cons (pe_tup (pa_cons pe_int pa_nil)) pa_nil)) (pa_cons (pe_tup (pa_cons (pe_tup (pa_cons pe_int (pa_cons pe_int pa_nil))) (pa_cons (pe_tup (pa_cons pe_int (pa_cons pe_int pa_nil))) pa_nil))) (pa_cons (pe_lst (pa_cons (pv 2) pa_nil)) pa_nil))))) pa_nil))) pa_nil), ?_⟩
    refine ⟨_, rfl, by show 1 ≤ sizeLine; decide, fun t1 h1 => ?_⟩
    have s1 := same_new (o := .tup [.int 0]) h1
    refine ⟨by show 1 ≤ sizeLine; decide, fun t2 h2 => ?_⟩
    have s2 := same_new (o := .tup [.ref t1]) h2
    refine ⟨by show 2 ≤ sizeLine; decide, fun t3 h3 => ?_⟩
    have s3 := same_new (o := .tup [.int 0, .int 1]) h3
    refine ⟨by show 2 ≤ sizeLine; decide, fun t4 h4 => ?_⟩
    have s4 := same_new (o := .tup [.int 0, .int 0]) h4
    refine ⟨by show 2 ≤ sizeLine; decide, fun t5 h5 => ?_⟩
    have s5 := same_new (o := .tup [.ref t3, .ref t4]) h5
    refine ⟨_, rfl, by show 1 ≤ sizeLine; decide, fun l6 h6 => ?_⟩
    have s6 := same_new (o := .lst [u2]) h6
    refine ⟨by show 4 ≤ sizeLine; decide, fun l7 h7 => ?_⟩
    have s7 := same_new (o := .lst [.non, .ref t2, .ref t5, .ref l6]) h7
    have e1 := (s2.trans (s3.trans (s4.trans (s5.trans (s6.trans s7))))) _ _ upd_same
    have e2 := (s3.trans (s4.trans (s5.trans (s6.trans s7)))) _ _ upd_same
    have e3 := (s4.trans (s5.trans (s6.trans s7))) _ _ upd_same
    have e4 := (s5.trans (s6.trans s7)) _ _ upd_same
    have e5 := (s6.trans s7) _ _ upd_same
    have e6 := s7 _ _ upd_same
    have sA := s1.trans (s2.trans (s3.trans (s4.trans (s5.trans (s6.trans s7)))))
    have hR7 := hR.same sA
    have np : l7 ≠ p := not_row hR7 upd_same (by simp)
    have n6 : l6 ≠ p := not_row hR7 e6 (by simp)
    refine ⟨p, l7, _, rfl, hR7, upd_same, np, by show 0 < 4; decide, by show 4 ≤ 1000; decide, fun i x H8 hx hB8 hR8 => ?_⟩
    have hE8 : ∀ pl, bhE Cb "place" pl H8 E := fun pl => hE pl H8 ((But.same sA).trans hB8) hR8
    refine ⟨x, rfl, .inl ?_⟩
    match i, hx with
    | 0, hx =>
      cases Option.some.inj hx
      exact ⟨none, .non, .no .non, rfl, hE8 _⟩
    | 1, hx =>
      cases Option.some.inj hx
      exact ⟨some [some [.int 0]], .non, .tup (tk_of hR7 hB8 e2) (.cons (wd_ints (ns := [0]) (tk_of hR7 hB8 e1) (by decide)) .nil), by decide +kernel, hE8 _⟩
    | 2, hx =>
      cases Option.some.inj hx
      exact ⟨some [some [.int 0, .int 1], some [.int 0, .int 0]], .int 1, .tup (tk_of hR7 hB8 e5) (.cons (wd_ints (ns := [0, 1]) (tk_of hR7 hB8 e3) (by decide)) (.cons (wd_ints (ns := [0, 0]) (tk_of hR7 hB8 e4) (by decide)) .nil)), by decide +kernel, hE8 _⟩
    | 3, hx =>
      cases Option.some.inj hx
      exact ⟨none, .non, .no (.lst (lstAt (hB8 _ _ e6 n6))), rfl, hE8 _⟩
    | i + 4, hx => simp at hx
end
end RH
set_option Elab.async false
set_option linter.all false
set_option maxRecDepth 100000
set_option maxHeartbeats 2000000
namespace RH
open PySem PySem.Spec PyProof.Rows L2
open LamX (Tabs TabS TabB ExtN CodeO codeO_ne)
/-! ### the law: what stands -/
/-- all that is no list and no table of code objects is as it was -/
def Ev (H H' : Hp) : Prop := ∀ b o, H b = some o → (∀ xs, o ≠ .lst xs) → (∀ ps, o ≠ .tbl ps) → H' b = some o
theorem Ev.refl (H : Hp) : Ev H H := fun _ _ e _ _ => e
theorem Ev.trans {H H1 H2 : Hp} (a : Ev H H1) (b : Ev H1 H2) : Ev H H2 := fun c o e n m => b c o (a c o e n m) n m
theorem Ev.same {H H1 : Hp} (a : Same H H1) : Ev H H1 := fun c o e _ _ => a c o e
theorem Ev.fix {H H1 : Hp} (a : Fix H H1) : Ev H H1 := fun c o e n _ => a c o e n
theorem Ev.ext {H H1 : Hp} (a : ExtN H H1) : Ev H H1 := fun c o e _ m => a c o e m
theorem Ev.tk {H H' : Hp} (e : Ev H H') : TK H H' := fun b xs h => by
  rcases h with h | ⟨ob, h⟩
  · exact .inl (e _ _ h (fun _ z => nomatch z) (fun _ z => nomatch z))
  · exact .inr ⟨ob, e _ _ h (fun _ z => nomatch z) (fun _ z => nomatch z)⟩
theorem Ev.tups {K : PySem.W.Frag} {H H' : Hp} (e : Ev H H') : Tups K H H' := fun a xs hs => by
  rcases hs with hs | hs
  · exact .inl (e.tk _ _ hs)
  · exact .inr hs
theorem FT.ev {H H' : Hp} {b : Addr} {s : List Int} (e : Ev H H') (h : FT H b s) : FT H' b s := let ⟨ob, h1, h2⟩ := h; ⟨ob, e _ _ h1 (fun _ z => nomatch z) (fun _ z => nomatch z), h2⟩
theorem Fix.tabs {T : List (Addr × Str)} {H H' : Hp} (f : Fix H H') (t : Tabs T H) : Tabs T H' := fun p hp => by
  obtain ⟨ps, h1, h2, h3⟩ := t p hp
  refine ⟨ps, f _ _ h1 (fun xs z => nomatch z), h2, fun pos cv hc => ?_⟩
  obtain ⟨c, e1, e2⟩ := h3 pos cv hc
  exact ⟨c, e1, f _ _ e2 (fun xs z => by unfold CodeO at z; cases z)⟩
theorem Row.ext {K : PySem.W.Frag} {H H' : Hp} {p : Addr} (e : ExtN H H') (h : Row K H p) : Row K H' p := by
  obtain ⟨a, ns, i, r, c, h⟩ := h
  refine ⟨a, ns, i, r, c, e _ _ h.at_ (fun ps z => nomatch z), ?_, h.pos⟩
  rcases h.fz with ⟨o, z⟩ | z
  · exact .inl ⟨o, e _ _ z (fun ps z => nomatch z)⟩
  · exact .inr z
theorem TIF.ev {H H' : Hp} (e : Ev H H') {v : V} {ns : List Int} (h : TIF H v ns) : TIF H' v ns := let ⟨b, e1, g⟩ := h; ⟨b, e1, g.ev e⟩
theorem TIF.ti {K : PySem.W.Frag} {H : Hp} {v : V} {ns : List Int} (h : TIF H v ns) : TI K H v ns := let ⟨b, e1, g⟩ := h; ⟨b, e1, g.sq⟩
theorem THF.ev {K : PySem.W.Frag} {H H' : Hp} (e : Ev H H') {v : V} {h : List (List Int)} (q : THF K H v h) : THF K H' v h := by
  obtain ⟨a, xs, rfl, hS, hE⟩ := q
  exact ⟨a, xs, rfl, e.tups _ _ hS, hE.imp fun _ _ z => z.ev e⟩
/-- what the law keeps: its row, its tables, its two shelves -/
structure Two (K : PySem.W.Frag) (T : List (Addr × Str)) (p : Addr) (vO vT : V) (h1 h2 : List (List Int)) (H : Hp) : Prop where
  row : Row K H p
  tab : Tabs T H
  o : THF K H vO h1
  t : THF K H vT h2
theorem Two.same {K : PySem.W.Frag} {T : List (Addr × Str)} {p : Addr} {vO vT : V} {h1 h2 : List (List Int)} {H H' : Hp} (c : Two K T p vO vT h1 h2 H) (e : Same H H') : Two K T p vO vT h1 h2 H' := ⟨c.row.same e, c.tab.ext fun b o q => e b o q, c.o.ev (Ev.same e), c.t.ev (Ev.same e)⟩
theorem Two.but {K : PySem.W.Frag} {T : List (Addr × Str)} {p : Addr} {vO vT : V} {h1 h2 : List (List Int)} {H H' : Hp} (c : Two K T p vO vT h1 h2 H) (e : But p H H') (r : Row K H' p) : Two K T p vO vT h1 h2 H' := ⟨r, (c.row.fix e).tabs c.tab, c.o.ev (Ev.fix (c.row.fix e)), c.t.ev (Ev.fix (c.row.fix e))⟩
theorem Two.ext {K : PySem.W.Frag} {T : List (Addr × Str)} {p : Addr} {vO vT : V} {h1 h2 : List (List Int)} {H H' : Hp} (c : Two K T p vO vT h1 h2 H) (e : ExtN H H') (t : Tabs T H') : Two K T p vO vT h1 h2 H' := ⟨c.row.ext e, t, c.o.ev (Ev.ext e), c.t.ev (Ev.ext e)⟩
/-- rows as data -/
def rwsD (h : List (List Int)) : List PyData := h.map fun s => .tuple (s.map PyData.int)
theorem rws_can : ∀ h : List (List Int), PyData.canLayAll0 (rwsD h) = true ∧ PyData.depthAll (rwsD h) ≤ 1
  | [] => ⟨rfl, by show (0 : Nat) ≤ 1; decide⟩
  | s :: h => by
    have ih := rws_can h
    have d0 := PySem.W.ke_depthAll s
    show PyData.canLayAll0 (.tuple (s.map PyData.int) :: rwsD h) = true ∧ PyData.depthAll (.tuple (s.map PyData.int) :: rwsD h) ≤ 1
    simp only [PyData.canLayAll0, PyData.canLay0, PyData.depthAll, PyData.depth, PySem.W.ke_canLayAll0, ih.1, d0, Bool.and_self, true_and]
    have := ih.2
    omega
theorem shaped_rws (h : List (List Int)) : SeqAt.shaped (.tuple (rwsD h)) = true := by
  have := rws_can h
  unfold SeqAt.shaped
  rw [Bool.and_eq_true, decide_eq_true_iff]
  refine ⟨by simp only [PyData.canLay0]; exact this.1, ?_⟩
  simp only [PyData.depth]
  omega
theorem rws_dp {K : PySem.W.Frag} {H : Hp} : ∀ {xs : List V} {h : List (List Int)}, Each (TI K H) xs h → DpAll K H xs (rwsD h)
  | _, _, .nil => .nil
  | _, _, .cons ⟨_, e, hS⟩ t => by
    subst e
    exact .cons (dp_tup hS) (rws_dp t)
theorem dp_rws {K : PySem.W.Frag} {H : Hp} {v : V} {h : List (List Int)} (q : TII K H v h) : Dp K H v (.tuple (rwsD h)) := by
  obtain ⟨a, xs, rfl, hS, hE⟩ := q
  exact .tup hS (rws_dp hE)
theorem eqv_rws (h : List (List Int)) : PyData.eqv (.tuple (rwsD h)) (.tuple (rwsD h)) = true := SeqAt.eqv_refl _ (Bool.and_eq_true_iff.mp (shaped_rws h)).1
theorem dp_ti {K : PySem.W.Frag} {H : Hp} {v : V} {ns : List Int} (q : TI K H v ns) : Dp K H v (.tuple (ns.map PyData.int)) := by
  obtain ⟨a, rfl, hS⟩ := q
  exact dp_tup hS
theorem neq_tup {ns ms : List Int} (e : ns = ms) : (!PyData.eqv (.tuple (ns.map PyData.int)) (.tuple (ms.map PyData.int))) = false := by
  rw [eqv_tup, decide_eq_true e]
  rfl
theorem lo_more {m : Nat} {ws : List Int} {i : Nat} {t : Int} (h : ws[i]? = some t) : loW m (ws.take (i + 1)) = loW m (ws.take i) ++ (if decide (t < (m : Int)) = true then [t] else []) := by
  unfold loW
  rw [List.take_add_one, h, List.filter_append]
  congr 1
  show List.filter _ [t] = _
  rw [List.filter_cons]
  rfl
theorem hi_more {m : Nat} {ws : List Int} {i : Nat} {t : Int} (h : ws[i]? = some t) : hiW m (ws.take (i + 1)) = hiW m (ws.take i) ++ (if decide ((m : Int) ≤ t) = true then [t - (m : Int)] else []) := by
  unfold hiW
  rw [List.take_add_one, h, List.filter_append, List.map_append]
  congr 1
  show List.map _ (List.filter _ [t]) = _
  rw [List.filter_cons]
  split <;> rfl
theorem lo_few {m : Nat} (ws : List Int) : (loW m ws).length ≤ ws.length := List.length_filter_le _ _
theorem hi_few {m : Nat} (ws : List Int) : (hiW m ws).length ≤ ws.length := by
  unfold hiW
  rw [List.length_map]
  exact List.length_filter_le _ _
theorem row_at {h : List (List Int)} {n : Nat} (hb : Hb n h) {t s : Nat} (ht : t < n) (hs : s < n) : atI ((h.getD (t : Int).toNat []).map V.int) (s : Int) = some (.int (mv h (t : Int) (s : Int))) := by
  have l := row_len hb ht
  refine atI_nat ?_
  unfold mv
  rw [Int.toNat_natCast, Int.toNat_natCast, List.getElem?_map, List.getD_eq_getElem?_getD (l := h.getD t []), List.getElem?_eq_getElem (by rw [l]; exact hs)]
  rfl
/-- where a book of the inner shelf is due -/
def dueF (h g : List (List Int)) (x y : Nat) (u : Int) : Int := mv h (x : Int) ((u.toNat / 2 : Nat) : Int) * 2 + (if u.toNat / 2 = x then mv g (y : Int) ((u.toNat % 2 : Nat) : Int) else ((u.toNat % 2 : Nat) : Int))
theorem due_all {h g : List (List Int)} (hh : Hb 2 h) (hg : Hb 2 g) {x y : Nat} (hx : x < 2) (hy : y < 2) {S : List Int} (hS : S.Perm (rg 4)) : mvs (withH h g) S [(x : Int) * 2 + (y : Int)] = S.map (dueF h g x y) := by
  show S.map (mv (withH h g) ((x : Int) * 2 + (y : Int))) = _
  refine List.map_congr_left fun u hu => ?_
  obtain ⟨k, hk, rfl⟩ := nat_of (perm_in hS hu)
  have := (with_all h (hb2 hh) g (hb2 hg)).2.2 x hx y hy k hk
  unfold dueF
  rw [Int.toNat_natCast]
  rw [show (x : Int) * 2 + (y : Int) = ((x * 2 + y : Nat) : Int) by omega]
  exact this
theorem due_perm {h g : List (List Int)} (hh : Hb 2 h) (hg : Hb 2 g) {x y : Nat} (hx : x < 2) (hy : y < 2) {S : List Int} (hS : S.Perm (rg 4)) : (S.map (dueF h g x y)).Perm (rg 4) := by
  rw [← due_all hh hg hx hy hS]
  exact (with_hb hh hg).mvs_perm (fun t ht => by rw [List.mem_singleton.mp ht]; exact ⟨by omega, by omega⟩) hS
end RH
set_option Elab.async false
set_option linter.all false
set_option maxRecDepth 100000
set_option maxHeartbeats 2000000
namespace RH
open PySem PySem.Spec PyProof.Rows L2
open NdefX (NScope CellsAt Caps slotAt slotAt_of cells_of startF ncx)
open LamX (Tabs TabS TabB ExtN CodeO codeO_ne)
/-! ### the law -/
abbrev NL84 : List Str := ["script", "row", "one", "other", "both", "many", "more", "left", "right", "whole", "word", "ends", "inner", "nest", "stands", "place", "spot", "due", "at", "house", "room", "names", "layout", "again", "moved", "back", "two", "great", "words", "turn"]
def spLaw (K : PySem.W.Frag) (T : List (Addr × Str)) : Sp := fun vs H Q _ => ∃ (a : Addr) (ns : List Int), vs = [.ref a] ∧ Fz K H a (ns.map V.int) ∧ Tabs T H ∧ ∀ H', Q (.bl true) H'
section
variable {P : Program} {w : World} {K : PySem.W.Frag} {mg : Str → Option Value} {base : Heap} {Cb Cl Cm : Addr}
theorem mkFnC {x : Str} {st : Stmt} {N ps : List Str} {k : Nat} {sp : Sp} {c f : Addr} {oc : Value} {od : Option Addr} {kV doc pm : Value} {an : Option Addr} {ct : Value} {osl : Array (Option Value)} (lk : K.lookup f = some ⟨oc, od, .func (PySem.W.fnOf x x (defArgs st) (defBody st) (defScope st) .none kV doc pm an (.ref c) ct), osl⟩) (hcd : PySem.W.codeIn K (.ref c) x = true)
    (S : FnScope N ps (defScope st)) (len : ∀ vs H Q E, sp vs H Q E → vs.length = ps.length)
    (hbody : ∀ (A : Around) (outer : List Env) (s : Shared) (H : Hp) (vs : List V) (Q : VK) (E : XK), Room k (A.deeper (envOfC x (defScope st) s.heap.objs.size f (.ref c))) → sp vs H Q E →
      ∃ t, PSs (cxOf CX0 P w K mg base N x (defScope st) f (.ref c) A outer s H E).nox (defBody st) t ∧ t { nx := fun _ H' => Q .non H', rt := Q } (start N vs) H) : FnOk P w K mg base CX0 (k + 1) f (PySem.W.fnOf x x (defArgs st) (defBody st) (defScope st) .none kV doc pm an (.ref c) ct) ps sp := by
  refine fn_of lk hcd S len fun A outer s H vs Q E hr hsp => ?_
  obtain ⟨t, h, q⟩ := hbody A outer s H vs Q E hr hsp
  exact ⟨t, h.nox, q⟩
theorem ok_law {c P1 P2 f : Addr} {oc : Value} {od : Option Addr} {kV doc pm : Value} {an : Option Addr} {ct : Value} {osl : Array (Option Value)} (lk : K.lookup f = some ⟨oc, od, .func (PySem.W.fnOf "law" "law" (defArgs st_law) (defBody st_law) (defScope st_law) .none kV doc pm an (.ref c) ct), osl⟩) (hcd : PySem.W.codeIn K (.ref c) "law" = true) (FS : Df K mg "_law_said" st__law_said ["work"]) (B : Bu mg) (TB : TabB base mg c P2) (hPP : P1 ≠ P2) (SD : Sd K mg Cb Cl Cm) (CT : Cal P w K mg base 1 "_law_taken" (spTaken K)) (CPk : Cal P w K mg base 2 "_law_pick" (spPick K))
    (CP : Cal P w K mg base 2 "_law_permutation" (spPermL K)) (CH : Cal P w K mg base 3 "_law_habit" (spHabF K)) (CBe : CalX P w K mg base 7 "beside" (spBeside K Cm)) (CWi : CalX P w K mg base 7 "within" (spWithin K Cm)) (CCa : CalX P w K mg base 7 "called" (spCalled K Cl)) (CBk : CalX P w K mg base 7 "backed" (spBacked K Cb)) (CDo : CalX P w K mg base 7 "doubled" (spDoubled K Cb))
    (CAf : CalX P w K mg base 7 "after" (spAfterG K)) (COr : CalX P w K mg base 7 "order" (spOrd K (tabsT P1 P2))) : FnOk P w K mg base CX0 10 f (PySem.W.fnOf "law" "law" (defArgs st_law) (defBody st_law) (defScope st_law) .none kV doc pm an (.ref c) ct) ["script"] (spLaw K (tabsT P1 P2)) := by
  obtain ⟨fS, fdS, FunS, gS, bS⟩ := FS.ex
  refine mkFnC lk hcd sc_law (fun vs H Q E h => ?_) (fun A outer s H vs Q E hr h => ?_)
  · obtain ⟨a, ns, rfl, _⟩ := h
    rfl
  · obtain ⟨a, scr, rfl, hZ, hTb, q⟩ := h
    let X : Cx := (cxOf CX0 P w K mg base NL84 "law" (defScope st_law) f (.ref c) A outer s H E).nox
    have cell0 : ∀ i, i < 4 → ∀ y ∈ (lamS (lamS4 i)).names, y.2 = .free → (defScope st_law).names.lookup y.1 = some .cell ∨ (defScope st_law).names.lookup y.1 = some .free := by decide +kernel
    have hf0 : ∀ y ∈ (lamS (lamS4 0)).names, y.2 = .free → X.env.scope.names.lookup y.1 = some .cell ∨ X.env.scope.names.lookup y.1 = some .free := cell0 0 (by decide)
    have hf1 : ∀ y ∈ (lamS (lamS4 1)).names, y.2 = .free → X.env.scope.names.lookup y.1 = some .cell ∨ X.env.scope.names.lookup y.1 = some .free := cell0 1 (by decide)
    have hf2 : ∀ y ∈ (lamS (lamS4 2)).names, y.2 = .free → X.env.scope.names.lookup y.1 = some .cell ∨ X.env.scope.names.lookup y.1 = some .free := cell0 2 (by decide)
    have hf3 : ∀ y ∈ (lamS (lamS4 3)).names, y.2 = .free → X.env.scope.names.lookup y.1 = some .cell ∨ X.env.scope.names.lookup y.1 = some .free := cell0 3 (by decide)
    have hc0 : ∀ y ∈ (["great", "one"] : List Str), (y, NameKind.free) ∈ (lamS (lamS4 0)).names := by decide +kernel
    have hc1 : ∀ y ∈ (["other", "great"] : List Str), (y, NameKind.free) ∈ (lamS (lamS4 1)).names := by decide +kernel
    have hc2 : ∀ y ∈ (["one"] : List Str), (y, NameKind.free) ∈ (lamS (lamS4 2)).names := by decide +kernel
    have hc3 : ∀ y ∈ (["row", "one"] : List Str), (y, NameKind.free) ∈ (lamS (lamS4 3)).names := by decide +kernel
    have huT : ∀ p ∈ tabsT P1 P2, p.1 = P2 → p.2 = X.env.qual ++ "<lambda>" := fun p hp e => by
      rcases List.mem_cons.mp hp with rfl | hp
      · exact absurd e hPP
      · rw [List.mem_singleton.mp hp]
        rfl
    let mk : Nat → Addr → LF := fun i c' => ⟨X.env.qual ++ "<lambda>", lamP (lamS4 i), lamB (lamS4 i), lamS (lamS4 i), cloFrom X.env.cells (lamS (lamS4 i)).names [], c'⟩
    let pre0 : GW → L2.St → Hp → Prop := fun g σ H => ∃ (fl c' : Addr) (u1 u2 : V), g = ⟨fl, liveL fl (mk 0 c'), spL (spBeside K Cm) 2 id [some u1, some u2]⟩ ∧ σ[27]? = some (some u1) ∧ σ[2]? = some (some u2)
    let pre1 : GW → L2.St → Hp → Prop := fun g σ H => ∃ (fl c' t : Addr) (u1 u2 : V), g = ⟨fl, liveD fl (mk 1 c') t 0, spL (spWithin K Cm) 2 id [some u1, some u2]⟩ ∧ σ[3]? = some (some u1) ∧ σ[27]? = some (some u2)
    let pre2 : GW → L2.St → Hp → Prop := fun g σ H => ∃ (fl c' t : Addr) (u1 : V), g = ⟨fl, liveD fl (mk 2 c') t 0, spL (spCal0 K Cl) 1 id [some u1]⟩ ∧ σ[2]? = some (some u1)
    let pre3 : GW → L2.St → Hp → Prop := fun g σ H => ∃ (fl c' t : Addr) (u1 u2 : V), g = ⟨fl, liveD fl (mk 3 c') t 0, spL (spBk0 K Cb) 2 id [some u1, some u2]⟩ ∧ σ[1]? = some (some u1) ∧ σ[2]? = some (some u2)
    have hP0 : ∀ (g : GW) (pins : List (Addr × Obj)) (σ : L2.St) (H : Hp) (s : Shared), Inv X pins σ H s → pre0 g σ H → preW P w K mg base g X.stack s H := by
      rintro g pins σ H s I ⟨fl, c', u1, u2, rfl, e1, e2⟩
      have C : CellsAt (mk 0 c').cl ["great", "one"] [some u1, some u2] s.heap H := by
        have := cells_of I (Caps.made (X := X) (fr := ["great", "one"]) (js := [27, 2]) I.ok hf0 hc0 rfl)
        rw [show ([27, 2].map (slotAt σ)) = [some u1, some u2] from by rw [List.map_cons, List.map_cons, slotAt_of e1, slotAt_of e2]; rfl] at this
        exact this
      exact call0_lam (lokl0 CBe (mk 0 c').qual (mk 0 c').cl c' fl) C fun y c0 e => frs_free I (fun _ => rfl) (NdefX.clo_cm (fun y hy e => (hf0 y hy e).elim (fun z => I.ok.has _ (.inl z)) fun z => I.ok.has _ (.inr z)) e)
    have hP1 : ∀ (g : GW) (pins : List (Addr × Obj)) (σ : L2.St) (H : Hp) (s : Shared), Inv X pins σ H s → pre1 g σ H → preW P w K mg base g X.stack s H := by
      rintro g pins σ H s I ⟨fl, c', t, u1, u2, rfl, e1, e2⟩
      have C : CellsAt (mk 1 c').cl ["other", "great"] [some u1, some u2] s.heap H := by
        have := cells_of I (Caps.made (X := X) (fr := ["other", "great"]) (js := [3, 27]) I.ok hf1 hc1 rfl)
        rw [show ([3, 27].map (slotAt σ)) = [some u1, some u2] from by rw [List.map_cons, List.map_cons, slotAt_of e1, slotAt_of e2]; rfl] at this
        exact this
      exact call0_lamD (lokl1 CWi (mk 1 c').qual (mk 1 c').cl c' fl t 0) C fun y c0 e => frs_free I (fun _ => rfl) (NdefX.clo_cm (fun y hy e => (hf1 y hy e).elim (fun z => I.ok.has _ (.inl z)) fun z => I.ok.has _ (.inr z)) e)
    have hP2 : ∀ (g : GW) (pins : List (Addr × Obj)) (σ : L2.St) (H : Hp) (s : Shared), Inv X pins σ H s → pre2 g σ H → preW P w K mg base g X.stack s H := by
      rintro g pins σ H s I ⟨fl, c', t, u1, rfl, e1⟩
      have C : CellsAt (mk 2 c').cl ["one"] [some u1] s.heap H := by
        have := cells_of I (Caps.made (X := X) (fr := ["one"]) (js := [2]) I.ok hf2 hc2 rfl)
        rw [show ([2].map (slotAt σ)) = [some u1] from by rw [List.map_cons, slotAt_of e1]; rfl] at this
        exact this
      exact call0_lamD (lokl2 CCa (mk 2 c').qual (mk 2 c').cl c' fl t 0) C fun y c0 e => frs_free I (fun _ => rfl) (NdefX.clo_cm (fun y hy e => (hf2 y hy e).elim (fun z => I.ok.has _ (.inl z)) fun z => I.ok.has _ (.inr z)) e)
    have hP3 : ∀ (g : GW) (pins : List (Addr × Obj)) (σ : L2.St) (H : Hp) (s : Shared), Inv X pins σ H s → pre3 g σ H → preW P w K mg base g X.stack s H := by
      rintro g pins σ H s I ⟨fl, c', t, u1, u2, rfl, e1, e2⟩
      have C : CellsAt (mk 3 c').cl ["row", "one"] [some u1, some u2] s.heap H := by
        have := cells_of I (Caps.made (X := X) (fr := ["row", "one"]) (js := [1, 2]) I.ok hf3 hc3 rfl)
        rw [show ([1, 2].map (slotAt σ)) = [some u1, some u2] from by rw [List.map_cons, List.map_cons, slotAt_of e1, slotAt_of e2]; rfl] at this
        exact this
      exact call0_lamD (lokl3 B CBk CPk (mk 3 c').qual (mk 3 c').cl c' fl t 0) C fun y c0 e => frs_free I (fun _ => rfl) (NdefX.clo_cm (fun y hy e => (hf3 y hy e).elim (fun z => I.ok.has _ (.inl z)) fun z => I.ok.has _ (.inr z)) e)
    refine ⟨_, (pss_cons (ps_set (i := 1) sc_law.nd rfl (.inr rfl) (pe_lst (pa_cons (pv 0) (pa_cons pe_int (pa_cons pe_int (pa_cons pe_int pa_nil))))))
      (pss_cons (ps_cutM (ps_asg (pe_tup (pa_cons (pc CH hr (pa_cons (pv 1) (pa_cons pe_int pa_nil))) (pa_cons (pc CH hr (pa_cons (pv 1) (pa_cons (pe_op op_add pe_int (pc CT hr (pa_cons (pv 1) (pa_cons pe_int pa_nil)))) pa_nil))) pa_nil))) (pg_tup rfl (pgs_cons (pg_name (i := 2) sc_law.nd rfl (.inr rfl)) (pgs_cons (pg_name (i := 3) sc_law.nd rfl (.inr rfl)) pgs_nil)))))
      (pss_cons (ps_cutM (ps_asg (pe_tup (pa_cons (pcX CBe passL hr (pa_cons (pv 2) (pa_cons (pv 3) pa_nil))) (pa_cons (pe_callB (cl_len K) (by rfl) B.len PySem.boot_len (pa_cons (pv 2) pa_nil)) (pa_cons (pe_callB (cl_len K) (by rfl) B.len PySem.boot_len (pa_cons (pv 3) pa_nil)) pa_nil)))) (pg_tup rfl (pgs_cons (pg_name (i := 4) sc_law.nd rfl (.inl rfl)) (pgs_cons (pg_name (i := 5) sc_law.nd rfl (.inr rfl)) (pgs_cons (pg_name (i := 6) sc_law.nd rfl (.inr rfl)) pgs_nil))))))
      (pss_cons (ps_cutM (ps_par (i := 7) (j := 8) rfl sc_law.nd rfl rfl (by decide) rfl rfl (pa_cons (pc CP hr (pa_cons (pv 1) (pa_cons (pv 5) pa_nil))) (pa_cons (pc CP hr (pa_cons (pv 1) (pa_cons (pv 6) pa_nil))) pa_nil)) rfl))
      (pss_cons (ps_cutM (ps_par (i := 9) (j := 10) rfl sc_law.nd rfl rfl (by decide) rfl rfl (pa_cons (pe_op op_catA (pv 7) (pe_tupleOf (by rfl) B.tuple (pe_lc (own := [("place", 15)]) (g := gName 15) (tt := tYes) rfl sc_law.nd (pi_tup (pv 8)) (blkOk_by (N := NL84) (sc := defScope st_law) (by decide +kernel)) (fun _ _ _ _ _ => pg_name (i := 15) sc_law.nd rfl (Or.inl rfl)) (fun _ _ _ _ _ => pts_nil) (fun _ _ _ _ _ => (pe_op op_add (pv 5) (pv 15)))))) (pa_cons (pe_lc (own := [("turn", 29)]) (g := gName 29) (tt := tYes) rfl sc_law.nd (pi_range1 (by rfl) B.range (pa_cons pe_int pa_nil)) (blkOk_by (N := NL84) (sc := defScope st_law) (by decide +kernel)) (fun _ _ _ _ _ => pg_name (i := 29) sc_law.nd rfl (Or.inl rfl)) (fun _ _ _ _ _ => pts_nil) (fun _ _ _ _ _ => (pc CT hr (pa_cons (pv 1) (pa_cons (pe_op op_add (pv 5) (pv 6)) pa_nil))))) pa_nil)) rfl))
      (pss_cons (ps_cutM (ps_set (i := 11) sc_law.nd rfl (.inl rfl) (pe_tup (pa_cons (pcX CAf passL hr (pa_cons (pv 2) (pa_cons (pv 7) (pa_cons (pe_tupleOf (by rfl) B.tuple (pe_lc (own := [("place", 15)]) (g := gName 15) rfl sc_law.nd (pi_list (pv 10)) (blkOk_by (N := NL84) (sc := defScope st_law) (by decide +kernel)) (fun _ _ _ _ _ => pg_name (i := 15) sc_law.nd rfl (Or.inl rfl)) (fun _ _ _ _ _ => pts_one (pt_cmpR op_lt (pv 15) (pv 5) (nomark _))) (fun _ _ _ _ _ => (pv 15)))) pa_nil)))) (pa_cons (pv 8) pa_nil)))))
      (pss_cons (ps_cutM (ps_set (i := 11) sc_law.nd rfl (.inl rfl) (pe_tup (pa_cons (pe_ix (ixT K) (pv 11) pe_int (fun _ _ => rfl)) (pa_cons (pcX CAf passL hr (pa_cons (pv 3) (pa_cons (pv 8) (pa_cons (pe_tupleOf (by rfl) B.tuple (pe_lc (own := [("place", 15)]) (g := gName 15) rfl sc_law.nd (pi_list (pv 10)) (blkOk_by (N := NL84) (sc := defScope st_law) (by decide +kernel)) (fun _ _ _ _ _ => pg_name (i := 15) sc_law.nd rfl (Or.inl rfl)) (fun _ _ _ _ _ => pts_one (pt_cmpR op_ge (pv 15) (pv 5) (nomark _))) (fun _ _ _ _ _ => (pe_op op_sub (pv 15) (pv 5))))) pa_nil)))) pa_nil)))))
      (pss_cons (ps_cutM (ps_if (pt_cmpR (op_neD hr.units) (pcX CAf passL hr (pa_cons (pv 4) (pa_cons (pv 9) (pa_cons (pe_tupleOf (by rfl) B.tuple (pv 10)) pa_nil)))) (pe_op op_catA (pe_ix (ixT K) (pv 11) pe_int (fun _ _ => rfl)) (pe_tupleOf (by rfl) B.tuple (pe_lc (own := [("place", 15)]) (g := gName 15) (tt := tYes) rfl sc_law.nd (pi_tup (pe_ix (ixT K) (pv 11) pe_int (fun _ _ => rfl))) (blkOk_by (N := NL84) (sc := defScope st_law) (by decide +kernel)) (fun _ _ _ _ _ => pg_name (i := 15) sc_law.nd rfl (Or.inl rfl)) (fun _ _ _ _ _ => pts_nil) (fun _ _ _ _ _ => (pe_op op_add (pv 5) (pv 15)))))) (nomark _)) (pss_one (ps_ret pe_bl)) pss_nil))
      (pss_cons (ps_cutM (ps_if (pt_cmpR op_ne (pcX COr passL hr (pa_cons (pv 4) pa_nil)) (pe_op op_mul (pcX COr passL hr (pa_cons (pv 2) pa_nil)) (pcX COr passL hr (pa_cons (pv 3) pa_nil))) (nomark _)) (pss_one (ps_ret pe_bl)) pss_nil))
      (pss_cons (ps_cutM (ps_set (i := 12) sc_law.nd rfl (.inl rfl) (pe_ifExp (pt_cmpR op_eq (pv 6) pe_int (nomark _)) (pv 3) (pc CH hr (pa_cons (pv 1) (pa_cons pe_int pa_nil))))))
      (pss_cons (ps_cutM (ps_par (i := 13) (j := 14) rfl sc_law.nd rfl rfl (by decide) rfl rfl (pa_cons (pcX CWi passL hr (pa_cons (pv 2) (pa_cons (pv 12) pa_nil))) (pa_cons (pe_tupRg rfl (by rfl) B.tuple (prg_1 (by rfl) B.range pe_int)) pa_nil)) rfl))
      (pss_cons (ps_cutM (ps_for PassesOwn.never rfl (pi_list (pe_lc (own := [("turn", 29)]) (g := gName 29) (tt := tYes) rfl sc_law.nd (pi_range1 (by rfl) B.range (pa_cons pe_int pa_nil)) (blkOk_by (N := NL84) (sc := defScope st_law) (by decide +kernel)) (fun _ _ _ _ _ => pg_name (i := 29) sc_law.nd rfl (Or.inl rfl)) (fun _ _ _ _ _ => pts_nil) (fun _ _ _ _ _ => (pe_tup (pa_cons (pc CT hr (pa_cons (pv 1) (pa_cons pe_int pa_nil))) (pa_cons (pc CT hr (pa_cons (pv 1) (pa_cons pe_int pa_nil))) pa_nil)))))) (pg_tup rfl (pgs_cons (pg_name (i := 15) sc_law.nd rfl (.inl rfl)) (pgs_cons (pg_name (i := 16) sc_law.nd rfl (.inl rfl)) pgs_nil))) (pss_cons (ps_cutM (ps_set (i := 17) sc_law.nd rfl (.inl rfl) (pe_lst pa_nil)))
        (pss_cons (ps_cutM (ps_for PassesOwn.never rfl (pi_tup (pv 14)) (pg_name (i := 18) sc_law.nd rfl (.inl rfl)) (pss_cons (ps_par (i := 19) (j := 20) rfl sc_law.nd rfl rfl (by decide) rfl rfl (pa_cons (pe_op op_fdiv (pv 18) pe_int) (pa_cons (pe_op op_mod (pv 18) pe_int) pa_nil)) rfl)
          (pss_one (ps_expr (pe_bm PySem.F.plainAttrs_list PySem.F.slot_list_append PySem.F.type_list_append mt_append (pv 17) (pa_cons (pe_op op_add (pe_op op_mul (pe_ix (ixT K) (pe_ix (ixT K) (pv 2) (pv 15) (fun _ _ => rfl)) (pv 19) (fun _ _ => rfl)) pe_int) (pe_ifExp (pt_cmpR op_eq (pv 19) (pv 15) (nomark _)) (pe_ix (ixT K) (pe_ix (ixT K) (pv 12) (pv 16) (fun _ _ => rfl)) (pv 20) (fun _ _ => rfl)) (pv 20))) pa_nil)))))))
        (pss_cons (ps_cutM (ps_set (i := 14) sc_law.nd rfl (.inl rfl) (pcX CAf passL hr (pa_cons (pv 13) (pa_cons (pv 14) (pa_cons (pe_tup (pa_cons (pe_op op_add (pe_op op_mul (pv 15) pe_int) (pv 16)) pa_nil)) pa_nil))))))
        (pss_one (ps_if (pt_cmpR (op_neD hr.units) (pv 14) (pe_tupleOf (by rfl) B.tuple (pv 17)) (nomark _)) (pss_one (ps_ret pe_bl)) pss_nil)))))))
      (pss_cons (ps_cutM (ps_asg (pe_tup (pa_cons (pc CP hr (pa_cons (pv 1) (pa_cons (pv 6) pa_nil))) (pa_cons (pc CP hr (pa_cons (pv 1) (pa_cons (pv 6) pa_nil))) pa_nil))) (pg_tup rfl (pgs_cons (pg_name (i := 21) sc_law.nd rfl (.inr rfl)) (pgs_cons (pg_name (i := 22) sc_law.nd rfl (.inl rfl)) pgs_nil)))))
      (pss_cons (ps_cutM (ps_set (i := 10) sc_law.nd rfl (.inl rfl) (pe_tupleOf (by rfl) B.tuple (pe_lc (own := [("turn", 29)]) (g := gName 29) (tt := tYes) rfl sc_law.nd (pi_range1 (by rfl) B.range (pa_cons pe_int pa_nil)) (blkOk_by (N := NL84) (sc := defScope st_law) (by decide +kernel)) (fun _ _ _ _ _ => pg_name (i := 29) sc_law.nd rfl (Or.inl rfl)) (fun _ _ _ _ _ => pts_nil) (fun _ _ _ _ _ => (pc CT hr (pa_cons (pv 1) (pa_cons (pv 6) pa_nil))))))))
      (pss_cons (ps_cutM (ps_set (i := 23) sc_law.nd rfl (.inl rfl) (pcX CCa passL hr (pa_cons (pv 3) (pa_cons (pv 21) pa_nil)))))
      (pss_cons (ps_cutM (ps_set (i := 24) sc_law.nd rfl (.inl rfl) (pcX CAf passL hr (pa_cons (pv 23) (pa_cons (pe_tupleOf (by rfl) B.tuple (pe_lc (own := [("place", 15)]) (g := gName 15) (tt := tYes) rfl sc_law.nd (pi_tup (pv 22)) (blkOk_by (N := NL84) (sc := defScope st_law) (by decide +kernel)) (fun _ _ _ _ _ => pg_name (i := 15) sc_law.nd rfl (Or.inl rfl)) (fun _ _ _ _ _ => pts_nil) (fun _ _ _ _ _ => (pe_ix (ixT K) (pv 21) (pv 15) (fun _ _ => rfl))))) (pa_cons (pe_tupleOf (by rfl) B.tuple (pe_lc (own := [("place", 15)]) (g := gName 15) (tt := tYes) rfl sc_law.nd (pi_tup (pv 10)) (blkOk_by (N := NL84) (sc := defScope st_law) (by decide +kernel)) (fun _ _ _ _ _ => pg_name (i := 15) sc_law.nd rfl (Or.inl rfl)) (fun _ _ _ _ _ => pts_nil) (fun _ _ _ _ _ => (pe_ix (ixT K) (pv 21) (pv 15) (fun _ _ => rfl))))) pa_nil))))))
      (pss_cons (ps_cutM (ps_if (PW.pt (pw_or (pt_cmpR (op_neD hr.units) (pv 24) (pe_tupleOf (by rfl) B.tuple (pe_lc (own := [("place", 15)]) (g := gName 15) (tt := tYes) rfl sc_law.nd (pi_tup (pcX CAf passL hr (pa_cons (pv 3) (pa_cons (pv 22) (pa_cons (pv 10) pa_nil))))) (blkOk_by (N := NL84) (sc := defScope st_law) (by decide +kernel)) (fun _ _ _ _ _ => pg_name (i := 15) sc_law.nd rfl (Or.inl rfl)) (fun _ _ _ _ _ => pts_nil) (fun _ _ _ _ _ => (pe_ix (ixT K) (pv 21) (pv 15) (fun _ _ => rfl))))) (nomark _)) (pw_or1 (pt_cmpR op_ne (pcX COr passL hr (pa_cons (pv 23) pa_nil)) (pcX COr passL hr (pa_cons (pv 3) pa_nil)) (nomark _))))) (pss_one (ps_ret pe_bl)) pss_nil))
      (pss_cons (ps_cutM (ps_par (i := 25) (j := 26) rfl sc_law.nd rfl rfl (by decide) rfl rfl (pa_cons (pcX CBk passL hr (pa_cons (pv 3) pa_nil)) (pa_cons (pcX CDo passL hr (pa_cons (pv 3) pa_nil)) pa_nil)) rfl))
      (pss_cons (ps_cutM (ps_for PassesOwn.never rfl (pi_range1 (by rfl) B.range (pa_cons (pv 6) pa_nil)) (pg_name (i := 15) sc_law.nd rfl (.inl rfl)) (pss_cons (ps_cutM (ps_if (PW.pt (pw_or (pt_cmpR (op_neD hr.units) (pcX CAf passL hr (pa_cons (pv 25) (pa_cons (pcX CAf passL hr (pa_cons (pv 3) (pa_cons (pv 22) (pa_cons (pe_tup (pa_cons (pv 15) pa_nil)) pa_nil)))) (pa_cons (pe_tup (pa_cons (pv 15) pa_nil)) pa_nil)))) (pv 22) (nomark _)) (pw_or1 (pt_cmpR (op_neD hr.units) (pcX CBk passL hr (pa_cons (pv 25) pa_nil)) (pv 3) (nomark _))))) (pss_one (ps_ret pe_bl)) pss_nil))
        (pss_one (ps_if (pt_cmpR (op_neD hr.units) (pcX CAf passL hr (pa_cons (pv 26) (pa_cons (pv 22) (pa_cons (pe_tup (pa_cons (pv 15) pa_nil)) pa_nil)))) (pcX CAf passL hr (pa_cons (pv 3) (pa_cons (pv 22) (pa_cons (pe_tup (pa_cons (pv 15) (pa_cons (pv 15) pa_nil))) pa_nil)))) (nomark _)) (pss_one (ps_ret pe_bl)) pss_nil)))))
      (pss_cons (ps_cutM (ps_set (i := 27) sc_law.nd rfl (.inr rfl) (pc CH hr (pa_cons (pv 1) (pa_cons pe_int pa_nil)))))
      (pss_cons (ps_cutM (ps_set (i := 28) sc_law.nd rfl (.inl rfl) (pe_lst (pa_cons (pe_callC (X := X) (preS := pre0) (fun g => ok_said FunS B SD g) hP0 hr (by decide) rfl gS FunS.kp bS pass0 (pa_cons (pe_lam (T := tabsT P1 P2) (params := lamP (lamS4 0)) (body := lamB (lamS4 0)) (scope := lamS (lamS4 0)) (pos := lamO (lamS4 0)) TB rfl (by exact List.Mem.tail _ (List.Mem.head _)) huT  rfl hf0) pa_nil)) pa_nil))))
      (pss_cons (ps_cutM (ps_expr (pe_bm PySem.F.plainAttrs_list PySem.F.slot_list_append PySem.F.type_list_append mt_append (pv 28) (pa_cons (pe_callC (X := X) (preS := pre1) (fun g => ok_said FunS B SD g) hP1 hr (by decide) rfl gS FunS.kp bS pass0 (pa_cons (pe_lamD (T := tabsT P1 P2) (params := lamP (lamS4 1)) (body := lamB (lamS4 1)) (scope := lamS (lamS4 1)) (pos := lamO (lamS4 1)) TB rfl (by exact List.Mem.tail _ (List.Mem.head _)) huT  rfl rfl pe_int hf1) pa_nil)) pa_nil))))
      (pss_cons (ps_cutM (ps_expr (pe_bm PySem.F.plainAttrs_list PySem.F.slot_list_append PySem.F.type_list_append mt_append (pv 28) (pa_cons (pe_callC (X := X) (preS := pre2) (fun g => ok_said FunS B SD g) hP2 hr (by decide) rfl gS FunS.kp bS pass0 (pa_cons (pe_lamD (T := tabsT P1 P2) (params := lamP (lamS4 2)) (body := lamB (lamS4 2)) (scope := lamS (lamS4 2)) (pos := lamO (lamS4 2)) TB rfl (by exact List.Mem.tail _ (List.Mem.head _)) huT  rfl rfl pe_int hf2) pa_nil)) pa_nil))))
      (pss_cons (ps_cutM (ps_expr (pe_bm PySem.F.plainAttrs_list PySem.F.slot_list_append PySem.F.type_list_append mt_append (pv 28) (pa_cons (pe_callC (X := X) (preS := pre3) (fun g => ok_said FunS B SD g) hP3 hr (by decide) rfl gS FunS.kp bS pass0 (pa_cons (pe_lamD (T := tabsT P1 P2) (params := lamP (lamS4 3)) (body := lamB (lamS4 3)) (scope := lamS (lamS4 3)) (pos := lamO (lamS4 3)) TB rfl (by exact List.Mem.tail _ (List.Mem.head _)) huT  rfl rfl pe_int hf3) pa_nil)) pa_nil))))
      (pss_one (ps_ret (pe_cmpR (op_eqD hr.units) (pv 28) (pe_lst (pa_cons pe_str (pa_cons pe_str (pa_cons pe_str (pa_cons pe_str pa_nil))))) (nomark _)))))))))))))))))))))))))))), ?_⟩
    -- row
    refine ⟨_, rfl, by show 4 ≤ sizeLine; decide, fun p hp => ?_⟩
    have sp := same_new (o := .lst [.ref a, .int 0, .int 7484, .int 0]) hp
    have hR1 : Row K (upd H p (.lst [.ref a, .int 0, .int 7484, .int 0])) p := ⟨a, scr, 0, 7484, 0, upd_same, hZ.on (Fix.same sp), Int.le_refl _⟩
    have tb1 : Tabs (tabsT P1 P2) (upd H p (.lst [.ref a, .int 0, .int 7484, .int 0])) := hTb.ext fun b o e => sp b o e
    generalize (upd H p (.lst [.ref a, .int 0, .int 7484, .int 0])) = H1 at hR1 tb1 ⊢
    -- the two shelves
    refine ⟨fun σ' H' => ∃ (vO vT : V) (h1 h2 : List (List Int)) (n : Nat), σ' = [some (.ref a), some (.ref p), some vO, some vT, none, none, none, none, none, none, none, none, none, none, none, none, none, none, none, none, none, none, none, none, none, none, none, none, none, none] ∧ Two K (tabsT P1 P2) p vO vT h1 h2 H' ∧ Hb 2 h1 ∧ Hb n h2 ∧ 2 ≤ n ∧ n ≤ 3, fun σ2 H2 g2 => ?_, ?_⟩
    case refine_2 =>
      refine ⟨_, rfl, p, 2, rfl, hR1, by decide, by decide, fun H2 vO h1 hb1 hB2 hR2 hO2 => ?_⟩
      have tb2 := (hR1.fix hB2).tabs tb1
      refine ⟨_, rfl, _, rfl, p, 2, rfl, hR2, by decide, by decide, fun k H3 k0 k1 hB3 hR3 => ⟨2, k, rfl, rfl, ?_⟩⟩
      have f3 := hR2.fix hB3
      obtain ⟨n, hn⟩ : ∃ n : Nat, 2 + k = (n : Int) := ⟨(2 + k).toNat, by omega⟩
      refine ⟨p, n, by rw [← hn]; rfl, hR3, by omega, by omega, fun H4 vT h2 hb2 hB4 hR4 hT4 => ⟨by show 2 ≤ sizeLine; decide, fun t ht => ?_⟩⟩
      have s5 := same_new (o := .tup [vO, vT]) ht
      have f4 := hR3.fix hB4
      have c4 : Two K (tabsT P1 P2) p vO vT h1 h2 H4 := ⟨hR4, f4.tabs (f3.tabs tb2), (hO2.ev (Ev.fix f3)).ev (Ev.fix f4), hT4⟩
      exact ⟨t, _, rfl, tupAt upd_same, rfl, _, _, rfl, _, _, rfl, rfl, vO, vT, h1, h2, n, rfl, c4.same s5, hb1, hb2, by omega, by omega⟩
    obtain ⟨vO, vT, h1, h2, n, rfl, c2, hb1, hb2, n2, n3⟩ := g2
    -- both
    refine ⟨fun σ' H' => ∃ vB : V, σ' = [some (.ref a), some (.ref p), some vO, some vT, some vB, some (.int ((2 : Nat) : Int)), some (.int (n : Int)), none, none, none, none, none, none, none, none, none, none, none, none, none, none, none, none, none, none, none, none, none, none, none] ∧ Two K (tabsT P1 P2) p vO vT h1 h2 H' ∧ TII K H' vB (besH h1 h2), fun σ3 H3 g3 => ?_, ?_⟩
    case refine_2 =>
      refine ⟨_, rfl, _, rfl, vO, vT, h1, h2, 2, n, rfl, c2.o.ti, c2.t.ti, hb1, hb2, fun gt => absurd gt (by omega), fun _ H3 vB s3 hB3 => ?_⟩
      have c3 := c2.same s3
      obtain ⟨aO, xO, eO, hSO, hEO⟩ := id c3.o
      obtain ⟨aT, xT, eT, hST, hET⟩ := id c3.t
      refine ⟨_, rfl, aO, xO, by rw [eO], .inr hSO, _, rfl, aT, xT, by rw [eT], .inr hST, by show 3 ≤ sizeLine; decide, fun t ht => ?_⟩
      have s4 := same_new (o := .tup [vB, .int (xO.length : Int), .int (xT.length : Int)]) ht
      refine ⟨t, _, rfl, tupAt upd_same, rfl, _, _, rfl, _, _, rfl, _, _, rfl, rfl, vB, ?_, c3.same s4, hB3.on (Same.tups s4)⟩
      rw [hEO.len, hET.len, hb1.len, hb2.len]
      rfl
    obtain ⟨vB, rfl, c3, hB3⟩ := g3
    -- left, right
    refine ⟨fun σ' H' => ∃ (vL vR : V) (L R : List Int), σ' = [some (.ref a), some (.ref p), some vO, some vT, some vB, some (.int ((2 : Nat) : Int)), some (.int (n : Int)), some vL, some vR, none, none, none, none, none, none, none, none, none, none, none, none, none, none, none, none, none, none, none, none, none] ∧ Two K (tabsT P1 P2) p vO vT h1 h2 H' ∧ TII K H' vB (besH h1 h2) ∧ TI K H' vL L ∧ TI K H' vR R ∧ L.Perm (rg 2) ∧ R.Perm (rg n), fun σ4 H4 g4 => ?_, ?_⟩
    case refine_2 =>
      refine ⟨_, rfl, _, rfl, p, 2, rfl, c3.row, by decide, fun H4 vL L pL hB4 hR4 hL4 => ?_⟩
      have f4 := c3.row.fix hB4
      refine ⟨_, rfl, _, rfl, p, n, rfl, hR4, by omega, fun H5 vR R pR hB5 hR5 hR5t => ?_⟩
      have f5 := hR4.fix hB5
      exact ⟨_, _, rfl, vL, vR, L, R, rfl, (c3.but hB4 hR4).but hB5 hR5, (hB3.on f4.tups).on f5.tups, (hL4.ti).on f5.tups, hR5t.ti, pL, pR⟩
    obtain ⟨vL, vR, L, R, rfl, c4, hB4, hL4, hR4, pL, pR⟩ := g4
    obtain ⟨aL, rfl, hSL⟩ := id hL4
    obtain ⟨aR, rfl, hSR⟩ := id hR4
    have lL := perm_len pL
    have lR := perm_len pR
    -- whole, word
    refine ⟨fun σ' H' => ∃ (vW : V) (aw : Addr) (ws : List Int), σ' = [some (.ref a), some (.ref p), some vO, some vT, some vB, some (.int ((2 : Nat) : Int)), some (.int (n : Int)), some (.ref aL), some (.ref aR), some vW, some (.ref aw), none, none, none, none, none, none, none, none, none, none, none, none, none, none, none, none, none, none, none] ∧ Two K (tabsT P1 P2) p vO vT h1 h2 H' ∧ TII K H' vB (besH h1 h2) ∧ SqT K H' aL (L.map V.int) ∧ SqT K H' aR (R.map V.int) ∧ TI K H' vW (jn 2 L R) ∧ H' aw = some (.lst (ws.map V.int)) ∧ ws.length = 6 ∧ ∀ t ∈ ws, InR (2 + n) t, fun σ5 H5 g5 => ?_, ?_⟩
    case refine_2 =>
      refine ⟨_, rfl, _, rfl, aR, rfl, ⟨_, hSR⟩, fun D hD => ?_⟩
      refine lc_tup (xs := R.map V.int) (fun i H' => Same H4 H' ∧ H' D = some (.lst (((R.take i).map fun i => ((2 : Nat) : Int) + i).map V.int))) ⟨same_new hD, upd_same⟩ (fun i H' _ h' => onT h'.1 hSR) (fun i x H' hx h' => ?_) (fun H' h' => ?_)
      · obtain ⟨g, hg, rfl⟩ := map_at hx
        obtain ⟨sm, eD⟩ := h'
        refine ⟨rfl, _, rfl, _, rfl, _, g, rfl, rfl, _, eD, by rw [List.length_map, List.length_map, List.length_take]; exact small1000 (by omega), ?_, ?_⟩
        · exact fun b o eb => by rw [upd_ne (ne_of_none eb hD)]; exact sm b o eb
        · rw [upd_same, List.take_add_one, hg, List.map_append, List.map_append]
          rfl
      · obtain ⟨sm, eD⟩ := h'
        rw [List.length_map, List.take_length] at eD
        refine .inl ⟨D, _, rfl, lstAt eD, fun t ht => ?_⟩
        have st := sm.trans (same_new (o := .tup ((R.map fun i => ((2 : Nat) : Int) + i).map V.int)) ht)
        refine catT_ok (onT st hSL) (tupAt upd_same) (by rw [List.length_map, List.length_map, List.length_map]; omega) fun r H6 s6 hr6 => ?_
        have s46 := st.trans s6
        have c6 := c4.same s46
        refine ⟨6, rfl, by decide, by decide, fun D2 hD2 => ?_⟩
        have np : p ≠ D2 := c6.row.ne hD2
        refine lc_range (lo := 0) (n := 6) (fun i H' => ∃ ws : List Int, But p H6 H' ∧ Row K H' p ∧ H' D2 = some (.lst (ws.map V.int)) ∧ ws.length = i ∧ ∀ t ∈ ws, InR (2 + n) t)
          ⟨[], But.same (same_new hD2), c6.row.new hD2, upd_same, rfl, fun _ hm => absurd hm List.not_mem_nil⟩ (fun j H' hj h' => ?_) (fun H7 h7 => ?_)
        · obtain ⟨ws, hB, hR', eD', hl', hws⟩ := h'
          refine ⟨rfl, _, rfl, _, rfl, _, rfl, _, _, rfl, rfl, p, _, rfl, hR', by omega, by omega, fun k H8 k0 k1 hB8 hR8 => ?_⟩
          have eD8 := hB8 _ _ eD' (Ne.symm np)
          refine ⟨_, eD8, by rw [List.length_map, hl']; exact small1000 (by omega), ws ++ [k], ?_, hR8.lst_upd eD8 np, by rw [upd_same, List.map_append]; rfl, by rw [List.length_append, hl']; rfl, fun t ht => ?_⟩
          · exact (hB.trans hB8).fresh hD2
          · rcases List.mem_append.mp ht with h | h
            · exact hws t h
            · rw [List.mem_singleton.mp h]
              exact ⟨k0, by omega⟩
        · obtain ⟨ws, hB, hR7, eD7, hl7, hws⟩ := h7
          have f7 := c6.row.fix hB
          refine ⟨_, _, rfl, .ref r, D2, ws, rfl, c6.but hB hR7, (hB4.on (Same.tups s46)).on f7.tups, f7.tups _ _ (onT s46 hSL), f7.tups _ _ (onT s46 hSR), ⟨r, rfl, ?_⟩, eD7, hl7, hws⟩
          unfold jn
          rw [List.map_append]
          exact f7.tups _ _ hr6
    obtain ⟨vW, aw, ws, rfl, c5, hB5, hSL5, hSR5, hW5, eW5, lw, hws⟩ := g5
    -- ends
    refine ⟨fun σ' H' => ∃ (ae : Addr) (v1 : V), σ' = [some (.ref a), some (.ref p), some vO, some vT, some vB, some (.int ((2 : Nat) : Int)), some (.int (n : Int)), some (.ref aL), some (.ref aR), some vW, some (.ref aw), some (.ref ae), none, none, none, none, none, none, none, none, none, none, none, none, none, none, none, none, none, none] ∧ Two K (tabsT P1 P2) p vO vT h1 h2 H' ∧ Same H5 H' ∧ SqT K H' ae [v1, .ref aR] ∧ TI K H' v1 (mvs h1 L (loW 2 ws)), fun σ6 H6 g6 => ?_, ?_⟩
    case refine_2 =>
      refine ⟨_, rfl, _, rfl, _, rfl, aw, rfl, ⟨_, lstAt eW5⟩, fun D hD => ?_⟩
      have nD : aw ≠ D := ne_of_none eW5 hD
      refine lc_list (xs := ws.map V.int) (fun i H' => Same H5 H' ∧ H' D = some (.lst ((loW 2 (ws.take i)).map V.int))) ⟨same_new hD, upd_same⟩ (fun i H' _ h' => lstAt (h'.1 _ _ eW5)) (fun i x H' hx h' => ?_) (fun H' h' => ?_)
      · obtain ⟨g, hg, rfl⟩ := map_at hx
        obtain ⟨sm, eD⟩ := h'
        have few := lo_few (m := 2) (ws.take i)
        rw [List.length_take] at few
        refine ⟨rfl, _, rfl, _, rfl, g, _, rfl, rfl, _, rfl, ite2 (fun e => ⟨_, rfl, _, eD, by rw [List.length_map]; exact small1000 (by omega), ?_, ?_⟩) (fun e => ⟨sm, ?_⟩)⟩
        · exact fun b o eb => by rw [upd_ne (ne_of_none eb hD)]; exact sm b o eb
        · rw [upd_same, lo_more hg, if_pos e, List.map_append]
          rfl
        · rw [eD, lo_more hg, if_neg e, List.append_nil]
      · obtain ⟨sm, eD⟩ := h'
        rw [List.length_map, List.take_length] at eD
        refine .inl ⟨D, _, rfl, lstAt eD, fun t ht => ?_⟩
        have st := sm.trans (same_new (o := .tup ((loW 2 ws).map V.int)) ht)
        have c7 := c5.same st
        have few := lo_few (m := 2) ws
        refine ⟨vO, .ref aL, .ref t, h1, 2, L, loW 2 ws, rfl, c7.o.ti, hb1, ⟨aL, rfl, onT st hSL5⟩, pL, ⟨t, rfl, tupAt upd_same⟩, lo_in hws, by omega, fun H8 v1 s8 hv1 => ?_⟩
        refine ⟨_, rfl, by show 2 ≤ sizeLine; decide, fun e he => ?_⟩
        have s9 := s8.trans (same_new (o := .tup [v1, .ref aR]) he)
        exact ⟨e, v1, rfl, c7.same s9, st.trans s9, tupAt upd_same, hv1.on (Same.tups (same_new he))⟩
    obtain ⟨ae, v1, rfl, c6, s6, hSe, hv1⟩ := g6
    have eW6 := s6 _ _ eW5
    refine ⟨fun σ' H' => ∃ (af : Addr) (v2 : V), σ' = [some (.ref a), some (.ref p), some vO, some vT, some vB, some (.int ((2 : Nat) : Int)), some (.int (n : Int)), some (.ref aL), some (.ref aR), some vW, some (.ref aw), some (.ref af), none, none, none, none, none, none, none, none, none, none, none, none, none, none, none, none, none, none] ∧ Two K (tabsT P1 P2) p vO vT h1 h2 H' ∧ Same H6 H' ∧ SqT K H' af [v1, v2] ∧ TI K H' v2 (mvs h2 R (hiW 2 ws)), fun σ7 H7 g7 => ?_, ?_⟩
    case refine_2 =>
      refine ⟨_, rfl, ae, _, 0, v1, rfl, rfl, hSe, rfl, _, rfl, _, rfl, _, rfl, aw, rfl, ⟨_, lstAt eW6⟩, fun D hD => ?_⟩
      refine lc_list (xs := ws.map V.int) (fun i H' => Same H6 H' ∧ H' D = some (.lst ((hiW 2 (ws.take i)).map V.int))) ⟨same_new hD, upd_same⟩ (fun i H' _ h' => lstAt (h'.1 _ _ eW6)) (fun i x H' hx h' => ?_) (fun H' h' => ?_)
      · obtain ⟨g, hg, rfl⟩ := map_at hx
        obtain ⟨sm, eD⟩ := h'
        have few := hi_few (m := 2) (ws.take i)
        rw [List.length_take] at few
        refine ⟨rfl, _, rfl, _, rfl, g, _, rfl, rfl, _, rfl, ite2 (fun e => ⟨_, rfl, _, rfl, g, _, rfl, rfl, _, eD, by rw [List.length_map]; exact small1000 (by omega), ?_, ?_⟩) (fun e => ⟨sm, ?_⟩)⟩
        · exact fun b o eb => by rw [upd_ne (ne_of_none eb hD)]; exact sm b o eb
        · rw [upd_same, hi_more hg, if_pos e, List.map_append]
          rfl
        · rw [eD, hi_more hg, if_neg e, List.append_nil]
      · obtain ⟨sm, eD⟩ := h'
        rw [List.length_map, List.take_length] at eD
        refine .inl ⟨D, _, rfl, lstAt eD, fun t ht => ?_⟩
        have st := sm.trans (same_new (o := .tup ((hiW 2 ws).map V.int)) ht)
        have c7 := c6.same st
        have few := hi_few (m := 2) ws
        refine ⟨vT, .ref aR, .ref t, h2, n, R, hiW 2 ws, rfl, c7.t.ti, hb2, ⟨aR, rfl, onT (s6.trans st) hSR5⟩, pR, ⟨t, rfl, tupAt upd_same⟩, hi_in hws, by omega, fun H8 v2 s8 hv2 => ⟨by show 2 ≤ sizeLine; decide, fun e he => ?_⟩⟩
        have s9 := s8.trans (same_new (o := .tup [v1, v2]) he)
        exact ⟨e, v2, rfl, c7.same s9, st.trans s9, tupAt upd_same, hv2.on (Same.tups (same_new he))⟩
    obtain ⟨af, v2, rfl, c7, s7, hSf, hv2⟩ := g7
    have s57 := s6.trans s7
    obtain ⟨a1, rfl, hS1⟩ := hv1.on (Same.tups s7)
    obtain ⟨a2, rfl, hS2⟩ := hv2
    have pA := hb1.mvs_perm (lo_in (m := 2) hws) pL
    have pB := hb2.mvs_perm (hi_in (m := 2) hws) pR
    have whole_eq : mvs (besH h1 h2) (jn 2 L R) ws = jn 2 (mvs h1 L (loW 2 ws)) (mvs h2 R (hiW 2 ws)) := mvs_jn hb1 hb2 hws pL pR
    have hbB : Hb (2 + n) (besH h1 h2) := bes_hb hb1 hb2 (by omega)
    have pJ : (jn 2 L R).Perm (rg (2 + n)) := jn_perm pL pR
    -- both shelves at once
    refine ⟨fun σ' H' => σ' = [some (.ref a), some (.ref p), some vO, some vT, some vB, some (.int ((2 : Nat) : Int)), some (.int (n : Int)), some (.ref aL), some (.ref aR), some vW, some (.ref aw), some (.ref af), none, none, none, none, none, none, none, none, none, none, none, none, none, none, none, none, none, none] ∧ Two K (tabsT P1 P2) p vO vT h1 h2 H' ∧ TII K H' vB (besH h1 h2), fun σ8 H8 g8 => ?_, ?_⟩
    case refine_2 =>
      refine ⟨_, rfl, _, rfl, _, rfl, .inl ⟨aw, _, rfl, lstAt (s57 _ _ eW5), fun t ht => ?_⟩⟩
      have st := s57.trans (same_new (o := .tup (ws.map V.int)) ht)
      refine ⟨vB, vW, .ref t, besH h1 h2, 2 + n, jn 2 L R, ws, rfl, hB5.on (Same.tups st), hbB, hW5.on (Same.tups st), pJ, ⟨t, rfl, tupAt upd_same⟩, hws, by omega, fun H8 v8 s8 hv8 => ?_⟩
      have s78 := (same_new (o := .tup (ws.map V.int)) ht).trans s8
      have hSf8 := onT s78 hSf
      refine ⟨_, rfl, af, _, 0, .ref a1, rfl, rfl, hSf8, rfl, _, rfl, af, _, 1, .ref a2, rfl, rfl, hSf8, rfl, a2, rfl, ⟨_, onT s78 hS2⟩, fun D hD => ?_⟩
      refine lc_tup (xs := (mvs h2 R (hiW 2 ws)).map V.int) (fun i H' => Same H8 H' ∧ H' D = some (.lst ((((mvs h2 R (hiW 2 ws)).take i).map fun i => ((2 : Nat) : Int) + i).map V.int))) ⟨same_new hD, upd_same⟩ (fun i H' _ h' => onT (s78.trans h'.1) hS2) (fun i x H' hx h' => ?_) (fun H' h' => ?_)
      · obtain ⟨g, hg, rfl⟩ := map_at hx
        obtain ⟨sm, eD⟩ := h'
        refine ⟨rfl, _, rfl, _, rfl, _, g, rfl, rfl, _, eD, by rw [List.length_map, List.length_map, List.length_take]; exact small1000 (by have := perm_len pB; omega), ?_, ?_⟩
        · exact fun b o eb => by rw [upd_ne (ne_of_none eb hD)]; exact sm b o eb
        · rw [upd_same, List.take_add_one, hg, List.map_append, List.map_append]
          rfl
      · obtain ⟨sm, eD⟩ := h'
        rw [List.length_map, List.take_length] at eD
        refine .inl ⟨D, _, rfl, lstAt eD, fun t2 ht2 => ?_⟩
        have s9 := sm.trans (same_new (o := .tup (((mvs h2 R (hiW 2 ws)).map fun i => ((2 : Nat) : Int) + i).map V.int)) ht2)
        refine catT_ok (onT (s78.trans s9) hS1) (tupAt upd_same) (by rw [List.length_map, List.length_map, List.length_map, perm_len pA, perm_len pB]; omega) fun r H10 s10 hr10 => ?_
        have s910 := s9.trans s10
        refine ⟨_, _, dp_ti (hv8.on (Same.tups s910)), dp_tup (ns := jn 2 (mvs h1 L (loW 2 ws)) (mvs h2 R (hiW 2 ws))) ?_, shaped_tup _, shaped_tup _, _, rfl, ?_⟩
        · unfold jn
          rw [List.map_append]
          exact hr10
        · have sA := s78.trans s910
          exact ifF (neq_tup whole_eq) ⟨rfl, c7.same sA, hB5.on (Same.tups (s57.trans sA))⟩
    obtain ⟨rfl, c8, hB8⟩ := g8
    -- orders
    refine ⟨fun σ' H' => σ' = [some (.ref a), some (.ref p), some vO, some vT, some vB, some (.int ((2 : Nat) : Int)), some (.int (n : Int)), some (.ref aL), some (.ref aR), some vW, some (.ref aw), some (.ref af), none, none, none, none, none, none, none, none, none, none, none, none, none, none, none, none, none, none] ∧ Two K (tabsT P1 P2) p vO vT h1 h2 H', fun σ9 H9 g9 => ?_, ?_⟩
    case refine_2 =>
      refine ⟨_, rfl, vB, besH h1 h2, 2 + n, rfl, hB8, hbB, c8.tab, fun H9 k3 x9 t9 e3 => ?_⟩
      have c9 := c8.ext x9 t9
      refine ⟨_, rfl, vO, h1, 2, rfl, c9.o.ti, hb1, c9.tab, fun H10 k1 x10 t10 e1 => ?_⟩
      have c10 := c9.ext x10 t10
      refine ⟨_, rfl, vT, h2, n, rfl, c10.t.ti, hb2, c10.tab, fun H11 k2 x11 t11 e2 => ?_⟩
      have c11 := c10.ext x11 t11
      have few1 := hb1.fd_few (List.Perm.refl _) k1
      refine ⟨_, _, rfl, rfl, .inl ⟨by omega, by omega⟩, rfl, _, rfl, ?_⟩
      have pr := ord_prod hb1 hb2 e1 e2 e3
      refine ifF ?_ ⟨rfl, c11⟩
      rw [pr]
      simp
    obtain ⟨rfl, c9⟩ := g9

    -- inner
    refine ⟨fun σ' H' => ∃ (vI : V) (g : List (List Int)), σ' = [some (.ref a), some (.ref p), some vO, some vT, some vB, some (.int ((2 : Nat) : Int)), some (.int (n : Int)), some (.ref aL), some (.ref aR), some vW, some (.ref aw), some (.ref af), some vI, none, none, none, none, none, none, none, none, none, none, none, none, none, none, none, none, none] ∧ Two K (tabsT P1 P2) p vO vT h1 h2 H' ∧ TII K H' vI g ∧ Hb 2 g, fun σ10 H10 g10 => ?_, ?_⟩
    case refine_2 =>
      rcases (show n = 2 ∨ n = 3 by omega) with rfl | rfl
      · exact ⟨_, rfl, rfl, _, rfl, ifT (by decide) ⟨_, rfl, vT, h2, rfl, c9, c9.t.ti, hb2⟩⟩
      · exact ⟨_, rfl, rfl, _, rfl, ifF (by decide) ⟨_, rfl, p, 2, rfl, c9.row, by decide, by decide, fun H10 vI g hbg hB10 hR10 hI => ⟨vI, g, rfl, c9.but hB10 hR10, hI.ti, hbg⟩⟩⟩
    obtain ⟨vI, g, rfl, c10, hI10, hbg⟩ := g10
    have hb4 := with_hb hb1 hbg
    -- nest, stands
    refine ⟨fun σ' H' => ∃ (vN vS : V), σ' = [some (.ref a), some (.ref p), some vO, some vT, some vB, some (.int ((2 : Nat) : Int)), some (.int (n : Int)), some (.ref aL), some (.ref aR), some vW, some (.ref aw), some (.ref af), some vI, some vN, some vS, none, none, none, none, none, none, none, none, none, none, none, none, none, none, none] ∧ Two K (tabsT P1 P2) p vO vT h1 h2 H' ∧ TII K H' vI g ∧ TII K H' vN (withH h1 g) ∧ TI K H' vS (rg 4), fun σ11 H11 g11 => ?_, ?_⟩
    case refine_2 =>
      refine ⟨_, rfl, _, rfl, vO, vI, h1, g, 2, 2, rfl, c10.o.ti, hI10, hb1, hbg, fun gt => absurd gt (by decide), fun _ H11 vN s11 hN => ?_⟩
      refine ⟨4, rfl, ⟨by decide, by decide, by decide, by decide, by decide⟩, fun t ht => ⟨_, _, rfl, vN, .ref t, rfl, ?_, ?_, ?_, t, rfl, tupAt ?_⟩⟩
      · exact (c10.same s11).same (same_new ht)
      · exact hI10.on (Same.tups (s11.trans (same_new ht)))
      · exact hN.on (Same.tups (same_new ht))
      · rw [upd_same, ← rgV_rg]
        rfl
    obtain ⟨vN, vS, rfl, c11, hI11, hN11, hS11⟩ := g11
    obtain ⟨aI, xI, rfl, hSI, hEI⟩ := id hI11
    obtain ⟨aO, xO, eO, hSO, hEO⟩ := id c11.o.ti
    subst eO
    -- a shelf within a shelf, four touches
    refine ⟨fun σ' H' => ∃ (vS2 : V) (y15 y16 y17 y18 y19 y20 : Option V), σ' = [some (.ref a), some (.ref p), some (.ref aO), some vT, some vB, some (.int ((2 : Nat) : Int)), some (.int (n : Int)), some (.ref aL), some (.ref aR), some vW, some (.ref aw), some (.ref af), some (.ref aI), some vN, some vS2, y15, y16, y17, y18, y19, y20, none, none, none, none, none, none, none, none, none] ∧ Two K (tabsT P1 P2) p (.ref aO) vT h1 h2 H', fun σ12 H12 g12 => ?_, ?_⟩
    case refine_2 =>
      refine ⟨4, rfl, by decide, by decide, fun D hD => ?_⟩
      have np : p ≠ D := c11.row.ne hD
      refine lc_range (lo := 0) (n := 4) (fun i H' => ∃ us : List V, But p H11 H' ∧ Row K H' p ∧ H' D = some (.lst us) ∧ us.length = i ∧ ∀ u ∈ us, ∃ t x y, u = .ref t ∧ SqT K H' t [.int x, .int y] ∧ InR 2 x ∧ InR 2 y)
        ⟨[], But.same (same_new hD), c11.row.new hD, upd_same, rfl, fun _ hm => absurd hm List.not_mem_nil⟩ (fun j H' hj h' => ?_) (fun H7 h7 => ?_)
      · obtain ⟨us, hB, hR', eD', hl', hus⟩ := h'
        refine ⟨rfl, _, rfl, p, 2, rfl, hR', by decide, by decide, fun k H8 k0 k1 hB8 hR8 => ⟨_, rfl, p, 2, rfl, hR8, by decide, by decide, fun m H9 m0 m1 hB9 hR9 => ⟨by show 2 ≤ sizeLine; decide, fun t ht => ?_⟩⟩⟩
        have hB89 := hB8.trans hB9
        have eD9 := hB89 _ _ eD' (Ne.symm np)
        have s9 := same_new (o := .tup [.int k, .int m]) ht
        have eDt := s9 _ _ eD9
        have fA := ((hR'.fix hB8).trans (hR8.fix hB9)).trans (Fix.same s9)
        have fD := Fix.lst (o := .lst (us ++ [.ref t])) eDt
        refine ⟨us, eDt, by rw [hl']; exact small1000 (by omega), us ++ [.ref t], ((hB.trans hB89).trans (But.same s9)).fresh hD, (hR9.same s9).lst_upd eDt np, upd_same, by rw [List.length_append, hl']; rfl, fun u hu => ?_⟩
        rcases List.mem_append.mp hu with hu | hu
        · obtain ⟨t', x, y, rfl, h1', h2', h3'⟩ := hus u hu
          exact ⟨t', x, y, rfl, (fA.trans fD).tups _ _ h1', h2', h3'⟩
        · rw [List.mem_singleton.mp hu]
          exact ⟨t, k, m, rfl, fD.tups _ _ (tupAt upd_same), ⟨k0, k1⟩, ⟨m0, m1⟩⟩
      · obtain ⟨us, hB, hR7, eD7, hl7, hus⟩ := h7
        have f7 := c11.row.fix hB
        have c12 := c11.but hB hR7
        refine ⟨D, rfl, ⟨_, lstAt eD7⟩, ?_⟩
        refine for_list (xs := us) (fun i σ' H' => ∃ (vS2 : V) (S : List Int) (y15 y16 y17 y18 y19 y20 : Option V), σ' = [some (.ref a), some (.ref p), some (.ref aO), some vT, some vB, some (.int ((2 : Nat) : Int)), some (.int (n : Int)), some (.ref aL), some (.ref aR), some vW, some (.ref aw), some (.ref af), some (.ref aI), some vN, some vS2, y15, y16, y17, y18, y19, y20, none, none, none, none, none, none, none, none, none] ∧ Same H7 H' ∧ TI K H' vS2 S ∧ S.Perm (rg 4)) ⟨vS, rg 4, none, none, none, none, none, none, rfl, Same.refl _, hS11.on f7.tups, List.Perm.refl _⟩ (fun i σ' H' _ h' => ?_) (fun i x σ' H' hx h' => ?_) (fun σ' H' h' => ?_)
        · obtain ⟨_, _, _, _, _, _, _, _, _, sm, _⟩ := h'
          exact lstAt (sm _ _ eD7)
        · obtain ⟨vS2, S, y15, y16, y17, y18, y19, y20, rfl, sm, hS, pS⟩ := h'
          obtain ⟨t, x, y, rfl, hSt, hx2, hy2⟩ := hus x (List.mem_of_getElem? hx)
          obtain ⟨xn, hxn, rfl⟩ := nat_of hx2
          obtain ⟨yn, hyn, rfl⟩ := nat_of hy2
          obtain ⟨aS, rfl, hSS⟩ := id hS
          have lS := perm_len pS
          refine ⟨t, _, rfl, onT sm hSt, rfl, _, _, rfl, _, _, rfl, rfl, ?_⟩
          refine ⟨fun σ' Hz => ∃ d, σ' = [some (.ref a), some (.ref p), some (.ref aO), some vT, some vB, some (.int ((2 : Nat) : Int)), some (.int (n : Int)), some (.ref aL), some (.ref aR), some vW, some (.ref aw), some (.ref af), some (.ref aI), some vN, some (.ref aS), some (.int (xn : Int)), some (.int (yn : Int)), some (.ref d), y18, y19, y20, none, none, none, none, none, none, none, none, none] ∧ Same H' Hz ∧ Hz d = some (.lst []) ∧ H7 d = none, fun σd Hd gd => ?_, ?_⟩
          case refine_2 => exact ⟨Nat.zero_le _, fun d hd => ⟨d, rfl, same_new hd, upd_same, none_of sm hd⟩⟩
          obtain ⟨d, rfl, sd, ed, h7d⟩ := gd
          have hSSd := onT sd hSS
          have t11 : Tups K H11 Hd := fun b xs q => onT sd (onT sm (f7.tups b xs q))
          refine ⟨fun σ' Hz => ∃ z18 z19 z20 : Option V, σ' = [some (.ref a), some (.ref p), some (.ref aO), some vT, some vB, some (.int ((2 : Nat) : Int)), some (.int (n : Int)), some (.ref aL), some (.ref aR), some vW, some (.ref aw), some (.ref af), some (.ref aI), some vN, some (.ref aS), some (.int (xn : Int)), some (.int (yn : Int)), some (.ref d), z18, z19, z20, none, none, none, none, none, none, none, none, none] ∧ But d Hd Hz ∧ Hz d = some (.lst ((S.map (dueF h1 g xn yn)).map V.int)), fun σe He ge => ?_, ?_⟩
          case refine_2 =>
            refine ⟨_, rfl, aS, rfl, ⟨_, hSSd⟩, ?_⟩
            refine for_tup (xs := S.map V.int) (fun j σ' Hz => ∃ z18 z19 z20 : Option V, σ' = [some (.ref a), some (.ref p), some (.ref aO), some vT, some vB, some (.int ((2 : Nat) : Int)), some (.int (n : Int)), some (.ref aL), some (.ref aR), some vW, some (.ref aw), some (.ref af), some (.ref aI), some vN, some (.ref aS), some (.int (xn : Int)), some (.int (yn : Int)), some (.ref d), z18, z19, z20, none, none, none, none, none, none, none, none, none] ∧ But d Hd Hz ∧ Hz d = some (.lst (((S.take j).map (dueF h1 g xn yn)).map V.int))) ⟨_, _, _, rfl, But.refl _ _, ed⟩ (fun j σ' Hz _ h' => ?_) (fun j x σ' Hz hx h' => ?_) (fun σ' Hz h' => ?_)
            · obtain ⟨_, _, _, _, hB, _⟩ := h'
              exact (But.fix ed hB).tups _ _ hSSd
            · obtain ⟨z18, z19, z20, rfl, hB, ez⟩ := h'
              obtain ⟨u, hu, rfl⟩ := map_at hx
              obtain ⟨un, hun, rfl⟩ := nat_of (perm_in pS (List.mem_of_getElem? hu))
              have tz : Tups K H11 Hz := fun b xs q => (But.fix ed hB).tups _ _ (t11 b xs q)
              have eh : (un : Int) / 2 = ((un / 2 : Nat) : Int) := by omega
              have er : (un : Int) % 2 = ((un % 2 : Nat) : Int) := by omega
              obtain ⟨a1, e1, hS1⟩ := ixRow (hEO.imp fun _ _ z => z.on tz) hb1 (t := (xn : Int)) ⟨by omega, by omega⟩
              obtain ⟨a2, e2, hS2⟩ := ixRow (hEI.imp fun _ _ z => z.on tz) hbg (t := (yn : Int)) ⟨by omega, by omega⟩
              have r1 := row_at hb1 (t := xn) (s := un / 2) hxn (by omega)
              have r2 := row_at hbg (t := yn) (s := un % 2) hyn (by omega)
              rw [← eh] at r1
              rw [← er] at r2
              have lt : ((S.take j).map (dueF h1 g xn yn)).length ≤ 4 := by
                rw [List.length_map, List.length_take]
                omega
              have fin : ∀ v : Int, v = dueF h1 g xn yn (un : Int) → (But d Hd (upd Hz d (.lst ((((S.take j).map (dueF h1 g xn yn)).map V.int) ++ [.int v]))) ∧ (upd Hz d (.lst ((((S.take j).map (dueF h1 g xn yn)).map V.int) ++ [.int v]))) d = some (.lst (((S.take (j + 1)).map (dueF h1 g xn yn)).map V.int))) := fun v ev => by
                refine ⟨fun b o eb nb => by rw [upd_ne nb]; exact hB b o eb nb, ?_⟩
                rw [upd_same, List.take_add_one, hu, List.map_append, List.map_append, ev]
                rfl
              refine ⟨_, rfl, _, _, rfl, rfl, ⟨by decide, by decide⟩, _, rfl, _, _, rfl, rfl, (by show (0 : Int) < 2; decide), _, _, rfl, ?_⟩
              refine ⟨_, rfl, .inl ⟨rfl, _, lstAt ez⟩, ?_⟩
              refine ⟨_, rfl, _, rfl, aO, xO, (xn : Int), .ref a1, rfl, rfl, tz _ _ hSO, e1, _, rfl, a1, _, (un : Int) / 2, _, rfl, rfl, hS1, r1, _, 2, rfl, rfl, .inr ⟨by decide, by decide⟩, ?_⟩
              refine ⟨_, rfl, _, rfl, rfl, _, rfl, ?_⟩
              by_cases e : un / 2 = xn
              · have tt : decide (V.int ((un : Int) / 2) = V.int (xn : Int)) = true := decide_eq_true (by rw [eh, e])
                refine ifT tt ⟨_, rfl, _, rfl, aI, xI, (yn : Int), .ref a2, rfl, rfl, tz _ _ hSI, e2, _, rfl, a2, _, (un : Int) % 2, _, rfl, rfl, hS2, r2, _, _, rfl, rfl, d, _, _, rfl, rfl, ez, by rw [List.length_map]; exact small1000 (by omega), _, _, _, rfl, fin _ ?_⟩
                unfold dueF
                rw [Int.toNat_natCast, if_pos e, eh, er]
              · have tt : decide (V.int ((un : Int) / 2) = V.int (xn : Int)) = false := decide_eq_false fun z => e (by have := V.int.inj z; omega)
                refine ifF tt ⟨_, rfl, _, _, rfl, rfl, d, _, _, rfl, rfl, ez, by rw [List.length_map]; exact small1000 (by omega), _, _, _, rfl, fin _ ?_⟩
                unfold dueF
                rw [Int.toNat_natCast, if_neg e, eh, er]
            · obtain ⟨z18, z19, z20, rfl, hB, ez⟩ := h'
              rw [List.length_map, List.take_length] at ez
              exact ⟨z18, z19, z20, rfl, hB, ez⟩
          obtain ⟨z18, z19, z20, rfl, hBe, ede⟩ := ge
          have fe := But.fix ed hBe
          have te : Tups K H11 He := fun b xs q => fe.tups _ _ (t11 b xs q)
          have sme : Same H7 He := fun b o q => hBe b o (sd b o (sm b o q)) (ne_of_none q h7d)
          have pS2 := due_perm hb1 hbg hxn hyn pS
          refine ⟨fun σ' Hz => ∃ vS3 : V, σ' = [some (.ref a), some (.ref p), some (.ref aO), some vT, some vB, some (.int ((2 : Nat) : Int)), some (.int (n : Int)), some (.ref aL), some (.ref aR), some vW, some (.ref aw), some (.ref af), some (.ref aI), some vN, some vS3, some (.int (xn : Int)), some (.int (yn : Int)), some (.ref d), z18, z19, z20, none, none, none, none, none, none, none, none, none] ∧ Same He Hz ∧ TI K Hz vS3 (S.map (dueF h1 g xn yn)), fun σf Hf gf => ?_, ?_⟩
          case refine_2 =>
            refine ⟨_, rfl, _, rfl, _, rfl, (xn : Int), 2, rfl, rfl, .inr ⟨by decide, by decide⟩, _, rfl, _, _, rfl, rfl, by show 1 ≤ sizeLine; decide, fun t2 ht2 => ?_⟩
            have s2 := same_new (o := .tup [.int ((xn : Int) * 2 + (yn : Int))]) ht2
            refine ⟨vN, .ref aS, .ref t2, withH h1 g, 4, S, [(xn : Int) * 2 + (yn : Int)], rfl, (hN11.on te).on (Same.tups s2), hb4, ⟨aS, rfl, onT s2 (fe.tups _ _ hSSd)⟩, pS, ⟨t2, rfl, tupAt upd_same⟩, fun t ht => ?_, by show 1 ≤ 60; decide, fun Hz vS3 sz hz => ?_⟩
            · rw [List.mem_singleton.mp ht]
              exact ⟨by omega, by omega⟩
            · rw [due_all hb1 hbg hxn hyn pS] at hz
              exact ⟨vS3, rfl, s2.trans sz, hz⟩
          obtain ⟨vS3, rfl, sf, hS3⟩ := gf
          refine ⟨_, rfl, _, rfl, .inl ⟨d, _, rfl, lstAt (sf _ _ ede), fun t3 ht3 => ?_⟩⟩
          have s3 := same_new (o := .tup ((S.map (dueF h1 g xn yn)).map V.int)) ht3
          exact ⟨_, _, dp_ti (hS3.on (Same.tups s3)), dp_tup (tupAt upd_same), shaped_tup _, shaped_tup _, _, rfl, ifF (neq_tup rfl) ⟨vS3, _, _, _, _, _, _, _, rfl, sme.trans (sf.trans s3), hS3.on (Same.tups s3), pS2⟩⟩
        · obtain ⟨vS2, S, y15, y16, y17, y18, y19, y20, rfl, sm, _⟩ := h'
          exact ⟨vS2, y15, y16, y17, y18, y19, y20, rfl, c12.same sm⟩
    obtain ⟨vS2, y15, y16, y17, y18, y19, y20, rfl, c12⟩ := g12
    obtain ⟨aT, xT, eT, hST, hET⟩ := id c12.t
    subst eT
    -- names, layout
    refine ⟨fun σ' H' => ∃ (aN aY : Addr) (ns ls : List Int), σ' = [some (.ref a), some (.ref p), some (.ref aO), some (.ref aT), some vB, some (.int ((2 : Nat) : Int)), some (.int (n : Int)), some (.ref aL), some (.ref aR), some vW, some (.ref aw), some (.ref af), some (.ref aI), some vN, some vS2, y15, y16, y17, y18, y19, y20, some (.ref aN), some (.ref aY), none, none, none, none, none, none, none] ∧ Two K (tabsT P1 P2) p (.ref aO) (.ref aT) h1 h2 H' ∧ FT H' aN ns ∧ SqT K H' aY (ls.map V.int) ∧ ns.Perm (rg n) ∧ ls.Perm (rg n), fun σ13 H13 g13 => ?_, ?_⟩
    case refine_2 =>
      refine ⟨_, rfl, _, rfl, p, n, rfl, c12.row, by omega, fun H13 vA ns pN hB13 hR13 hN13 => ?_⟩
      have c13 := c12.but hB13 hR13
      refine ⟨_, rfl, _, rfl, p, n, rfl, hR13, by omega, fun H14 vB2 ls pY hB14 hR14 hY14 => ⟨by show 2 ≤ sizeLine; decide, fun t ht => ?_⟩⟩
      have s15 := same_new (o := .tup [vA, vB2]) ht
      obtain ⟨aN, rfl, fN⟩ := hN13
      obtain ⟨aY, rfl, fY⟩ := hY14
      exact ⟨t, _, rfl, tupAt upd_same, rfl, _, _, rfl, _, _, rfl, rfl, aN, aY, ns, ls, rfl, (c13.but hB14 hR14).same s15, (fN.fix (hR13.fix hB14)).same s15, (fY.same s15).sq, pN, pY⟩
    obtain ⟨aN, aY, ns, ls, rfl, c13, fN13, hY13, pN, pY⟩ := g13
    have lN := perm_len pN
    have lY := perm_len pY
    -- word
    refine ⟨fun σ' H' => ∃ (ad : Addr) (us : List Int), σ' = [some (.ref a), some (.ref p), some (.ref aO), some (.ref aT), some vB, some (.int ((2 : Nat) : Int)), some (.int (n : Int)), some (.ref aL), some (.ref aR), some vW, some (.ref ad), some (.ref af), some (.ref aI), some vN, some vS2, y15, y16, y17, y18, y19, y20, some (.ref aN), some (.ref aY), none, none, none, none, none, none, none] ∧ Two K (tabsT P1 P2) p (.ref aO) (.ref aT) h1 h2 H' ∧ FT H' aN ns ∧ SqT K H' aY (ls.map V.int) ∧ SqT K H' ad (us.map V.int) ∧ us.length = 5 ∧ ∀ t ∈ us, InR n t, fun σ14 H14 g14 => ?_, ?_⟩
    case refine_2 =>
      refine ⟨5, rfl, by decide, by decide, fun D hD => ?_⟩
      have np : p ≠ D := c13.row.ne hD
      refine lc_range (lo := 0) (n := 5) (fun i H' => ∃ us : List Int, But p H13 H' ∧ Row K H' p ∧ H' D = some (.lst (us.map V.int)) ∧ us.length = i ∧ ∀ t ∈ us, InR n t)
        ⟨[], But.same (same_new hD), c13.row.new hD, upd_same, rfl, fun _ hm => absurd hm List.not_mem_nil⟩ (fun j H' hj h' => ?_) (fun H7 h7 => ?_)
      · obtain ⟨us, hB, hR', eD', hl', hus⟩ := h'
        refine ⟨rfl, _, rfl, _, rfl, p, _, rfl, hR', by omega, by omega, fun k H8 k0 k1 hB8 hR8 => ?_⟩
        have eD8 := hB8 _ _ eD' (Ne.symm np)
        refine ⟨_, eD8, by rw [List.length_map, hl']; exact small1000 (by omega), us ++ [k], (hB.trans hB8).fresh hD, hR8.lst_upd eD8 np, by rw [upd_same, List.map_append]; rfl, by rw [List.length_append, hl']; rfl, fun t ht => ?_⟩
        rcases List.mem_append.mp ht with h | h
        · exact hus t h
        · rw [List.mem_singleton.mp h]
          exact ⟨k0, k1⟩
      · obtain ⟨us, hB, hR7, eD7, hl7, hus⟩ := h7
        have f7 := c13.row.fix hB
        refine .inl ⟨D, _, rfl, lstAt eD7, fun t ht => ?_⟩
        have st := same_new (o := .tup (us.map V.int)) ht
        exact ⟨t, us, rfl, (c13.but hB hR7).same st, (fN13.fix f7).same st, onT st (f7.tups _ _ hY13), tupAt upd_same, hl7, hus⟩
    obtain ⟨ad, us, rfl, c14, fN14, hY14, hU14, lu, hus⟩ := g14
    -- again
    refine ⟨fun σ' H' => ∃ vG : V, σ' = [some (.ref a), some (.ref p), some (.ref aO), some (.ref aT), some vB, some (.int ((2 : Nat) : Int)), some (.int (n : Int)), some (.ref aL), some (.ref aR), some vW, some (.ref ad), some (.ref af), some (.ref aI), some vN, some vS2, y15, y16, y17, y18, y19, y20, some (.ref aN), some (.ref aY), some vG, none, none, none, none, none, none] ∧ Same H14 H' ∧ TII K H' vG (calH h2 ns), fun σ15 H15 g15 => ?_, ?_⟩
    case refine_2 => exact ⟨_, rfl, _, rfl, .ref aT, .ref aN, h2, n, rfl, c14.t.ti, hb2, .inr ⟨ns, ⟨aN, rfl, fN14⟩, pN, fun H15 vG s15 hG => ⟨vG, rfl, s15, hG.ti⟩⟩⟩
    obtain ⟨vG, rfl, s15, hG15⟩ := g15
    have hbG := cal_hb hb2 pN
    -- moved
    refine ⟨fun σ' H' => ∃ vM : V, σ' = [some (.ref a), some (.ref p), some (.ref aO), some (.ref aT), some vB, some (.int ((2 : Nat) : Int)), some (.int (n : Int)), some (.ref aL), some (.ref aR), some vW, some (.ref ad), some (.ref af), some (.ref aI), some vN, some vS2, y15, y16, y17, y18, y19, y20, some (.ref aN), some (.ref aY), some vG, some vM, none, none, none, none, none] ∧ Same H15 H' ∧ TI K H' vM (nmd ns (mvs h2 ls us)), fun σ16 H16 g16 => ?_, ?_⟩
    case refine_2 =>
      refine ⟨_, rfl, _, rfl, aY, rfl, ⟨_, onT s15 hY14⟩, fun D hD => ?_⟩
      have hNs : SqT K H15 aN (ns.map V.int) := (fN14.same s15).sq
      refine lc_tup (xs := ls.map V.int) (fun i H' => Same H15 H' ∧ H' D = some (.lst ((nmd ns (ls.take i)).map V.int))) ⟨same_new hD, upd_same⟩ (fun i H' _ h' => onT h'.1 (onT s15 hY14)) (fun i x H' hx h' => ?_) (fun H' h' => ?_)
      · obtain ⟨u, hu, rfl⟩ := map_at hx
        obtain ⟨sm, eD⟩ := h'
        obtain ⟨k, hk, rfl⟩ := nat_of (perm_in pY (List.mem_of_getElem? hu))
        obtain ⟨z, hz⟩ : ∃ z, ns[k]? = some z := ⟨_, List.getElem?_eq_getElem (by omega)⟩
        have few : (nmd ns (ls.take i)).length ≤ 5 := by
          unfold nmd
          rw [List.length_map, List.length_take]
          omega
        refine ⟨rfl, _, rfl, _, rfl, aN, ns.map V.int, (k : Int), .int z, rfl, rfl, onT sm hNs, atI_nat (by rw [List.getElem?_map, hz]; rfl), _, eD, by rw [List.length_map]; exact small1000 (by omega), ?_, ?_⟩
        · exact fun b o eb => by rw [upd_ne (ne_of_none eb hD)]; exact sm b o eb
        · rw [upd_same]
          unfold nmd
          rw [List.take_add_one, hu, List.map_append, List.map_append]
          show _ = some (HO.lst (_ ++ [V.int (ns.getD (k : Int).toNat 0)]))
          rw [Int.toNat_natCast, List.getD_eq_getElem?_getD, hz]
          rfl
      · obtain ⟨sm, eD⟩ := h'
        rw [List.length_map, List.take_length] at eD
        refine .inl ⟨D, _, rfl, lstAt eD, fun t1 ht1 => ?_⟩
        have s1 := sm.trans (same_new (o := .tup ((nmd ns ls).map V.int)) ht1)
        have e1 : (upd H' t1 (.tup ((nmd ns ls).map V.int))) t1 = some (.tup ((nmd ns ls).map V.int)) := upd_same
        generalize (upd H' t1 (.tup ((nmd ns ls).map V.int))) = G at s1 e1 ⊢
        clear eD sm hD D
        refine ⟨_, rfl, ad, rfl, ⟨_, onT (s15.trans s1) hU14⟩, fun D hD => ?_⟩
        have hNs : SqT K G aN (ns.map V.int) := (fN14.same (s15.trans s1)).sq
        refine lc_tup (xs := us.map V.int) (fun i H' => Same G H' ∧ H' D = some (.lst ((nmd ns (us.take i)).map V.int))) ⟨same_new hD, upd_same⟩ (fun i H' _ h' => onT h'.1 (onT (s15.trans s1) hU14)) (fun i x H' hx h' => ?_) (fun H' h' => ?_)
        · obtain ⟨u, hu, rfl⟩ := map_at hx
          obtain ⟨sm, eD⟩ := h'
          obtain ⟨k, hk, rfl⟩ := nat_of (hus _ (List.mem_of_getElem? hu))
          obtain ⟨z, hz⟩ : ∃ z, ns[k]? = some z := ⟨_, List.getElem?_eq_getElem (by omega)⟩
          have few : (nmd ns (us.take i)).length ≤ 5 := by
            unfold nmd
            rw [List.length_map, List.length_take]
            omega
          refine ⟨rfl, _, rfl, _, rfl, aN, ns.map V.int, (k : Int), .int z, rfl, rfl, onT sm hNs, atI_nat (by rw [List.getElem?_map, hz]; rfl), _, eD, by rw [List.length_map]; exact small1000 (by omega), ?_, ?_⟩
          · exact fun b o eb => by rw [upd_ne (ne_of_none eb hD)]; exact sm b o eb
          · rw [upd_same]
            unfold nmd
            rw [List.take_add_one, hu, List.map_append, List.map_append]
            show _ = some (HO.lst (_ ++ [V.int (ns.getD (k : Int).toNat 0)]))
            rw [Int.toNat_natCast, List.getD_eq_getElem?_getD, hz]
            rfl
        · obtain ⟨sm, eD⟩ := h'
          rw [List.length_map, List.take_length] at eD
          refine .inl ⟨D, _, rfl, lstAt eD, fun t2 ht2 => ?_⟩
          have s2 := sm.trans (same_new (o := .tup ((nmd ns us).map V.int)) ht2)
          have s12 := s1.trans s2
          refine ⟨vG, .ref t1, .ref t2, calH h2 ns, n, nmd ns ls, nmd ns us, rfl, hG15.on (Same.tups s12), hbG, ⟨t1, rfl, tupAt (s2 _ _ e1)⟩, nmd_perm pN pY, ⟨t2, rfl, tupAt upd_same⟩, nmd_in pN hus, by unfold nmd; rw [List.length_map]; omega, fun H8 v8 s8 hv8 => ?_⟩
          rw [mvs_cal hb2 pN hus pY] at hv8
          exact ⟨v8, rfl, s12.trans s8, hv8⟩
    obtain ⟨vM, rfl, s16, hM16⟩ := g16
    have sGM := s15.trans s16
    have c16 := c14.same sGM
    have hY16 := onT sGM hY14
    have hG16 := hG15.on (Same.tups s16)
    -- called otherwise
    refine ⟨fun σ' H' => σ' = [some (.ref a), some (.ref p), some (.ref aO), some (.ref aT), some vB, some (.int ((2 : Nat) : Int)), some (.int (n : Int)), some (.ref aL), some (.ref aR), some vW, some (.ref ad), some (.ref af), some (.ref aI), some vN, some vS2, y15, y16, y17, y18, y19, y20, some (.ref aN), some (.ref aY), some vG, some vM, none, none, none, none, none] ∧ Two K (tabsT P1 P2) p (.ref aO) (.ref aT) h1 h2 H' ∧ SqT K H' aY (ls.map V.int), fun σ17 H17 g17 => ?_, ?_⟩
    case refine_2 =>
      refine ⟨_, rfl, _, rfl, _, rfl, _, rfl, .ref aT, .ref aY, .ref ad, h2, n, ls, us, rfl, c16.t.ti, hb2, ⟨aY, rfl, hY16⟩, pY, ⟨ad, rfl, onT sGM hU14⟩, hus, by omega, fun G y sG hy => ?_⟩
      obtain ⟨ay, rfl, hSy⟩ := hy
      have pM := hb2.mvs_perm hus pY
      have lM := perm_len pM
      have hNs : SqT K G aN (ns.map V.int) := (fN14.same (sGM.trans sG)).sq
      refine ⟨ay, rfl, ⟨_, hSy⟩, fun D hD => ?_⟩
      generalize hX : mvs h2 ls us = xs at hSy pM lM hM16 ⊢
      refine lc_tup (xs := xs.map V.int) (fun i H' => Same G H' ∧ H' D = some (.lst ((nmd ns (xs.take i)).map V.int))) ⟨same_new hD, upd_same⟩ (fun i H' _ h' => onT h'.1 hSy) (fun i x H' hx h' => ?_) (fun H' h' => ?_)
      · obtain ⟨u, hu, rfl⟩ := map_at hx
        obtain ⟨sm, eD⟩ := h'
        obtain ⟨k, hk, rfl⟩ := nat_of (perm_in pM (List.mem_of_getElem? hu))
        obtain ⟨z, hz⟩ : ∃ z, ns[k]? = some z := ⟨_, List.getElem?_eq_getElem (by omega)⟩
        have few : (nmd ns (xs.take i)).length ≤ 5 := by
          unfold nmd
          rw [List.length_map, List.length_take]
          omega
        refine ⟨rfl, _, rfl, _, rfl, aN, ns.map V.int, (k : Int), .int z, rfl, rfl, onT sm hNs, atI_nat (by rw [List.getElem?_map, hz]; rfl), _, eD, by rw [List.length_map]; exact small1000 (by omega), ?_, ?_⟩
        · exact fun b o eb => by rw [upd_ne (ne_of_none eb hD)]; exact sm b o eb
        · rw [upd_same]
          unfold nmd
          rw [List.take_add_one, hu, List.map_append, List.map_append]
          show _ = some (HO.lst (_ ++ [V.int (ns.getD (k : Int).toNat 0)]))
          rw [Int.toNat_natCast, List.getD_eq_getElem?_getD, hz]
          rfl
      · obtain ⟨sm, eD⟩ := h'
        rw [List.length_map, List.take_length] at eD
        refine .inl ⟨D, _, rfl, lstAt eD, fun t1 ht1 => ?_⟩
        have s1 := sm.trans (same_new (o := .tup ((nmd ns xs).map V.int)) ht1)
        have sA := sG.trans s1
        have c17 := c16.same sA
        refine ⟨_, _, dp_ti (hM16.on (Same.tups sA)), dp_tup (ns := nmd ns xs) (tupAt upd_same), shaped_tup _, shaped_tup _, _, rfl, ifF (neq_tup rfl) ?_⟩
        refine ⟨_, rfl, vG, calH h2 ns, n, rfl, hG16.on (Same.tups sA), hbG, c17.tab, fun H18 k3 x18 t18 e3 => ?_⟩
        have c18 := c17.ext x18 t18
        refine ⟨_, rfl, .ref aT, h2, n, rfl, c18.t.ti, hb2, c18.tab, fun H19 k2 x19 t19 e2 => ?_⟩
        have c19 := c18.ext x19 t19
        refine ⟨rfl, _, rfl, ifF ?_ ⟨rfl, c19, (Ev.ext x19).tups _ _ ((Ev.ext x18).tups _ _ (onT sA hY16))⟩⟩
        rw [ord_cal hb2 pN e2 e3]
        simp
    obtain ⟨rfl, c17, hY17⟩ := g17
    -- back, two
    refine ⟨fun σ' H' => ∃ vK vD : V, σ' = [some (.ref a), some (.ref p), some (.ref aO), some (.ref aT), some vB, some (.int ((2 : Nat) : Int)), some (.int (n : Int)), some (.ref aL), some (.ref aR), some vW, some (.ref ad), some (.ref af), some (.ref aI), some vN, some vS2, y15, y16, y17, y18, y19, y20, some (.ref aN), some (.ref aY), some vG, some vM, some vK, some vD, none, none, none] ∧ Two K (tabsT P1 P2) p (.ref aO) (.ref aT) h1 h2 H' ∧ SqT K H' aY (ls.map V.int) ∧ THF K H' vK (h2.map invR) ∧ TII K H' vD (h2.map dblR), fun σ18 H18 g18 => ?_, ?_⟩
    case refine_2 =>
      refine ⟨_, rfl, .ref aT, rfl, .inr ⟨h2, n, c17.t, hb2, hk_of c17.t.ti hb2, hb_ok hb2, fun H18 vK s18 hK => ?_⟩⟩
      have c18 := c17.same s18
      exact ⟨_, rfl, .ref aT, h2, n, rfl, c18.t.ti, hb2, hk_of c18.t.ti hb2, hb_ok hb2, fun H19 vD s19 hD => ⟨_, _, rfl, vK, vD, rfl, c18.same s19, onT (s18.trans s19) hY17, hK.same s19, hD.ti⟩⟩
    obtain ⟨vK, vD, rfl, c18, hY18, hK18, hD18⟩ := g18
    have hbK := inv_hb hb2
    have hbD := dbl_hb hb2
    -- undone, doubled
    refine ⟨fun σ' H' => ∃ z15 : Option V, σ' = [some (.ref a), some (.ref p), some (.ref aO), some (.ref aT), some vB, some (.int ((2 : Nat) : Int)), some (.int (n : Int)), some (.ref aL), some (.ref aR), some vW, some (.ref ad), some (.ref af), some (.ref aI), some vN, some vS2, z15, y16, y17, y18, y19, y20, some (.ref aN), some (.ref aY), some vG, some vM, some vK, some vD, none, none, none] ∧ Two K (tabsT P1 P2) p (.ref aO) (.ref aT) h1 h2 H', fun σ19 H19 g19 => ?_, ?_⟩
    case refine_2 =>
      refine ⟨_, rfl, (n : Int), rfl, by omega, by omega, ?_⟩
      rw [Int.toNat_natCast]
      refine for_range (lo := 0) (n := n) (fun i σ' H' => ∃ z15 : Option V, σ' = [some (.ref a), some (.ref p), some (.ref aO), some (.ref aT), some vB, some (.int ((2 : Nat) : Int)), some (.int (n : Int)), some (.ref aL), some (.ref aR), some vW, some (.ref ad), some (.ref af), some (.ref aI), some vN, some vS2, z15, y16, y17, y18, y19, y20, some (.ref aN), some (.ref aY), some vG, some vM, some vK, some vD, none, none, none] ∧ Same H18 H') ⟨_, rfl, Same.refl _⟩ (fun i σ' H' hi h' => ?_) (fun σ' H' h' => ?_)
      · obtain ⟨z15, rfl, sm⟩ := h'
        rw [Int.zero_add]
        have hin : InR n (i : Int) := ⟨by omega, by omega⟩
        have one : ∀ t ∈ [(i : Int)], InR n t := fun t ht => by
          rw [List.mem_singleton.mp ht]
          exact hin
        have two : ∀ t ∈ [(i : Int), (i : Int)], InR n t := fun t ht => by
          rcases List.mem_cons.mp ht with rfl | ht
          · exact hin
          · rw [List.mem_singleton.mp ht]
            exact hin
        have hS1 : (stp h2 (i : Int) ls).Perm (rg n) := hb2.stp_perm hin pY
        refine ⟨fun σ' Hz => σ' = [some (.ref a), some (.ref p), some (.ref aO), some (.ref aT), some vB, some (.int ((2 : Nat) : Int)), some (.int (n : Int)), some (.ref aL), some (.ref aR), some vW, some (.ref ad), some (.ref af), some (.ref aI), some vN, some vS2, some (.int (i : Int)), y16, y17, y18, y19, y20, some (.ref aN), some (.ref aY), some vG, some vM, some vK, some vD, none, none, none] ∧ Same H18 Hz, fun σz Hz gz => ?_, ?_⟩
        case refine_2 =>
          refine ⟨_, rfl, _, rfl, _, rfl, _, rfl, by show 1 ≤ sizeLine; decide, fun t1 ht1 => ?_⟩
          have s1 := sm.trans (same_new (o := .tup [.int (i : Int)]) ht1)
          refine ⟨.ref aT, .ref aY, .ref t1, h2, n, ls, [(i : Int)], rfl, (c18.same s1).t.ti, hb2, ⟨aY, rfl, onT s1 hY18⟩, pY, ⟨t1, rfl, tupAt upd_same⟩, one, by show 1 ≤ 60; decide, fun G y sG hy => ?_⟩
          have s2 := s1.trans sG
          refine ⟨_, rfl, by show 1 ≤ sizeLine; decide, fun t2 ht2 => ?_⟩
          have n2 := same_new (o := .tup [.int (i : Int)]) ht2
          have s3 := s2.trans n2
          refine ⟨vK, y, .ref t2, h2.map invR, n, stp h2 (i : Int) ls, [(i : Int)], rfl, (hK18.same s3).ti, hbK, hy.on (Same.tups n2), hS1, ⟨t2, rfl, tupAt upd_same⟩, one, by show 1 ≤ 60; decide, fun G2 y2 sG2 hy2 => ?_⟩
          have s4 := s3.trans sG2
          have ei : mvs (h2.map invR) (stp h2 (i : Int) ls) [(i : Int)] = ls := stp_inv hb2 hin pY
          refine ⟨_, rfl, _, _, dp_ti hy2, dp_tup (onT s4 hY18), shaped_tup _, shaped_tup _, _, rfl, ifF (neq_tup ei) ?_⟩
          refine ⟨_, rfl, vK, rfl, .inr ⟨h2.map invR, n, hK18.same s4, hbK, hk_of (hK18.same s4).ti hbK, hb_ok hbK, fun G3 u sG3 hu => ?_⟩⟩
          have s5 := s4.trans sG3
          refine ⟨_, rfl, _, _, dp_rws hu.ti, dp_rws (c18.same s5).t.ti, shaped_rws _, shaped_rws _, _, rfl, ifF ?_ ⟨rfl, s5⟩⟩
          rw [inv_back hb2, eqv_rws]
          rfl
        obtain ⟨rfl, sz⟩ := gz
        refine ⟨_, rfl, _, rfl, _, rfl, by show 1 ≤ sizeLine; decide, fun t1 ht1 => ?_⟩
        have s1 := sz.trans (same_new (o := .tup [.int (i : Int)]) ht1)
        refine ⟨vD, .ref aY, .ref t1, h2.map dblR, n, ls, [(i : Int)], rfl, hD18.on (Same.tups s1), hbD, ⟨aY, rfl, onT s1 hY18⟩, pY, ⟨t1, rfl, tupAt upd_same⟩, one, by show 1 ≤ 60; decide, fun G y sG hy => ?_⟩
        have s2 := s1.trans sG
        refine ⟨_, rfl, _, rfl, _, rfl, _, rfl, by show 2 ≤ sizeLine; decide, fun t2 ht2 => ?_⟩
        have n2 := same_new (o := .tup [.int (i : Int), .int (i : Int)]) ht2
        have s3 := s2.trans n2
        refine ⟨.ref aT, .ref aY, .ref t2, h2, n, ls, [(i : Int), (i : Int)], rfl, (c18.same s3).t.ti, hb2, ⟨aY, rfl, onT s3 hY18⟩, pY, ⟨t2, rfl, tupAt upd_same⟩, two, by show 2 ≤ 60; decide, fun G2 y2 sG2 hy2 => ?_⟩
        have s4 := s3.trans sG2
        have ed : mvs (h2.map dblR) ls [(i : Int)] = mvs h2 ls [(i : Int), (i : Int)] := stp_dbl hb2 hin pY
        exact ⟨_, _, dp_ti (hy.on (Same.tups (n2.trans sG2))), dp_ti hy2, shaped_tup _, shaped_tup _, _, rfl, ifF (neq_tup ed) ⟨_, rfl, s4⟩⟩
      · obtain ⟨z15, rfl, sm⟩ := h'
        exact ⟨z15, rfl, c18.same sm⟩
    obtain ⟨z15, rfl, c19⟩ := g19
    -- great
    refine ⟨fun σ' H' => ∃ (v4 : V) (h4 : List (List Int)), σ' = [some (.ref a), some (.ref p), some (.ref aO), some (.ref aT), some vB, some (.int ((2 : Nat) : Int)), some (.int (n : Int)), some (.ref aL), some (.ref aR), some vW, some (.ref ad), some (.ref af), some (.ref aI), some vN, some vS2, z15, y16, y17, y18, y19, y20, some (.ref aN), some (.ref aY), some vG, some vM, some vK, some vD, some v4, none, none] ∧ Two K (tabsT P1 P2) p (.ref aO) (.ref aT) h1 h2 H' ∧ THF K H' v4 h4 ∧ Hb 4 h4, fun σ20 H20 g20 => ?_, ?_⟩
    case refine_2 => exact ⟨_, rfl, p, 4, rfl, c19.row, by decide, by decide, fun H20 v4 h4 hb4 hB hR hH => ⟨v4, h4, rfl, c19.but hB hR, hH, hb4⟩⟩
    obtain ⟨v4, h4, rfl, c20, hF20, hb44⟩ := g20
    -- words
    refine ⟨fun σ' H' => ∃ (aw2 : Addr), σ' = [some (.ref a), some (.ref p), some (.ref aO), some (.ref aT), some vB, some (.int ((2 : Nat) : Int)), some (.int (n : Int)), some (.ref aL), some (.ref aR), some vW, some (.ref ad), some (.ref af), some (.ref aI), some vN, some vS2, z15, y16, y17, y18, y19, y20, some (.ref aN), some (.ref aY), some vG, some vM, some vK, some vD, some v4, some (.ref aw2), none] ∧ Two K (tabsT P1 P2) p (.ref aO) (.ref aT) h1 h2 H' ∧ THF K H' v4 h4 ∧ H' aw2 = some (.lst [.str "many 5"]), fun σ21 H21 g21 => ?_, ?_⟩
    case refine_2 =>
      refine ⟨c20.tab, fun fl c' H1 ex nn T1 nf e1 e2 => ⟨⟨fl, liveL fl (mk 0 c'), spL (spBeside K Cm) 2 id [some v4, some (.ref aO)]⟩, ⟨fl, c', v4, .ref aO, rfl, rfl, rfl⟩, rfl, ⟨e1, e2⟩, fun Qx Ex hE => ?_⟩⟩
      have c21 := c20.ext ex T1
      have hF21 := hF20.ev (Ev.ext ex)
      refine ⟨[v4, .ref aO], rfl, rfl, rfl, v4, .ref aO, h4, h1, 4, 2, rfl, hF21.ti, c21.o.ti, hb44, hb1, fun _ => fun d H' s hd => hE _ _ _ (.inr (.inr ⟨rfl, d, rfl, hd, ?_⟩)), fun le => absurd le (by decide)⟩
      refine ⟨by show 1 ≤ sizeLine; decide, fun l hl => ⟨l, rfl, (c21.same s).same (same_new hl), (hF21.same s).same (same_new hl), upd_same⟩⟩
    obtain ⟨aw2, rfl, c21, hF21, ew21⟩ := g21
    have nw : aw2 ≠ p := not_row c21.row ew21 (by simp)
    refine ⟨fun σ' H' => σ' = [some (.ref a), some (.ref p), some (.ref aO), some (.ref aT), some vB, some (.int ((2 : Nat) : Int)), some (.int (n : Int)), some (.ref aL), some (.ref aR), some vW, some (.ref ad), some (.ref af), some (.ref aI), some vN, some vS2, z15, y16, y17, y18, y19, y20, some (.ref aN), some (.ref aY), some vG, some vM, some vK, some vD, some v4, some (.ref aw2), none] ∧ Two K (tabsT P1 P2) p (.ref aO) (.ref aT) h1 h2 H' ∧ THF K H' v4 h4 ∧ H' aw2 = some (.lst [.str "many 5", .str "many 5"]), fun σ22 H22 g22 => ?_, ?_⟩
    case refine_2 =>
      refine ⟨_, rfl, .inl ⟨rfl, _, lstAt ew21⟩, c21.tab, fun fl c' t H1 ex nn T1 nf e1 e2 e3 => ⟨⟨fl, liveD fl (mk 1 c') t 0, spL (spWithin K Cm) 2 id [some (.ref aT), some v4]⟩, ⟨fl, c', t, .ref aT, v4, rfl, rfl, rfl⟩, rfl, ⟨e1, e2, e3⟩, fun Qx Ex hE => ?_⟩⟩
      have c22 := c21.ext ex T1
      have hF22 := hF21.ev (Ev.ext ex)
      have ew22 := ex _ _ ew21 (fun ps z => nomatch z)
      have fin : ∀ (H' : Hp) (x : V), Two K (tabsT P1 P2) p (.ref aO) (.ref aT) h1 h2 H' → THF K H' v4 h4 → H' aw2 = some (.lst [.str "many 5"]) → (Two K (tabsT P1 P2) p (.ref aO) (.ref aT) h1 h2 (upd H' aw2 (.lst ([.str "many 5"] ++ [x]))) ∧ THF K (upd H' aw2 (.lst ([.str "many 5"] ++ [x]))) v4 h4) := fun H' x c hF e => by
        have fx := Fix.lst (o := .lst ([.str "many 5"] ++ [x])) e
        exact ⟨⟨c.row.lst_upd e (Ne.symm nw), fx.tabs c.tab, c.o.ev (Ev.fix fx), c.t.ev (Ev.fix fx)⟩, hF.ev (Ev.fix fx)⟩
      refine ⟨[.ref aT, v4], rfl, rfl, rfl, .ref aT, v4, h2, h4, n, 4, rfl, c22.t.ti, hF22.ti, hb2, hb44, fun _ => fun d H' s hd => hE _ _ _ (.inr (.inr ⟨rfl, d, rfl, hd, ?_⟩)), fun le => absurd le (by omega)⟩
      have Z1 := c22.same s
      have Z2 := hF22.same s
      have Z3 := s _ _ ew22
      exact ⟨aw2, [.str "many 5"], _, rfl, rfl, Z3, by show 1 < sizeLine; decide, rfl, (fin _ _ Z1 Z2 Z3).1, (fin _ _ Z1 Z2 Z3).2, upd_same⟩
    obtain ⟨rfl, c22, hF22, ew22⟩ := g22
    refine ⟨fun σ' H' => σ' = [some (.ref a), some (.ref p), some (.ref aO), some (.ref aT), some vB, some (.int ((2 : Nat) : Int)), some (.int (n : Int)), some (.ref aL), some (.ref aR), some vW, some (.ref ad), some (.ref af), some (.ref aI), some vN, some vS2, z15, y16, y17, y18, y19, y20, some (.ref aN), some (.ref aY), some vG, some vM, some vK, some vD, some v4, some (.ref aw2), none] ∧ Two K (tabsT P1 P2) p (.ref aO) (.ref aT) h1 h2 H' ∧ THF K H' v4 h4 ∧ H' aw2 = some (.lst [.str "many 5", .str "many 5", .str "layout"]), fun σ23 H23 g23 => ?_, ?_⟩
    case refine_2 =>
      refine ⟨_, rfl, .inl ⟨rfl, _, lstAt ew22⟩, c22.tab, fun fl c' t H1 ex nn T1 nf e1 e2 e3 => ⟨⟨fl, liveD fl (mk 2 c') t 0, spL (spCal0 K Cl) 1 id [some (.ref aO)]⟩, ⟨fl, c', t, .ref aO, rfl, rfl⟩, rfl, ⟨e1, e2, e3⟩, fun Qx Ex hE => ?_⟩⟩
      have c22 := c22.ext ex T1
      have hF22 := hF22.ev (Ev.ext ex)
      have ew22 := ex _ _ ew22 (fun ps z => nomatch z)
      have fin : ∀ (H' : Hp) (x : V), Two K (tabsT P1 P2) p (.ref aO) (.ref aT) h1 h2 H' → THF K H' v4 h4 → H' aw2 = some (.lst [.str "many 5", .str "many 5"]) → (Two K (tabsT P1 P2) p (.ref aO) (.ref aT) h1 h2 (upd H' aw2 (.lst ([.str "many 5", .str "many 5"] ++ [x]))) ∧ THF K (upd H' aw2 (.lst ([.str "many 5", .str "many 5"] ++ [x]))) v4 h4) := fun H' x c hF e => by
        have fx := Fix.lst (o := .lst ([.str "many 5", .str "many 5"] ++ [x])) e
        exact ⟨⟨c.row.lst_upd e (Ne.symm nw), fx.tabs c.tab, c.o.ev (Ev.fix fx), c.t.ev (Ev.fix fx)⟩, hF.ev (Ev.fix fx)⟩
      refine ⟨[.ref aO], rfl, rfl, rfl, .ref aO, h1, 2, rfl, c22.o.ti, hb1, fun H' s => hE _ _ _ (.inr (.inl ⟨rfl, ?_⟩))⟩
      have Z1 := c22.same s
      have Z2 := hF22.same s
      have Z3 := s _ _ ew22
      exact ⟨aw2, [.str "many 5", .str "many 5"], _, rfl, rfl, Z3, by show 2 < sizeLine; decide, rfl, (fin _ _ Z1 Z2 Z3).1, (fin _ _ Z1 Z2 Z3).2, upd_same⟩
    obtain ⟨rfl, c23, hF23, ew23⟩ := g23
    refine ⟨fun σ' H' => σ' = [some (.ref a), some (.ref p), some (.ref aO), some (.ref aT), some vB, some (.int ((2 : Nat) : Int)), some (.int (n : Int)), some (.ref aL), some (.ref aR), some vW, some (.ref ad), some (.ref af), some (.ref aI), some vN, some vS2, z15, y16, y17, y18, y19, y20, some (.ref aN), some (.ref aY), some vG, some vM, some vK, some vD, some v4, some (.ref aw2), none] ∧ Two K (tabsT P1 P2) p (.ref aO) (.ref aT) h1 h2 H' ∧ THF K H' v4 h4 ∧ H' aw2 = some (.lst [.str "many 5", .str "many 5", .str "layout", .str "habit"]), fun σ24 H24 g24 => ?_, ?_⟩
    case refine_2 =>
      refine ⟨_, rfl, .inl ⟨rfl, _, lstAt ew23⟩, c23.tab, fun fl c' t H1 ex nn T1 nf e1 e2 e3 => ⟨⟨fl, liveD fl (mk 3 c') t 0, spL (spBk0 K Cb) 2 id [some (.ref p), some (.ref aO)]⟩, ⟨fl, c', t, .ref p, .ref aO, rfl, rfl, rfl⟩, rfl, ⟨e1, e2, e3⟩, fun Qx Ex hE => ?_⟩⟩
      have c22 := c23.ext ex T1
      have hF22 := hF23.ev (Ev.ext ex)
      have ew22 := ex _ _ ew23 (fun ps z => nomatch z)
      have fin : ∀ (H' : Hp) (x : V), Two K (tabsT P1 P2) p (.ref aO) (.ref aT) h1 h2 H' → THF K H' v4 h4 → H' aw2 = some (.lst [.str "many 5", .str "many 5", .str "layout"]) → (Two K (tabsT P1 P2) p (.ref aO) (.ref aT) h1 h2 (upd H' aw2 (.lst ([.str "many 5", .str "many 5", .str "layout"] ++ [x]))) ∧ THF K (upd H' aw2 (.lst ([.str "many 5", .str "many 5", .str "layout"] ++ [x]))) v4 h4) := fun H' x c hF e => by
        have fx := Fix.lst (o := .lst ([.str "many 5", .str "many 5", .str "layout"] ++ [x])) e
        exact ⟨⟨c.row.lst_upd e (Ne.symm nw), fx.tabs c.tab, c.o.ev (Ev.fix fx), c.t.ev (Ev.fix fx)⟩, hF.ev (Ev.fix fx)⟩
      refine ⟨[.ref p, .ref aO], rfl, rfl, rfl, p, .ref aO, rfl, c22.row, fun pl Hp hBp hRp => fun d H' s hd => hE _ _ _ (.inl ⟨rfl, ?_⟩)⟩
      have Z1 := (c22.but hBp hRp).same s
      have Z2 := (hF22.ev (Ev.fix (c22.row.fix hBp))).same s
      have Z3 := s _ _ (hBp _ _ ew22 nw)
      exact ⟨aw2, [.str "many 5", .str "many 5", .str "layout"], _, rfl, rfl, Z3, by show 3 < sizeLine; decide, rfl, (fin _ _ Z1 Z2 Z3).1, (fin _ _ Z1 Z2 Z3).2, upd_same⟩
    obtain ⟨rfl, c24, hF24, ew24⟩ := g24
    -- the answer
    refine ⟨_, rfl, by show 4 ≤ sizeLine; decide, fun l hl => ?_⟩
    have dd : ∀ (H' : Hp) (b : Addr), H' b = some (.lst [.str "many 5", .str "many 5", .str "layout", .str "habit"]) → Dp K H' (.ref b) (.list [.str "many 5", .str "many 5", .str "layout", .str "habit"]) := fun H' b e => .lst (lstAt e) (.cons (.str _) (.cons (.str _) (.cons (.str _) (.cons (.str _) .nil))))
    have ee : PyData.eqv (.list [.str "many 5", .str "many 5", .str "layout", .str "habit"]) (.list [.str "many 5", .str "many 5", .str "layout", .str "habit"]) = true := by decide +kernel
    refine ⟨_, _, dd _ _ (same_new hl _ _ ew24), dd _ _ upd_same, by decide +kernel, by decide +kernel, ?_⟩
    rw [ee]
    exact q _
end
end RH
set_option Elab.async false
set_option linter.all false
set_option maxRecDepth 100000
set_option maxHeartbeats 2000000
namespace RH
open PySem PySem.Spec PyProof.Rows L2
open NdefX (NScope NF CellsAt startF ncx envF)
section
variable {P : Program} {w : World} {K : PySem.W.Frag} {mg : Str → Option Value} {base : Heap}
theorem ok_TooMany {C f cc cda : Addr} {fd : FuncData} (M : SupC P K mg C "TooMany.__init__" st_e_TooMany f fd cc cda) (hno : PySem.W.findIn K (.ref C) "most" = some none) : FnOk P w K mg base CX0 1 f fd ["self", "most"] (spBI "most" C) := by
  refine fn_super (self := "self") M sc_e_TooMany rfl rfl rfl (by decide +kernel) rfl (fun vs H Q E h => ?_) (fun A outer s H vs Q E hr h => ?_)
  · obtain ⟨a, v, rfl, _⟩ := h
    rfl
  · obtain ⟨a, v, rfl, hv, ha, q⟩ := h
    refine ⟨a, _, _, rfl, ha, pa_cons (pe_joined (.cons pe_str (.cons (pe_fmtN (pv 1)) .nil))) pa_nil, pss_one (ps_ost (pv 0) (pv 1)), ?_⟩
    have go : ∀ H1, H1 = H → ([V.str "x"] : List V).length ≤ 1000 ∧ H1 a = some (exo a C none) ∧ tOst K "most" (tVar 0) (tVar 1) { nx := fun _ H' => Q .non H', rt := Q } [some (.ref a), some v, some (.ref C)] H1 := fun H1 e => by
      subst e
      exact ⟨by decide, ha, _, rfl, _, rfl, a, C, rfl, M.t, hno, .inl ⟨ha, fun dx n ne => q dx n ne⟩⟩
    rcases hv with rfl | ⟨i, hi, rfl⟩
    · refine ⟨_, rfl, ?_, _, rfl, .inl ⟨rfl, _, rfl, ?_, go _ rfl⟩⟩
      · rw [sizeLine_eq]; decide +kernel
      · rw [sizeLine_eq]; decide +kernel
    · refine ⟨_, rfl, ?_, _, rfl, .inr ⟨(i : Int), rfl, fmt_few hi, _, rfl, ?_, go _ rfl⟩⟩
      · rw [sizeLine_eq]; decide +kernel
      · rw [sizeLine_eq]
        rcases few_of hi with rfl | rfl | rfl | rfl | rfl | rfl | rfl | rfl | rfl | rfl | rfl | rfl | rfl | rfl | rfl | rfl <;> decide +kernel
end
end RH
set_option Elab.async false
set_option linter.all false
set_option maxRecDepth 100000
set_option maxHeartbeats 2000000
namespace RH
open PySem PySem.Spec PyProof.Rows L2
open LamX (Tabs TabS TabB ExtN CodeO codeO_ne)
/-! ### what the top has left -/
theorem df_mk {K : PySem.W.Frag} {h : Heap} {mg : Str → Option Value} (X : K.In h) (G : h.Ns mainGlobals mg) {x : Str} {st : Stmt} {ps : List Str} {f : Addr} {od an : Option Addr} {sl : Array (Option Value)} {oc kV dc pm cd ct : Value}
    (a : PySem.W.nsIn K mainGlobals x = some (some (.ref f))) (l : K.lookup f = some ⟨oc, od, .func (PySem.W.fnOf x x (defArgs st) (defBody st) (defScope st) .none kV dc pm an cd ct), sl⟩) (c : PySem.W.codeIn K cd x = true) (k : PySem.W.keepIn K (.ref f) = true)
    (b : ∀ (kV doc pm : Value) (an : Option Addr) (cdv ct : Value) (us : List Value), us.length = ps.length → bindArgs (PySem.W.fnOf x x (defArgs st) (defBody st) (defScope st) .none kV doc pm an cdv ct) ⟨us, []⟩ = pure (ps.zip us)) : Df K mg x st ps := by
  have F := fun_mk (st := st) l c k
  exact ⟨f, _, F, PySem.W.mg_of X G a, F.binds b⟩
theorem dfc_mk {K : PySem.W.Frag} {h : Heap} {mg : Str → Option Value} (X : K.In h) (G : h.Ns mainGlobals mg) {x : Str} {st : Stmt} {ps : List Str} {f c : Addr} {od an : Option Addr} {sl : Array (Option Value)} {oc kV dc pm ct : Value}
    (a : PySem.W.nsIn K mainGlobals x = some (some (.ref f))) (l : K.lookup f = some ⟨oc, od, .func (PySem.W.fnOf x x (defArgs st) (defBody st) (defScope st) .none kV dc pm an (.ref c) ct), sl⟩) (cc : PySem.W.codeIn K (.ref c) x = true) (k : PySem.W.keepIn K (.ref f) = true)
    (b : ∀ (kV doc pm : Value) (an : Option Addr) (cdv ct : Value) (us : List Value), us.length = ps.length → bindArgs (PySem.W.fnOf x x (defArgs st) (defBody st) (defScope st) .none kV doc pm an cdv ct) ⟨us, []⟩ = pure (ps.zip us)) : DfC K mg x st ps c := by
  have F := fun_mk (st := st) l cc k
  exact ⟨f, oc, od, kV, dc, pm, an, ct, sl, l, cc, k, PySem.W.mg_of X G a, F.binds b⟩
/-- where a code object's table stands -/
def tabOf (o : Obj) : Option Value := match o.data with
  | .fields vs => vs.toList[11]?
  | _ => none
/-- a maker: its code object, its table -/
structure Mkr (K : PySem.W.Frag) (h : Heap) (mg : Str → Option Value) (x : Str) (st : Stmt) (ps : List Str) (c p : Addr) : Prop where
  df : DfC K mg x st ps c
  hd : PySem.W.CodeHd h c p
  no : K.lookup p = none
  tab : h.get? p = some (PySem.W.tabObj #[])
theorem mkr {K : PySem.W.Frag} {h : Heap} {mg : Str → Option Value} (X : K.In h) (G : h.Ns mainGlobals mg) {x : Str} {st : Stmt} {ps : List Str} {f c p : Addr} {od an : Option Addr} {sl : Array (Option Value)} {oc kV dc pm ct : Value} {o : Obj}
    (a : PySem.W.nsIn K mainGlobals x = some (some (.ref f))) (l : K.lookup f = some ⟨oc, od, .func (PySem.W.fnOf x x (defArgs st) (defBody st) (defScope st) .none kV dc pm an (.ref c) ct), sl⟩) (cc : PySem.W.codeIn K (.ref c) x = true) (k : PySem.W.keepIn K (.ref f) = true)
    (lc : K.lookup c = some o) (t : tabOf o = some (.ref p)) (d : ∀ K' : PySem.W.Frag, K'.lookup c = some o → PySem.W.codeHdIn K' c p = true) (e : K.lookup p = none) (g : h.get? p = some (PySem.W.tabObj #[]))
    (b : ∀ (kV doc pm : Value) (an : Option Addr) (cdv ct : Value) (us : List Value), us.length = ps.length → bindArgs (PySem.W.fnOf x x (defArgs st) (defBody st) (defScope st) .none kV doc pm an cdv ct) ⟨us, []⟩ = pure (ps.zip us)) :
    Mkr K h mg x st ps c p := ⟨dfc_mk X G a l cc k b, PySem.W.codeHd_of_K X (d K lc), e, g⟩
theorem two {A B : Addr → Addr → Prop} {c p c2 p2 : Addr} (a : A c p) (b : B c2 p2) (n : (p != p2) = true) : ∃ c p c2 p2, A c p ∧ B c2 p2 ∧ p ≠ p2 := ⟨c, p, c2, p2, a, b, fun z => by
  rw [z] at n
  simp at n⟩
/-- the written part that is meant -/
abbrev kOf {K : PySem.W.Frag} {h : Heap} (_ : K.In h) : PySem.W.Frag := K
theorem const_mk {K : PySem.W.Frag} {h : Heap} {mg : Str → Option Value} (X : K.In h) (G : h.Ns mainGlobals mg) {x : Str} {i : Int} {t : Tok} (a : PySem.W.nsIn K mainGlobals x = some (some (.int i t))) : ∃ t, mg x = some (.int i t) := ⟨t, PySem.W.mg_of X G a⟩
/-- what the end asks of the law -/
def spEnd (K : PySem.W.Frag) (T : List (Addr × Str)) : Sp := fun vs H Q _ => ∃ (a : Addr) (ns : List Int), vs = [.ref a] ∧ SqL K H a (ns.map V.int) ∧ Tabs T H ∧ ∀ H', Q (.bl true) H'
/-- a list that no one writes may be told by its very object -/
theorem frozen {P : Program} {w : World} {K : PySem.W.Frag} {mg : Str → Option Value} {base : Heap} {k : Nat} {f : Addr} {fd : FuncData} {T : List (Addr × Str)} (F : FnOk P w K mg base CX0 k f fd ["script"] (spLaw K T)) : FnOk P w K mg base CX0 k f fd ["script"] (spEnd K T) := by
  refine ⟨fun vs H Q E h => ?_, fun A outer s H args us vs Q E hr e0 hb r h => ?_⟩
  · obtain ⟨a, ns, rfl, _⟩ := h
    rfl
  obtain ⟨a, ns, rfl, hS, hT, q⟩ := h
  rcases hS with (hS | ⟨o, hS⟩) | hS
  · obtain ⟨z, its, n, rv, ho⟩ := (show ObjOk P w H s.heap a (.lst (ns.map V.int)) from e0.hok a _ hS)
    have hne : ∀ b, H b = none ↔ upd H a (.frz { cls := .type "list", data := .seq its.toArray n } (.lst (ns.map V.int))) b = none := fun b => by
      by_cases e : b = a
      · subst e
        rw [hS, upd_same]
        exact ⟨fun z => (nomatch z), fun z => (nomatch z)⟩
      · rw [upd_ne e]
    have ext : ∀ b u, H b = some u → (∀ xs, u ≠ .lst xs) → upd H a (.frz { cls := .type "list", data := .seq its.toArray n } (.lst (ns.map V.int))) b = some u := fun b u e nu => by
      rw [upd_ne (fun z => by subst z; rw [hS] at e; exact nu _ (Option.some.inj e).symm)]
      exact e
    have hok : HOk P w (upd H a (.frz { cls := .type "list", data := .seq its.toArray n } (.lst (ns.map V.int)))) s.heap := fun b u e => by
      by_cases eb : b = a
      · subst eb
        rw [upd_same] at e
        cases e
        exact ⟨ho, z, its, n, rv, ho⟩
      · rw [upd_ne eb] at e
        exact (e0.hok b u e).stay (fun c v _ h => h) (fun c h => ext _ _ h (fun xs z => nomatch z)) (fun c xs h => ext _ _ h (fun xs z => nomatch z))
    have e1 : Env0 P w K mg base A outer s (upd H a (.frz { cls := .type "list", data := .seq its.toArray n } (.lst (ns.map V.int)))) :=
      ⟨e0.frames, e0.mod, fun b o e => ⟨(e0.bs b o e).1, (hne b).mp (e0.bs b o e).2⟩, e0.bsz, e0.funs, fun b h => (hne b).mp (e0.frf b h), hok, e0.bare⟩
    have hT1 : Tabs T (upd H a (.frz { cls := .type "list", data := .seq its.toArray n } (.lst (ns.map V.int)))) := Fix.tabs (fun b u e nu => ext b u e nu) hT
    refine codeAny_mono (F.run A outer s _ args us [.ref a] Q E hr e1 hb r ⟨a, ns, rfl, .inl ⟨_, upd_same⟩, hT1, q⟩) fun rr s' h => ?_
    cases rr with
    | error e => exact h
    | ok fl =>
      cases fl with
      | ret u =>
        obtain ⟨v, H', os, bare, un, hok', r', q'⟩ := h
        refine ⟨v, H', os, bare, ⟨fun b o e n => un.keep b o e ((hne b).mp n), fun b o e n => un.slot b o e ((hne b).mp n), fun b o e n => un.free b o e ((hne b).mp n), un.there, fun b xs e => un.tups b xs (ext b _ e (fun ys z => nomatch z)), fun b o u e => un.frzs b o u (ext b _ e (fun ys z => nomatch z)), fun b ps e => un.tbls b ps (ext b _ e (fun ys z => nomatch z))⟩, hok', r', q'⟩
      | next => exact h
      | brk => exact h
      | cont => exact h
  · exact F.run A outer s H args us [.ref a] Q E hr e0 hb r ⟨a, ns, rfl, .inl ⟨o, hS⟩, hT, q⟩
  · exact F.run A outer s H args us [.ref a] Q E hr e0 hb r ⟨a, ns, rfl, .inr fun H' => .inr hS, hT, q⟩
/-- the code object's file is the law's -/
def fileV (P : Program) : Option Value → Bool
  | some (Value.str file _) => (P.main.file : Str) == file
  | _ => false
def fileOk (P : Program) (o : Obj) : Bool := match o.data with
  | Data.fields vs => fileV P vs[2]?
  | _ => false
theorem fileOk_ex {P : Program} {K : PySem.W.Frag} {c : Addr} {o : Obj} (l : K.lookup c = some o) (h : fileOk P o = true) : ∃ (ccl : Value) (cdd : Option Addr) (vs : Array Value) (ccs : Array (Option Value)) (file : Str) (tf : Tok), K.lookup c = some ⟨ccl, cdd, .fields vs, ccs⟩ ∧ vs[2]? = some (.str file tf) ∧ ((P.main.file : Str) == file) = true := by
  obtain ⟨a, b, d, e⟩ := o
  unfold fileOk at h
  dsimp only at h
  split at h
  · rename_i vs0 vs
    cases hv : vs[2]? with
    | none =>
      rw [hv] at h
      cases h
    | some u =>
      rw [hv] at h
      cases u <;> first | (cases h; done) | skip
      rename_i file tf
      exact ⟨a, b, vs, e, file, tf, l, hv, h⟩
  · cases h
/-- the errors, as the top has left them -/
theorem errs_mk {K : PySem.W.Frag} {h : Heap} {mg : Str → Option Value} (P : Program) (X : K.In h) (G : h.Ns mainGlobals mg) {S c0 c1 c2 c3 : Addr} (aS : PySem.W.nsIn K mainGlobals "ShelfError" = some (some (.ref S)))
    (a0 : PySem.W.nsIn K mainGlobals "BadHabit" = some (some (.ref c0)))
    (a1 : PySem.W.nsIn K mainGlobals "BadLayout" = some (some (.ref c1)))
    (a2 : PySem.W.nsIn K mainGlobals "BadWord" = some (some (.ref c2)))
    (a3 : PySem.W.nsIn K mainGlobals "TooMany" = some (some (.ref c3)))
    (kp0 : PySem.W.keepIn K (.ref c0) = true) (b0 : PySem.W.subIn K (.ref c0) (.type "BaseException") = some true) (t0 : PySem.W.typeIn K (.ref c0) = some (.type "type"))
    (xg0 : PySem.W.findIn K (.ref c0) "__getattribute__" = some (some (.builtin "BaseException.__getattribute__"))) (xk0 : PySem.W.findIn K (.ref c0) "__getattr__" = some none) (xd0 : PySem.W.hasDictIn K c0 = true) (xa0 : PySem.W.findIn K (.ref c0) "__class__" = some (some (.builtin "object.__class__"))) (xm0 : PySem.W.mroIn K c0 (.type "object") = some true) (es0 : PySem.W.exmOne K (.ref c0) (.ref S) = some true)
    (q1 : PySem.W.excIn K c1 [.type "ValueError", .type "Exception", .type "BaseException", .type "object"] "ValueError.__new__" = true)
    (kp1 : PySem.W.keepIn K (.ref c1) = true) (b1 : PySem.W.subIn K (.ref c1) (.type "BaseException") = some true) (t1 : PySem.W.typeIn K (.ref c1) = some (.type "type"))
    (xg1 : PySem.W.findIn K (.ref c1) "__getattribute__" = some (some (.builtin "BaseException.__getattribute__"))) (xk1 : PySem.W.findIn K (.ref c1) "__getattr__" = some none) (xd1 : PySem.W.hasDictIn K c1 = true) (xa1 : PySem.W.findIn K (.ref c1) "__class__" = some (some (.builtin "object.__class__"))) (xm1 : PySem.W.mroIn K c1 (.type "object") = some true) (es1 : PySem.W.exmOne K (.ref c1) (.ref S) = some true)
    (q2 : PySem.W.excIn K c2 [.type "ValueError", .type "Exception", .type "BaseException", .type "object"] "ValueError.__new__" = true)
    (kp2 : PySem.W.keepIn K (.ref c2) = true) (b2 : PySem.W.subIn K (.ref c2) (.type "BaseException") = some true) (t2 : PySem.W.typeIn K (.ref c2) = some (.type "type"))
    (xg2 : PySem.W.findIn K (.ref c2) "__getattribute__" = some (some (.builtin "BaseException.__getattribute__"))) (xk2 : PySem.W.findIn K (.ref c2) "__getattr__" = some none) (xd2 : PySem.W.hasDictIn K c2 = true) (xa2 : PySem.W.findIn K (.ref c2) "__class__" = some (some (.builtin "object.__class__"))) (xm2 : PySem.W.mroIn K c2 (.type "object") = some true) (es2 : PySem.W.exmOne K (.ref c2) (.ref S) = some true)
    (kp3 : PySem.W.keepIn K (.ref c3) = true) (b3 : PySem.W.subIn K (.ref c3) (.type "BaseException") = some true) (t3 : PySem.W.typeIn K (.ref c3) = some (.type "type"))
    (xg3 : PySem.W.findIn K (.ref c3) "__getattribute__" = some (some (.builtin "BaseException.__getattribute__"))) (xk3 : PySem.W.findIn K (.ref c3) "__getattr__" = some none) (xd3 : PySem.W.hasDictIn K c3 = true) (xa3 : PySem.W.findIn K (.ref c3) "__class__" = some (some (.builtin "object.__class__"))) (xm3 : PySem.W.mroIn K c3 (.type "object") = some true) (es3 : PySem.W.exmOne K (.ref c3) (.ref S) = some true)
    (ex0_0 : PySem.W.exmOne K (.ref c0) (.ref c0) = some true)
    (ex1_0 : PySem.W.exmOne K (.ref c1) (.ref c0) = some false)
    (ex1_1 : PySem.W.exmOne K (.ref c1) (.ref c1) = some true)
    (ex3_0 : PySem.W.exmOne K (.ref c3) (.ref c0) = some false)
    (ex3_1 : PySem.W.exmOne K (.ref c3) (.ref c1) = some false)
    (ex3_3 : PySem.W.exmOne K (.ref c3) (.ref c3) = some true)
    (xn : PySem.W.specialIn K (.builtin "object.__class__") "__get__" = some (some (.builtin "getset_descriptor.__get__"))) (xt : PySem.W.takesIn K (.builtin "object.__class__") = some true)
    {nm0 q0 : Str} {N0 : Addr} {bs0 bm0 : List Value} {sn0 : List Str} {sub0 : List Value} {ab0 : Bool} {col0 : Option Bool} {dd0 : Option Addr} {m0_0 m1_0 m2_0 m3_0 m5_0 : Option Value} {f0 cc0 cda0 : Addr} {oc0 kV0 dc0 pm0 ct0 ccl0 : Value} {od0 an0 cdd0 : Option Addr} {sl0 csl0 : Array (Option Value)} {oo0 : Obj}
    (yL0 : K.lookup c0 = some (excClassObj nm0 q0 c0 N0 bs0 bm0 true sn0 sub0 ab0 col0 dd0 m0_0 m1_0 m2_0 m3_0 m5_0 "ValueError.__new__")) (yR0 : PySem.HandSPX.refsVE bm0 = true) (ysa0 : PySem.W.findIn K (.ref c0) "__setattr__" = some (some (.builtin "object.__setattr__"))) (yno0 : PySem.W.findIn K (.ref c0) "place" = some none)
    (yi0 : PySem.W.findIn K (.ref c0) "__init__" = some (some (.ref f0))) (yt0 : PySem.W.typeIn K (.ref f0) = some (.type "function")) (yl0 : K.lookup f0 = some ⟨oc0, od0, .func (PySem.W.fnX "__init__" "BadHabit.__init__" (defArgs st_e_BadHabit) (defBody st_e_BadHabit) (defScope st_e_BadHabit) [("__class__", cc0)] .none kV0 dc0 pm0 an0 (.ref cda0) ct0), sl0⟩) (yc0 : PySem.W.codeIn K (.ref cda0) "BadHabit.__init__" = true)
    (yo0 : K.lookup cda0 = some oo0) (yf0 : fileOk P oo0 = true) (yk0 : K.lookup cc0 = some ⟨ccl0, cdd0, .cell (some (.ref c0)), csl0⟩) (ym0 : PySem.W.mroIn K c0 (.ref c0) = some true)
    (ys0 : PySem.W.ks_superIn K c0 c0 "__init__" = some (some (.builtin "ValueError.__init__"))) (yv0 : PySem.W.subIn K (.ref c0) (.type "ValueError") = some true)
    {nm3 q3 : Str} {N3 : Addr} {bs3 bm3 : List Value} {sn3 : List Str} {sub3 : List Value} {ab3 : Bool} {col3 : Option Bool} {dd3 : Option Addr} {m0_3 m1_3 m2_3 m3_3 m5_3 : Option Value} {f3 cc3 cda3 : Addr} {oc3 kV3 dc3 pm3 ct3 ccl3 : Value} {od3 an3 cdd3 : Option Addr} {sl3 csl3 : Array (Option Value)} {oo3 : Obj}
    (yL3 : K.lookup c3 = some (excClassObj nm3 q3 c3 N3 bs3 bm3 true sn3 sub3 ab3 col3 dd3 m0_3 m1_3 m2_3 m3_3 m5_3 "ValueError.__new__")) (yR3 : PySem.HandSPX.refsVE bm3 = true) (ysa3 : PySem.W.findIn K (.ref c3) "__setattr__" = some (some (.builtin "object.__setattr__"))) (yno3 : PySem.W.findIn K (.ref c3) "most" = some none)
    (yi3 : PySem.W.findIn K (.ref c3) "__init__" = some (some (.ref f3))) (yt3 : PySem.W.typeIn K (.ref f3) = some (.type "function")) (yl3 : K.lookup f3 = some ⟨oc3, od3, .func (PySem.W.fnX "__init__" "TooMany.__init__" (defArgs st_e_TooMany) (defBody st_e_TooMany) (defScope st_e_TooMany) [("__class__", cc3)] .none kV3 dc3 pm3 an3 (.ref cda3) ct3), sl3⟩) (yc3 : PySem.W.codeIn K (.ref cda3) "TooMany.__init__" = true)
    (yo3 : K.lookup cda3 = some oo3) (yf3 : fileOk P oo3 = true) (yk3 : K.lookup cc3 = some ⟨ccl3, cdd3, .cell (some (.ref c3)), csl3⟩) (ym3 : PySem.W.mroIn K c3 (.ref c3) = some true)
    (ys3 : PySem.W.ks_superIn K c3 c3 "__init__" = some (some (.builtin "ValueError.__init__"))) (yv3 : PySem.W.subIn K (.ref c3) (.type "ValueError") = some true)
    (ya : PySem.W.nsIn K cStatics "thirdparty.any" = some none) (yg : PySem.W.nsIn K mainGlobals "super" = some none) (yp : (P.main.scope.names.lookup ("super" : Str)).isSome = false)
    : ∃ (S c0 c1 c2 c3 : Addr), (Sd K mg c0 c1 c3) ∧ (∀ w base, BhX P w K mg base "BadHabit" "place" c0 (spBI "place" c0)) ∧ (∀ w base, BhX P w K mg base "TooMany" "most" c3 (spBI "most" c3)) ∧ (ExO K mg "BadLayout" c1) ∧ (ExO K mg "BadWord" c2) := by
  have mS := PySem.W.mg_of X G aS
  have m0 := PySem.W.mg_of X G a0
  have m1 := PySem.W.mg_of X G a1
  have m2 := PySem.W.mg_of X G a2
  have m3 := PySem.W.mg_of X G a3
  have x0 : ExcC K c0 := ⟨xg0, xk0, b0, xd0, xa0, xn, xt, xm0⟩
  have x1 : ExcC K c1 := ⟨xg1, xk1, b1, xd1, xa1, xn, xt, xm1⟩
  have x2 : ExcC K c2 := ⟨xg2, xk2, b2, xd2, xa2, xn, xt, xm2⟩
  have x3 : ExcC K c3 := ⟨xg3, xk3, b3, xd3, xa3, xn, xt, xm3⟩
  have ox0 : OexC K c0 := ⟨⟨_, _, _, _, _, _, _, _, _, _, _, _, _, _, _, yL0, yR0⟩, ysa0, b0, t0, kp0⟩
  have M0 : SupC P K mg c0 "BadHabit.__init__" st_e_BadHabit f0 _ cc0 cda0 := ⟨ox0, ⟨_, _, _, _, _, _, _, _, rfl, yl0⟩, yc0, fileOk_ex yo0 yf0, ⟨_, _, _, yk0⟩, ym0, ya, ys0, yv0, PySem.W.mg_none_of X G yg, yp⟩
  have bh0 : ∀ w base, BhX P w K mg base "BadHabit" "place" c0 (spBI "place" c0) := fun w base => ⟨ox0, m0, f0, _, ok_BadHabit M0 yno0, yi0, yt0, .all fun us hl => match us, hl with | [_, _], _ => rfl⟩
  have ox3 : OexC K c3 := ⟨⟨_, _, _, _, _, _, _, _, _, _, _, _, _, _, _, yL3, yR3⟩, ysa3, b3, t3, kp3⟩
  have M3 : SupC P K mg c3 "TooMany.__init__" st_e_TooMany f3 _ cc3 cda3 := ⟨ox3, ⟨_, _, _, _, _, _, _, _, rfl, yl3⟩, yc3, fileOk_ex yo3 yf3, ⟨_, _, _, yk3⟩, ym3, ya, ys3, yv3, PySem.W.mg_none_of X G yg, yp⟩
  have bh3 : ∀ w base, BhX P w K mg base "TooMany" "most" c3 (spBI "most" c3) := fun w base => ⟨ox3, m3, f3, _, ok_TooMany M3 yno3, yi3, yt3, .all fun us hl => match us, hl with | [_, _], _ => rfl⟩
  have X1 : ExO K mg "BadLayout" c1 := ⟨q1, m1, kp1, b1, t1⟩
  have X2 : ExO K mg "BadWord" c2 := ⟨q2, m2, kp2, b2, t2⟩
  exact ⟨S, c0, c1, c2, c3, ⟨m0, m1, m3, ex0_0, ex1_0, ex1_1, ex3_0, ex3_1, ex3_3, ⟨xg3, xk3, b3, xd3⟩, yno3⟩, bh0, bh3, X1, X2⟩
theorem top {P : Program} {w : World} {K : PySem.W.Frag} {mg : Str → Option Value} {fa : Addr} (hfa : mg "law" = some (.ref fa)) (B : Bu mg) (c_FEWEST_PLACES : ∃ t, mg "FEWEST_PLACES" = some (.int 2 t)) (c_MOST_PLACES : ∃ t, mg "MOST_PLACES" = some (.int 5 t)) (c_MOST_TOUCHES : ∃ t, mg "MOST_TOUCHES" = some (.int 400 t)) (c_MOST_LAYOUTS : ∃ t, mg "MOST_LAYOUTS" = some (.int 120 t))
    {k1 p1 k2 p2 : Addr} (hpp : p1 ≠ p2)
    {c0 c1 c2 c3 : Addr} (Sd : Sd K mg c0 c1 c3) (b0 : ∀ base, BhX P w K mg base "BadHabit" "place" c0 (spBI "place" c0)) (b3 : ∀ base, BhX P w K mg base "TooMany" "most" c3 (spBI "most" c3)) (X1 : ExO K mg "BadLayout" c1) (X2 : ExO K mg "BadWord" c2)
    (F_is_integer : Df K mg "is_integer" st_is_integer ["value"])
    (F_is_number : Df K mg "is_number" st_is_number ["value", "low", "high"])
    (F_is_row : Df K mg "is_row" st_is_row ["value", "low", "high"])
    (F_is_place : Df K mg "is_place" st_is_place ["value", "places"])
    (F_are_places : Df K mg "are_places" st_are_places ["value", "places"])
    (F_is_layout : Df K mg "is_layout" st_is_layout ["value", "places"])
    (F_is_word : Df K mg "is_word" st_is_word ["value", "places"])
    (F_check_habit : Df K mg "check_habit" st_check_habit ["habit"])
    (F_check_layout : Df K mg "check_layout" st_check_layout ["layout", "places"])
    (F_check_word : Df K mg "check_word" st_check_word ["word", "places"])
    (F_places_of_habit : Df K mg "places_of_habit" st_places_of_habit ["habit"])
    (F_move : Df K mg "move" st_move ["habit", "layout", "place"])
    (F_move_along : Df K mg "move_along" st_move_along ["habit", "layout", "word"])
    (F_depths : Df K mg "depths" st_depths ["start", "touches", "step", "most"])
    (F_layout_depths : DfC K mg "layout_depths" st_layout_depths ["habit", "layout"] k1)
    (F_inverse : Df K mg "inverse" st_inverse ["row"])
    (F_beside : Df K mg "beside" st_beside ["one", "other"])
    (F_within : Df K mg "within" st_within ["outer", "inner"])
    (F_called : Df K mg "called" st_called ["habit", "order"])
    (F_backed : Df K mg "backed" st_backed ["habit"])
    (F_doubled : Df K mg "doubled" st_doubled ["habit"])
    (F_check_together : Df K mg "check_together" st_check_together ["places"])
    (F_house_moves : Df K mg "house_moves" st_house_moves ["houses", "house", "moves"])
    (F_after : Df K mg "after" st_after ["habit", "layout", "word"])
    (F_order : Df K mg "order" st_order ["habit"])
    (F__law_taken : Df K mg "_law_taken" st__law_taken ["row", "many"])
    (F__law_pick : Df K mg "_law_pick" st__law_pick ["row", "things"])
    (F__law_permutation : Df K mg "_law_permutation" st__law_permutation ["row", "many"])
    (F__law_habit : Df K mg "_law_habit" st__law_habit ["row", "many"])
    (F__law_said : Df K mg "_law_said" st__law_said ["work"])
    (F_law : DfC K mg "law" st_law ["script"] k2)
    : ∃ fd : FuncData, (∀ (s : Shared) (v : Value), BindsTo s fd ⟨[v], []⟩ [("script", v)]) ∧ ∀ base : Heap, TabB base mg k1 p1 → TabB base mg k2 p2 → FnOk P w K mg base CX0 10 fa fd ["script"] (spEnd K (tabsT p1 p2)) := by
  obtain ⟨f, oc, od, kV, doc, pm, an, ct, osl, lk, hcd, kp, g, b⟩ := F_law.ex
  have e := hfa.symm.trans g
  cases e
  refine ⟨PySem.W.fnOf "law" "law" (defArgs st_law) (defBody st_law) (defScope st_law) .none kV doc pm an (.ref k2) ct, fun s v => .of_eq rfl, fun base T1 T2 => ?_⟩
  · have C1 := ok_is_integerW (P := P) (w := w) (K := K) (base := base) F_is_integer B
    have C2 := ok_is_numberW F_is_number C1
    have CR := ok_is_rowW (P := P) (w := w) (K := K) (base := base) F_is_row B
    have C3 := ok_is_placeW F_is_place C2
    have C4 := ok_are_placesW F_are_places B C3
    have C5 := ok_is_layoutW F_is_layout B C4
    have CWd := ok_is_wordW F_is_word c_MOST_TOUCHES CR C4
    have CH := ok_check_habitX F_check_habit B c_FEWEST_PLACES c_MOST_PLACES (b0 base) CR C5
    have CL := ok_check_layoutX F_check_layout X1 C5
    have CW := ok_check_wordX F_check_word X2 CWd
    have CO := ok_places_of (P := P) (w := w) (K := K) (base := base) F_places_of_habit B
    have CM := ok_move (P := P) (w := w) (K := K) (base := base) F_move B
    have CMA := ok_move_al F_move_along CM
    have CLD := ok_ldepths (P := P) (w := w) F_layout_depths F_depths B T1 hpp c_MOST_LAYOUTS CO CM
    have CTg := ok_together F_check_together c_MOST_PLACES (b3 base)
    have CI := ok_inverse (P := P) (w := w) (K := K) (base := base) F_inverse B
    have CHs := ok_house (P := P) (w := w) (K := K) (base := base) F_house_moves B
    have CT := ok_taken (P := P) (w := w) (K := K) (base := base) F__law_taken B
    have CP := ok_lperm F__law_permutation B CT
    exact frozen (ok_law lk hcd F__law_said B T2 hpp Sd CT (ok_pick F__law_pick B CT) CP (ok_habF F__law_habit B CT CP) (ok_beside F_beside B CH CTg CO) (ok_within F_within B CH CTg CHs) (ok_called F_called B CH CL CI) (ok_backed F_backed B CH CI) (ok_doubled F_doubled B CH) (ok_afterG F_after B CH CL CW CMA) (ok_ordr F_order B CH CO CLD))
end RH
set_option Elab.async false
set_option linter.all false
open PySem PySem.W PyProof.Rows
set_option maxRecDepth 100000 in
set_option maxHeartbeats 0 in
theorem PySem.Challenge.cw_restlesshelf_k84_whole_joins_holds : PySem.Challenge.rw_restlesshelf_k84_whole_joins.Holds := by
  w_on; o_law; k_head; (case hw => w_witness2)
  k_fill
  refine LamX.walk_ofTs (l := PySem.Challenge.rw_restlesshelf_k84_whole_joins) (n := 63) (k := 10) (x := "script") (CX := fun _ => L2.CX0) rfl (by decide) rfl ⟨rfl, by decide, by decide⟩ (fun w h Y => PySem.W.km_in_of Y) ?F (fun _ _ _ _ _ h => h)
  case F =>
    intro w mg fa h Y KX G hmg
    have TT := PySem.W.km_tabs_of Y
    have B : RH.Bu mg := by
      refine' RH.Bu.mk (PySem.W.mg_none_of KX G ?z0) (PySem.W.mg_none_of KX G ?z1) (PySem.W.mg_none_of KX G ?z2) (PySem.W.mg_none_of KX G ?z3) (PySem.W.mg_none_of KX G ?z4) (PySem.W.mg_none_of KX G ?z5) (PySem.W.mg_none_of KX G ?z6) (PySem.W.mg_none_of KX G ?z7) (PySem.W.mg_none_of KX G ?z8) (PySem.W.mg_none_of KX G ?z9) (PySem.W.mg_none_of KX G ?z10) (PySem.W.mg_none_of KX G ?z11) (PySem.W.mg_none_of KX G ?z12)
      (case z0 => k_is); (case z1 => k_is); (case z2 => k_is); (case z3 => k_is); (case z4 => k_is); (case z5 => k_is); (case z6 => k_is); (case z7 => k_is); (case z8 => k_is); (case z9 => k_is); (case z10 => k_is); (case z11 => k_is); (case z12 => k_is)
    have c_FEWEST_PLACES : ∃ t, mg "FEWEST_PLACES" = some (.int 2 t) := by
      refine' RH.const_mk KX G ?a
      (case a => k_is)
    have c_MOST_PLACES : ∃ t, mg "MOST_PLACES" = some (.int 5 t) := by
      refine' RH.const_mk KX G ?a
      (case a => k_is)
    have c_MOST_TOUCHES : ∃ t, mg "MOST_TOUCHES" = some (.int 400 t) := by
      refine' RH.const_mk KX G ?a
      (case a => k_is)
    have c_MOST_LAYOUTS : ∃ t, mg "MOST_LAYOUTS" = some (.int 120 t) := by
      refine' RH.const_mk KX G ?a
      (case a => k_is)
    have F_is_integer : RH.Df (RH.kOf KX) mg "is_integer" RH.st_is_integer ["value"] := by
      refine' RH.df_mk KX G ?a ?l ?c ?k (fun _ _ _ _ _ _ us hl => match us, hl with | [_], _ => rfl)
      (case a => k_is); (case l => k_is); (case c => k_is); (case k => k_is)
    have F_is_number : RH.Df (RH.kOf KX) mg "is_number" RH.st_is_number ["value", "low", "high"] := by
      refine' RH.df_mk KX G ?a ?l ?c ?k (fun _ _ _ _ _ _ us hl => match us, hl with | [_, _, _], _ => rfl)
      (case a => k_is); (case l => k_is); (case c => k_is); (case k => k_is)
    have F_is_row : RH.Df (RH.kOf KX) mg "is_row" RH.st_is_row ["value", "low", "high"] := by
      refine' RH.df_mk KX G ?a ?l ?c ?k (fun _ _ _ _ _ _ us hl => match us, hl with | [_, _, _], _ => rfl)
      (case a => k_is); (case l => k_is); (case c => k_is); (case k => k_is)
    have F_is_place : RH.Df (RH.kOf KX) mg "is_place" RH.st_is_place ["value", "places"] := by
      refine' RH.df_mk KX G ?a ?l ?c ?k (fun _ _ _ _ _ _ us hl => match us, hl with | [_, _], _ => rfl)
      (case a => k_is); (case l => k_is); (case c => k_is); (case k => k_is)
    have F_are_places : RH.Df (RH.kOf KX) mg "are_places" RH.st_are_places ["value", "places"] := by
      refine' RH.df_mk KX G ?a ?l ?c ?k (fun _ _ _ _ _ _ us hl => match us, hl with | [_, _], _ => rfl)
      (case a => k_is); (case l => k_is); (case c => k_is); (case k => k_is)
    have F_is_layout : RH.Df (RH.kOf KX) mg "is_layout" RH.st_is_layout ["value", "places"] := by
      refine' RH.df_mk KX G ?a ?l ?c ?k (fun _ _ _ _ _ _ us hl => match us, hl with | [_, _], _ => rfl)
      (case a => k_is); (case l => k_is); (case c => k_is); (case k => k_is)
    have F_is_word : RH.Df (RH.kOf KX) mg "is_word" RH.st_is_word ["value", "places"] := by
      refine' RH.df_mk KX G ?a ?l ?c ?k (fun _ _ _ _ _ _ us hl => match us, hl with | [_, _], _ => rfl)
      (case a => k_is); (case l => k_is); (case c => k_is); (case k => k_is)
    have F_check_habit : RH.Df (RH.kOf KX) mg "check_habit" RH.st_check_habit ["habit"] := by
      refine' RH.df_mk KX G ?a ?l ?c ?k (fun _ _ _ _ _ _ us hl => match us, hl with | [_], _ => rfl)
      (case a => k_is); (case l => k_is); (case c => k_is); (case k => k_is)
    have F_check_layout : RH.Df (RH.kOf KX) mg "check_layout" RH.st_check_layout ["layout", "places"] := by
      refine' RH.df_mk KX G ?a ?l ?c ?k (fun _ _ _ _ _ _ us hl => match us, hl with | [_, _], _ => rfl)
      (case a => k_is); (case l => k_is); (case c => k_is); (case k => k_is)
    have F_check_word : RH.Df (RH.kOf KX) mg "check_word" RH.st_check_word ["word", "places"] := by
      refine' RH.df_mk KX G ?a ?l ?c ?k (fun _ _ _ _ _ _ us hl => match us, hl with | [_, _], _ => rfl)
      (case a => k_is); (case l => k_is); (case c => k_is); (case k => k_is)
    have F_places_of_habit : RH.Df (RH.kOf KX) mg "places_of_habit" RH.st_places_of_habit ["habit"] := by
      refine' RH.df_mk KX G ?a ?l ?c ?k (fun _ _ _ _ _ _ us hl => match us, hl with | [_], _ => rfl)
      (case a => k_is); (case l => k_is); (case c => k_is); (case k => k_is)
    have F_move : RH.Df (RH.kOf KX) mg "move" RH.st_move ["habit", "layout", "place"] := by
      refine' RH.df_mk KX G ?a ?l ?c ?k (fun _ _ _ _ _ _ us hl => match us, hl with | [_, _, _], _ => rfl)
      (case a => k_is); (case l => k_is); (case c => k_is); (case k => k_is)
    have F_move_along : RH.Df (RH.kOf KX) mg "move_along" RH.st_move_along ["habit", "layout", "word"] := by
      refine' RH.df_mk KX G ?a ?l ?c ?k (fun _ _ _ _ _ _ us hl => match us, hl with | [_, _, _], _ => rfl)
      (case a => k_is); (case l => k_is); (case c => k_is); (case k => k_is)
    have F_depths : RH.Df (RH.kOf KX) mg "depths" RH.st_depths ["start", "touches", "step", "most"] := by
      refine' RH.df_mk KX G ?a ?l ?c ?k (fun _ _ _ _ _ _ us hl => match us, hl with | [_, _, _, _], _ => rfl)
      (case a => k_is); (case l => k_is); (case c => k_is); (case k => k_is)
    have F_inverse : RH.Df (RH.kOf KX) mg "inverse" RH.st_inverse ["row"] := by
      refine' RH.df_mk KX G ?a ?l ?c ?k (fun _ _ _ _ _ _ us hl => match us, hl with | [_], _ => rfl)
      (case a => k_is); (case l => k_is); (case c => k_is); (case k => k_is)
    have F_beside : RH.Df (RH.kOf KX) mg "beside" RH.st_beside ["one", "other"] := by
      refine' RH.df_mk KX G ?a ?l ?c ?k (fun _ _ _ _ _ _ us hl => match us, hl with | [_, _], _ => rfl)
      (case a => k_is); (case l => k_is); (case c => k_is); (case k => k_is)
    have F_within : RH.Df (RH.kOf KX) mg "within" RH.st_within ["outer", "inner"] := by
      refine' RH.df_mk KX G ?a ?l ?c ?k (fun _ _ _ _ _ _ us hl => match us, hl with | [_, _], _ => rfl)
      (case a => k_is); (case l => k_is); (case c => k_is); (case k => k_is)
    have F_called : RH.Df (RH.kOf KX) mg "called" RH.st_called ["habit", "order"] := by
      refine' RH.df_mk KX G ?a ?l ?c ?k (fun _ _ _ _ _ _ us hl => match us, hl with | [_, _], _ => rfl)
      (case a => k_is); (case l => k_is); (case c => k_is); (case k => k_is)
    have F_backed : RH.Df (RH.kOf KX) mg "backed" RH.st_backed ["habit"] := by
      refine' RH.df_mk KX G ?a ?l ?c ?k (fun _ _ _ _ _ _ us hl => match us, hl with | [_], _ => rfl)
      (case a => k_is); (case l => k_is); (case c => k_is); (case k => k_is)
    have F_doubled : RH.Df (RH.kOf KX) mg "doubled" RH.st_doubled ["habit"] := by
      refine' RH.df_mk KX G ?a ?l ?c ?k (fun _ _ _ _ _ _ us hl => match us, hl with | [_], _ => rfl)
      (case a => k_is); (case l => k_is); (case c => k_is); (case k => k_is)
    have F_check_together : RH.Df (RH.kOf KX) mg "check_together" RH.st_check_together ["places"] := by
      refine' RH.df_mk KX G ?a ?l ?c ?k (fun _ _ _ _ _ _ us hl => match us, hl with | [_], _ => rfl)
      (case a => k_is); (case l => k_is); (case c => k_is); (case k => k_is)
    have F_house_moves : RH.Df (RH.kOf KX) mg "house_moves" RH.st_house_moves ["houses", "house", "moves"] := by
      refine' RH.df_mk KX G ?a ?l ?c ?k (fun _ _ _ _ _ _ us hl => match us, hl with | [_, _, _], _ => rfl)
      (case a => k_is); (case l => k_is); (case c => k_is); (case k => k_is)
    have F_after : RH.Df (RH.kOf KX) mg "after" RH.st_after ["habit", "layout", "word"] := by
      refine' RH.df_mk KX G ?a ?l ?c ?k (fun _ _ _ _ _ _ us hl => match us, hl with | [_, _, _], _ => rfl)
      (case a => k_is); (case l => k_is); (case c => k_is); (case k => k_is)
    have F_order : RH.Df (RH.kOf KX) mg "order" RH.st_order ["habit"] := by
      refine' RH.df_mk KX G ?a ?l ?c ?k (fun _ _ _ _ _ _ us hl => match us, hl with | [_], _ => rfl)
      (case a => k_is); (case l => k_is); (case c => k_is); (case k => k_is)
    have F__law_taken : RH.Df (RH.kOf KX) mg "_law_taken" RH.st__law_taken ["row", "many"] := by
      refine' RH.df_mk KX G ?a ?l ?c ?k (fun _ _ _ _ _ _ us hl => match us, hl with | [_, _], _ => rfl)
      (case a => k_is); (case l => k_is); (case c => k_is); (case k => k_is)
    have F__law_pick : RH.Df (RH.kOf KX) mg "_law_pick" RH.st__law_pick ["row", "things"] := by
      refine' RH.df_mk KX G ?a ?l ?c ?k (fun _ _ _ _ _ _ us hl => match us, hl with | [_, _], _ => rfl)
      (case a => k_is); (case l => k_is); (case c => k_is); (case k => k_is)
    have F__law_permutation : RH.Df (RH.kOf KX) mg "_law_permutation" RH.st__law_permutation ["row", "many"] := by
      refine' RH.df_mk KX G ?a ?l ?c ?k (fun _ _ _ _ _ _ us hl => match us, hl with | [_, _], _ => rfl)
      (case a => k_is); (case l => k_is); (case c => k_is); (case k => k_is)
    have F__law_habit : RH.Df (RH.kOf KX) mg "_law_habit" RH.st__law_habit ["row", "many"] := by
      refine' RH.df_mk KX G ?a ?l ?c ?k (fun _ _ _ _ _ _ us hl => match us, hl with | [_, _], _ => rfl)
      (case a => k_is); (case l => k_is); (case c => k_is); (case k => k_is)
    have F__law_said : RH.Df (RH.kOf KX) mg "_law_said" RH.st__law_said ["work"] := by
      refine' RH.df_mk KX G ?a ?l ?c ?k (fun _ _ _ _ _ _ us hl => match us, hl with | [_], _ => rfl)
      (case a => k_is); (case l => k_is); (case c => k_is); (case k => k_is)
    obtain ⟨S, c0, c1, c2, c3, Sd, b0, b3, X1, X2⟩ : ∃ (S c0 c1 c2 c3 : PySem.Addr), (RH.Sd (RH.kOf KX) mg c0 c1 c3) ∧ (∀ w base, RH.BhX (PySem.Challenge.rw_restlesshelf_k84_whole_joins).prog w (RH.kOf KX) mg base "BadHabit" "place" c0 (RH.spBI "place" c0)) ∧ (∀ w base, RH.BhX (PySem.Challenge.rw_restlesshelf_k84_whole_joins).prog w (RH.kOf KX) mg base "TooMany" "most" c3 (RH.spBI "most" c3)) ∧ (RH.ExO (RH.kOf KX) mg "BadLayout" c1) ∧ (RH.ExO (RH.kOf KX) mg "BadWord" c2) := by
      refine' Exists.elim (RH.errs_mk (PySem.Challenge.rw_restlesshelf_k84_whole_joins).prog KX G ?aS ?a0 ?a1 ?a2 ?a3 ?kp0 ?b0 ?t0 ?xg0 ?xk0 ?xd0 ?xa0 ?xm0 ?es0 ?q1 ?kp1 ?b1 ?t1 ?xg1 ?xk1 ?xd1 ?xa1 ?xm1 ?es1 ?q2 ?kp2 ?b2 ?t2 ?xg2 ?xk2 ?xd2 ?xa2 ?xm2 ?es2 ?kp3 ?b3 ?t3 ?xg3 ?xk3 ?xd3 ?xa3 ?xm3 ?es3 ?ex0_0 ?ex1_0 ?ex1_1 ?ex3_0 ?ex3_1 ?ex3_3 ?xn ?xt ?yL0 ?yR0 ?ysa0 ?yno0 ?yi0 ?yt0 ?yl0 ?yc0 ?yo0 ?yf0 ?yk0 ?ym0 ?ys0 ?yv0 ?yL3 ?yR3 ?ysa3 ?yno3 ?yi3 ?yt3 ?yl3 ?yc3 ?yo3 ?yf3 ?yk3 ?ym3 ?ys3 ?yv3 ?ya ?yg ?yp) (fun C hC => ⟨C, hC⟩)
      (case aS => k_is); (case a0 => k_is); (case a1 => k_is); (case a2 => k_is); (case a3 => k_is); (case kp0 => k_is); (case b0 => k_is); (case t0 => k_is)
      (case xg0 => k_is); (case xk0 => k_is); (case xd0 => k_is); (case xa0 => k_is); (case xm0 => k_is); (case es0 => kts_exm); (case q1 => k_exc); (case kp1 => k_is)
      (case b1 => k_is); (case t1 => k_is); (case xg1 => k_is); (case xk1 => k_is); (case xd1 => k_is); (case xa1 => k_is); (case xm1 => k_is); (case es1 => kts_exm)
      (case q2 => k_exc); (case kp2 => k_is); (case b2 => k_is); (case t2 => k_is); (case xg2 => k_is); (case xk2 => k_is); (case xd2 => k_is); (case xa2 => k_is)
      (case xm2 => k_is); (case es2 => kts_exm); (case kp3 => k_is); (case b3 => k_is); (case t3 => k_is); (case xg3 => k_is); (case xk3 => k_is); (case xd3 => k_is)
      (case xa3 => k_is); (case xm3 => k_is); (case es3 => kts_exm); (case ex0_0 => kts_exm); (case ex1_0 => kts_exm); (case ex1_1 => kts_exm); (case ex3_0 => kts_exm); (case ex3_1 => kts_exm)
      (case ex3_3 => kts_exm); (case xn => k_is); (case xt => k_is); (case yL0 => k_is); (case yR0 => first | rfl | decide +kernel | kernel_rfl); (case ysa0 => k_is); (case yno0 => k_is); (case yi0 => k_is)
      (case yt0 => k_is); (case yl0 => k_is); (case yc0 => k_is); (case yo0 => k_is); (case yf0 => first | rfl | decide +kernel | kernel_rfl); (case yk0 => k_is); (case ym0 => k_is); (case ys0 => ks_is)
      (case yv0 => k_is); (case yL3 => k_is); (case yR3 => first | rfl | decide +kernel | kernel_rfl); (case ysa3 => k_is); (case yno3 => k_is); (case yi3 => k_is); (case yt3 => k_is); (case yl3 => k_is)
      (case yc3 => k_is); (case yo3 => k_is); (case yf3 => first | rfl | decide +kernel | kernel_rfl); (case yk3 => k_is); (case ym3 => k_is); (case ys3 => ks_is); (case yv3 => k_is); (case ya => k_is)
      (case yg => k_is); (case yp => first | rfl | decide +kernel | kernel_rfl)
    obtain ⟨k1, p1, k2, p2, M1, M2, hpp⟩ : ∃ k1 p1 k2 p2, RH.Mkr (RH.kOf KX) h mg "layout_depths" RH.st_layout_depths ["habit", "layout"] k1 p1 ∧ RH.Mkr (RH.kOf KX) h mg "law" RH.st_law ["script"] k2 p2 ∧ p1 ≠ p2 := by
      refine' RH.two (RH.mkr KX G ?a ?l ?c ?k ?lc ?t ?d ?e ?g (fun _ _ _ _ _ _ us hl => match us, hl with | [_, _], _ => rfl)) (RH.mkr KX G ?a2 ?l2 ?c2 ?k2 ?lc2 ?t2 ?d2 ?e2 ?g2 (fun _ _ _ _ _ _ us hl => match us, hl with | [_], _ => rfl)) ?n
      (case a => k_is); (case l => k_is); (case c => k_is); (case k => k_is); (case lc => k_is); (case t => rfl); (case e => first | rfl | kernel_rfl | (with_unfolding_all rfl)); (case g => exact TT _ (by decide)); (case d => exact fun K' e => by unfold PySem.W.codeHdIn; rw [e]; rfl)
      (case a2 => k_is); (case l2 => k_is); (case c2 => k_is); (case k2 => k_is); (case lc2 => k_is); (case t2 => rfl); (case e2 => first | rfl | kernel_rfl | (with_unfolding_all rfl)); (case g2 => exact TT _ (by decide)); (case d2 => exact fun K' e => by unfold PySem.W.codeHdIn; rw [e]; rfl)
      (case n => decide)
    obtain ⟨F_layout_depths, hk1, hl1, hm1⟩ := M1
    obtain ⟨F_law, hk2, hl2, hm2⟩ := M2
    obtain ⟨fd, hb, hF⟩ := RH.top (P := (PySem.Challenge.rw_restlesshelf_k84_whole_joins).prog) (w := w) hmg B c_FEWEST_PLACES c_MOST_PLACES c_MOST_TOUCHES c_MOST_LAYOUTS hpp Sd (b0 w) (b3 w) X1 X2 F_is_integer F_is_number F_is_row F_is_place F_are_places F_is_layout F_is_word F_check_habit F_check_layout F_check_word F_places_of_habit F_move F_move_along F_depths F_layout_depths F_inverse F_beside F_within F_called F_backed F_doubled F_check_together F_house_moves F_after F_order F__law_taken F__law_pick F__law_permutation F__law_habit F__law_said F_law
    refine ⟨fd, [(k1, p1), (k2, p2)], RH.spEnd (RH.kOf KX) (RH.tabsT p1 p2), ?_, ?_, ?_, hb, ?_, ?_⟩
    · intro p hp
      rcases List.mem_cons.mp hp with e | hp
      · rw [e]; exact hm1
      · rw [List.mem_singleton.mp hp]; exact hm2
    · intro p hp
      rcases List.mem_cons.mp hp with e | hp
      · rw [e]; exact hl1
      · rw [List.mem_singleton.mp hp]; exact hl2
    · intro p hp
      rcases List.mem_cons.mp hp with e | hp
      · rw [e]; exact hk1
      · rw [List.mem_singleton.mp hp]; exact hk2
    · intro H a ns _ _ hH hS
      refine ⟨a, ns, rfl, hS, fun p hp => ?_, fun _ => rfl⟩
      rcases List.mem_cons.mp hp with e | hp
      · rw [e]; exact LamX.TabS.nil (hH (k1, p1) (List.mem_cons_self ..))
      · rw [List.mem_singleton.mp hp]; exact LamX.TabS.nil (hH (k2, p2) (List.mem_cons_of_mem _ (List.mem_singleton.mpr rfl)))
    · intro base _ _ TB
      exact hF base (TB (k1, p1) (List.mem_cons_self ..)) (TB (k2, p2) (List.mem_cons_of_mem _ (List.mem_singleton.mpr rfl)))
