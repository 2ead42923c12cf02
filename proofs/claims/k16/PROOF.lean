import PyProof.Rows.All
import Wide.All
import OpenK.AllK
import Wide.FinOn
import HandS.ForMost
import HandS.Exc
import HandS.TryOnly
import HandS.ExcOwn
import HandS.WordsExc
import HandS.IsInst
import HandS.Conv
import HandS.Sort
import HandS.SortInts
import HandS.Zip
import HandS.Zip0
import HandS.Wide
import HandS.Deep
import HandS.Flow
import HandS.Style
import HandS.TupAny
import KE.GoesEnum
import KE.KEqSeq
import KE.KEqDeep
import PyProof.TupleOfSeq
import HandS.Lambda
import HandS.Nested
import HandS.EndTab
import KE.KDictDisplayH
import KE.KDictCopyH
import KE.KIndexOf
import HandS.Dict
import HandS.DictTup
import HandS.TupLen
import HandS.Defaults
import HandS.SortRule
import KE.GoesZip
import HandS.ExcIs
import HandS.RaiseMore
import HandS.FStr
import HandS.Property
import KE.KExcSuper
import HandS.ExcInit
import HandS.ExcField
import HandS.TupMul
import PyProof.FString2
import PySem.Challenge.RW_restlesshelf_k16_apart_refused
set_option Elab.async false
set_option linter.all false
set_option maxRecDepth 100000
set_option maxHeartbeats 2000000
/-! Two rules more: a walk over enumerate of a tuple, sorted of a tuple of ints. -/
namespace RH
open PySem PySem.Spec PyProof.Rows L2
theorem made_enumB {v : Value} {o : Obj} {H : Heap → Prop} (B : Begins v o H) :
    Meets (Builtin.«enumerate.__new__» ⟨[.type "enumerate", v], []⟩) (fun _ R s => H s.heap ∧
      R (.ok (.ret (.ref (s.heap.push o).objs.size))) { s with heap := (s.heap.push o).push { cls := .type "enumerate", data := .fields #[.none, .bool false, .ref s.heap.objs.size, rawInt 0, .none, .none] } }) :=
  .of_wp fun prog w A R s h => by
    obtain ⟨hp, g, d, tz, oz⟩ := s; obtain ⟨h1, h⟩ := h
    have hsub := sub_enumerate
    have q1 : ∀ {A' : Around} {E : Value → Shared → Prop} {Q : Value → Shared → Prop}, Q (.ref hp.objs.size) ⟨hp.push o, g, d, tz, oz⟩ → wpAny (model prog w) A' (pyIter v) Q E ⟨hp, g, d, tz, oz⟩ :=
      fun q => B.iter prog w _ _ ⟨hp, g, d, tz, oz⟩ _ h1 q
    wp_walk using q1
    refine wpAny_stack_any fun st => wpAny_pure ?_
    split
    · rename_i c _ _ _ _ _
      cases (c == Value.type "enumerate")
      · wp_walk using q1
        exact ⟨_, rfl, h⟩
      · wp_walk using q1
        exact ⟨_, rfl, h⟩
    · wp_walk using q1
      exact ⟨_, rfl, h⟩
section
variable {prog : Program} {w : World} {A : Around} {E : Value → Shared → Prop} {s : Shared}
theorem enum_one {v : Value} {o : Obj} {H : Heap → Prop} {Q : Value → Shared → Prop} (B : Begins v o H) (h1 : H s.heap)
    (h : ∀ h', IsEnum h' (s.heap.objs.size + 1) s.heap.objs.size 0 .none → h'.get? s.heap.objs.size = some o → h'.objs.size = s.heap.objs.size + 2 →
      (∀ b o, s.heap.get? b = some o → h'.get? b = some o) → Q (.ref (s.heap.objs.size + 1)) { s with heap := h' }) :
    wpAny (model prog w) A (call (.type "enumerate") [v]) Q E s := by
  refine callType_new F.called_enumerate (by decide) (F.typeCall_enumerate_1 _) (F.newCall_enumerate_1 _) (fun obj => F.args_object_init_2 obj _) F.entry_enumerate_new
    (made_enumB B) ⟨h1, ?_⟩
  have hZ : (s.heap.push o).objs.size = s.heap.objs.size + 1 := Heap.size_push ..
  show _ ∧ _
  rw [hZ]
  have he : IsEnum ((s.heap.push o).push { cls := .type "enumerate", data := .fields #[.none, .bool false, .ref s.heap.objs.size, rawInt 0, .none, .none] }) (s.heap.objs.size + 1) s.heap.objs.size 0 .none := by
    have := Heap.get?_push_size (s.heap.push o) (o := { cls := .type "enumerate", data := .fields #[.none, .bool false, .ref s.heap.objs.size, rawInt 0, .none, .none] }) rfl
    rw [hZ] at this; exact this
  refine ⟨⟨_, he, rfl⟩, h _ he (Heap.get?_push_of_some _ (Heap.get?_push_size _ B.free)) (by rw [Heap.size_push, hZ]) fun b o x => Heap.get?_push_of_some _ (Heap.get?_push_of_some _ x)⟩
end
/-- the tuple at a, each item with vz number in a new pair -/
def IteT (K : PySem.W.Frag) (a : Addr) : It :=
  ⟨fun i H => ∃ (xs : List V) (x : V), SqT K H a xs ∧ xs[i]? = some x, fun i H v H' => ∃ T x, v = .ref T ∧ H T = none ∧ H' = upd H T (.tup [.int (i : Nat), x]) ∧ ∀ xs, SqT K H a xs → xs[i]? = some x, fun i H => ∃ xs : List V, SqT K H a xs ∧ xs.length ≤ i⟩
theorem ne_enum {h : Heap} {e it a : Addr} {i : Int} {old : Value} {vz : Array Value} (he : IsEnum h e it i old) (p : IsTup h a vz) : e ≠ a := fun z => by
  obtain ⟨o, hO, hC, _⟩ := p
  rw [← z, he] at hO
  cases hO
  exact absurd (Value.type.inj hC) (by decide)
theorem turn_enumT {P : Program} {w : World} {K : PySem.W.Frag} {elts : List Expr} {kk : Nat} {tpos : Pos} (a e it : Addr) :
    Turn P w K (.Tuple elts kk tpos) (IteT K a) [e, it] e (fun i h => (∃ old, IsEnum h e it ((i : Nat) : Int) old) ∧ h.IsTupleIter it a i ∧ e ≠ it ∧ a ≠ it) where
  mem := by simp
  obj := fun i h st b hb => by
    obtain ⟨⟨old, he⟩, ⟨o, hO, hC, hD⟩, _⟩ := st
    have e' : b = e ∨ b = it := by simpa using hb
    rcases e' with z | z
    · rw [z]; exact ⟨_, he, fun v q => nomatch q⟩
    · rw [z]; exact ⟨o, hO, fun v q => by rw [hD] at q; cases q⟩
  keep := fun i h h' st k => let ⟨⟨old, he⟩, hi, nEI⟩ := st; ⟨⟨old, k e (by simp) _ he⟩, hi.at fun o q => k it (by simp) o q, nEI⟩
  item := by
    intro X hP hw hK hC i pins s σ H E I hf st hg
    subst hP hw hK
    obtain ⟨⟨old, he⟩, hIt, nEI, nAI⟩ := st
    obtain ⟨xs, x, hSq, hx⟩ := hg
    obtain ⟨vz, rz, p, hZ⟩ := I.tuple hSq
    obtain ⟨u, hu, ru⟩ := rz.get hx
    have ltE : e < s.heap.objs.size := Heap.lt_size he
    have ltI : it < s.heap.objs.size := by obtain ⟨_, q, _⟩ := hIt; exact Heap.lt_size q
    have hlt : i < vz.toArray.size := by
      have := (List.getElem?_eq_some_iff.mp hu).1
      simpa using this
    refine wpAny_pyNext_enum_itemD (Draws.tuple (show X.A.in1.handled = none from I.ok.hd hC) it a nAI vz.toArray) he ⟨hIt, p⟩ hlt nEI (by
      intro hm
      have e' : e = it ∨ e = a := by simpa using hm
      rcases e' with z | z
      · exact nEI z
      · exact ne_enum he p z) fun x' h' tz hP' hO hit' hT hSz kp => ?_
    have ex : x' = u := by
      have h2 : vz.toArray[i]? = some u := by simpa using hu
      rw [h2] at hP'
      exact (Option.some.inj hP').symm
    subst ex
    refine ⟨_, rfl, wpAny_letOwnedTupleGo_enum (s := { s with heap := h', toks := tz + 1 }) hO fun h'' he' sbu => ?_⟩
    have hT2 : h''.get? s.heap.objs.size = some { cls := .type "tuple", data := .seq #[.int i tz, x'] } := (sbu.2 _ (Nat.ne_of_gt ltE)).trans hT
    have new : ObjOk X.prog X.w (upd H s.heap.objs.size (.tup [.int (i : Nat), x])) h'' s.heap.objs.size (.tup [.int (i : Nat), x]) :=
      ⟨by show 2 ≤ sizeLine; decide, [.int i tz, x'], .cons ⟨_, rfl⟩ (.cons ru .nil), ⟨_, hT2, rfl, _, rfl⟩⟩
    have I1 : Inv X pins σ (upd H s.heap.objs.size (.tup [.int (i : Nat), x])) { s with heap := h'', toks := tz + 1 } :=
      I.turnedNew (ch := [e, it]) (fun b ob hb q => (sbu.2 b (fun z => hb (by simp [z]))).trans (kp b ob (fun z => hb (by simp [z])) (fun z => hb (by simp [z])) q)) hf (Nat.le_refl _) new
    refine ⟨.ref s.heap.objs.size, _, I1, rfl, ⟨_, x, rfl, I.hok.fresh (Nat.le_refl _), rfl, fun ys hy => by rw [I.tuple_inj hy hSq]; exact hx⟩, ⟨⟨x', ?_⟩, hit'.1.at fun o q => (sbu.2 it (Ne.symm nEI)).trans q, nEI, nAI⟩, fun b hb => ?_⟩
    · have e1 : ((i + 1 : Nat) : Int) = (i : Int) + 1 := by omega
      rw [e1]; exact he'
    · have hb' : b < s.heap.objs.size := by
        have e' : b = e ∨ b = it := by simpa using hb
        rcases e' with z | z
        · rw [z]; exact ltE
        · rw [z]; exact ltI
      rw [upd_ne (Nat.ne_of_lt hb')]
      exact (hf b hb).1
  done := by
    intro X hP hw hK hC i pins s σ H E I hf st hg
    subst hP hw hK
    obtain ⟨⟨old, he⟩, hIt, nEI, nAI⟩ := st
    obtain ⟨xs, hSq, hx⟩ := hg
    obtain ⟨vz, rz, p, hZ⟩ := I.tuple hSq
    obtain ⟨f0, f1, f2, f3, f4, f5⟩ := hf it (by simp)
    have hl := rz.length
    have hT : s.TypeIs (.ref e) "enumerate" := ⟨_, he, rfl⟩
    unfold pyNext
    refine wpAny_bind (wpAny_attempt (wpAny_callSpecial?_slot (name := Str.ofString "__next__") hT F.slot_enumerate_next
      (wpAny_call_entry F.slot_enumerate_next hT F.entry_enumerate_next ?_ (F.args_enumerate_next_1 _))))
    show wpAny _ _ (field (.ref e) 2 >>= _) _ _ _
    refine wpAny_bind (wpAny_field he rfl (x := .ref it) rfl ?_)
    refine wpAny_bind (wpAny_nextOf_tuple_end (show X.A.in1.handled = none from I.ok.hd hC) hIt p (by simp; omega) fun h' x he' hx' => ?_)
    obtain ⟨o, hO, hc'⟩ := hx'
    refine wpAny_bind (wpAny_isInstance (T := "StopIteration") (b := true) ⟨o, hO, hc'⟩ isSubtype_stop ?_)
    exact wpAny_pure ⟨rfl, I.turned (t' := s.toks) (fun b o hb q => he' b o hb q) f0 f1 f3 f4 f5⟩
  self := fun A i s Q E st h => let ⟨⟨_, he⟩, _⟩ := st; wpAny_pyIter_enum he h
def iEnumT (K : PySem.W.Frag) (ta : TA) : TI := fun σ H R => ta σ H fun vs H1 => ∃ a xs, vs = [.ref a] ∧ SqT K H1 a xs ∧ R (IteT K a) H1
theorem pi_enumT {X : Cx} {e : Expr} {ta : TA} {p pos tpos : Pos} {elts : List Expr} {kk : Nat} (hg : Gl X "enumerate") (hm : X.mg "enumerate" = none) (ha : PA X [e] ta) (hs : starEach [e] X.env = [(false, eval e X.env)] := by rfl) :
    PI X (.Tuple elts kk tpos) (.Call (.Name "enumerate" p) [e] [] pos) (iEnumT X.K ta) := by
  refine ⟨fun pins s σ H R I h => ?_⟩
  refine Call_ (ld_blt I hg hm boot_enumerate (PyProof.Rows.callWith_type1 (thn (ha.run pos pins s σ H _ I h) fun us s1 ⟨vs, H1, I1, r1, q1⟩ => ?_) hs rfl))
  obtain ⟨a, xs, ex, hSq, q⟩ := q1
  subst ex
  cases r1 with
  | cons r rr =>
    cases rr
    cases r
    obtain ⟨vz, rz, p', hZ⟩ := I1.tuple hSq
    have hal : a < s1.heap.objs.size := by obtain ⟨_, q', _⟩ := id p'; exact Heap.lt_size q'
    refine enum_one (begins_tuple a vz.toArray) p' fun h' he hIt hSz kp => wpAny_pyIter_enum he ?_
    have I2 : Inv X pins σ H1 { s1 with heap := h' } := I1.kept (t' := s1.toks) kp
    refine ⟨s1.heap.objs.size + 1, [s1.heap.objs.size + 1, s1.heap.objs.size], _, _, H1, rfl, I2, turn_enumT a (s1.heap.objs.size + 1) s1.heap.objs.size, ⟨⟨.none, he⟩, ⟨_, hIt, rfl, rfl⟩, Nat.succ_ne_self _, Nat.ne_of_lt hal⟩, fun b hb => ?_, q⟩
    have e' : b = s1.heap.objs.size + 1 ∨ b = s1.heap.objs.size := by simpa using hb
    have hle : s1.heap.objs.size ≤ b := by
      rcases e' with z | z
      · rw [z]; exact Nat.le_add_right _ _
      · rw [z]; exact Nat.le_refl _
    exact I1.fpOk hle (I1.hok.fresh hle)
/-! ### sorted(a tuple of ints) -/
def rSortedTup (K : PySem.W.Frag) : List V → Hp → VK → Prop := fun vs H Q => ∃ (a : Addr) (ns : List Int), vs = [V.ref a] ∧ SqT K H a (ns.map V.int) ∧ ns.length < 64 ∧
  ∀ (ns' : List Int) (p : Addr), ns'.Perm ns → ns'.Pairwise (· ≤ ·) → H p = none → Q (.ref p) (upd H p (.lst (ns'.map V.int)))
section
variable {prog : Program} {w : World} {A : Around} {E : Value → Shared → Prop} {s : Shared}
theorem collect_tup {l : Addr} {vs : List Value} {Q : List Value → Shared → Prop} (hl : IsTup s.heap l vs.toArray)
    (h : Q vs { s with heap := (s.heap.push (seqObj "list" #[] 0)).update s.heap.objs.size (Obj.mapSeq (· ++ vs.toArray)) }) (hSz : vs.length ≤ sizeLine := by size_fits) :
    wpAny (model prog w) A (collect (.ref l)) Q E s := by
  obtain ⟨o, hO, hC, n, hD⟩ := id hl
  unfold collect
  refine wpAny_bind (wpAny_runValue (codeAny_builtin F.entry_proto_collect ?_))
  rw [Around.under_plainId F.plain_proto_collect _]
  show wpAny _ A.in1 (newList [] >>= fun l' => again (.builtin "list.__iadd__" ⟨[l', .ref l], []⟩)) _ _ s
  refine wpAny_bind (wpAny_newList (wpAny_pure ⟨plainId_quiet F.plain_list_iadd _, codeAny_builtin F.entry_list_iadd ?_⟩))
  rw [Around.under_plainId F.plain_list_iadd _]
  show wpAny _ _ (Builtin.List.listExtendWith (.ref s.heap.objs.size) (.ref l) (.ref s.heap.objs.size)) _ _ { s with heap := s.heap.push (seqObj "list" #[] 0) }
  unfold Builtin.List.listExtendWith
  have ho' : (s.heap.push (seqObj "list" #[] 0)).get? l = some o := Heap.get?_push_of_some _ hO
  refine wpAny_bind (wpAny_typeOf (T := "tuple") ⟨o, ho', hC⟩ ?_)
  have hT0 : (Value.type "tuple" == Value.type "tuple") = true := by rfl
  rw [if_pos (by rw [hT0]; simp)]
  refine wpAny_bind (listItems_at ho' hD ?_)
  refine wpAny_bind (listItems_at (xs := #[]) (n := 0) (Heap.get?_push_size _ rfl) rfl ?_)
  rw [if_neg (by simp)]
  refine wpAny_bind (listUpdate_at (xs := #[]) (n := 0) (Heap.get?_push_size _ rfl) rfl ?_ (Nat.zero_le _) (by show (#[] ++ vs.toArray).size ≤ sizeLine + 1; simp only [Array.size_append, List.size_toArray, List.length_nil]; omega))
  refine wpAny_pure ?_
  show wpAny (model prog w) A (do
      let o ← load s.heap.objs.size
      match o.data with
      | .seq xs _ => pure xs.toList
      | _ => unsupported "internal:collect") Q E { s with heap := (s.heap.push (seqObj "list" #[] 0)).update s.heap.objs.size (Obj.mapSeq (· ++ vs.toArray)) }
  refine wpAny_bind (wpAny_load (get?_update_seq (Heap.get?_push_size _ rfl) _) ?_)
  show wpAny _ _ (pure ((#[] : Array Value) ++ vs.toArray).toList) Q E _
  rw [show ((#[] : Array Value) ++ vs.toArray).toList = vs by simp]
  exact wpAny_pure h
theorem sorted_intsT {l : Addr} {vs : List Value} {ns : List Int} {Q : Value → Shared → Prop} (hl : IsTup s.heap l vs.toArray) (hI : IntsAre vs ns) (h64 : vs.length < 64)
    (h : ∀ (out : Array Value) (ns' : List Int), IntsAre out.toList ns' → ns'.Perm ns → ns'.Pairwise (· ≤ ·) → Q (.ref (s.heap.objs.size + 1)) { s with heap := sortedAll s.heap vs out }) :
    wpAny (model prog w) A (call (.builtin "sorted") [.ref l]) Q E s := by
  refine Calls.call_function_entry kind_sorted plain_sorted entry_sorted (args_sorted1 _) ?_
  unfold Builtin.«sorted»
  refine wpAny_bind (m := checkCount "sorted" 1 1 _) (wpAny_pure ?_)
  have hsz0 : vs.length ≤ sizeLine := by
    rw [sizeLine_eq]
    omega
  refine wpAny_bind (collect_tup (hSz := hsz0) hl ?_)
  refine wpAny_bind (wpAny_newList ?_)
  have hSz : ((s.heap.push (seqObj "list" #[] 0)).update s.heap.objs.size (Obj.mapSeq (· ++ vs.toArray))).objs.size = s.heap.objs.size + 1 := by
    rw [Heap.size_update, size_push']
  have hOL : (((s.heap.push (seqObj "list" #[] 0)).update s.heap.objs.size (Obj.mapSeq (· ++ vs.toArray))).push (seqObj "list" vs.toArray 0)).get? (s.heap.objs.size + 1) = some (seqObj "list" vs.toArray 0) := by
    rw [← hSz]; exact Heap.get?_push_size _ rfl
  show wpAny _ _ _ _ _ { s with heap := ((s.heap.push (seqObj "list" #[] 0)).update s.heap.objs.size (Obj.mapSeq (· ++ vs.toArray))).push (seqObj "list" vs.toArray 0) }
  rw [hSz]
  refine wpAny_bind (wpAny_holding (wpAny_call_entry slot_list_sort ⟨_, hOL, rfl⟩ entry_list_sort (list_sort_tree hOL hI h64 fun out ns' a1 a2 a3 => ⟨_, rfl, ?_⟩) (args_list_sort _)))
  exact wpAny_pure ⟨_, rfl, h out ns' a1 a2 a3⟩
end
theorem cr_sortedTup {X : Cx} : CallR X (.builtin "sorted") (rSortedTup X.K) := by
  intro pins s σ H vs us Q I r h
  obtain ⟨a, ns, rfl, hs, h64, q⟩ := h
  obtain ⟨vz, rz, hl, _⟩ := I.tuple hs
  rw [Vals.ref1 r]
  have hi := rz.ints
  refine sorted_intsT hl hi (by rw [hi.length]; exact h64) fun out ns' h1 h2 h3 => ?_
  obtain ⟨ep, he'⟩ := PyProof.Rows.sortedAll_at s.heap vz out
  have hLn : (ns'.map V.int).length ≤ sizeLine := by rw [List.length_map, h2.length_eq]; exact small64 h64
  exact ⟨.ref _, upd H (s.heap.objs.size + 1) (.lst (ns'.map V.int)), I.laid (t' := s.toks) (fun _ _ => PyProof.Rows.sortedAll_old) (Nat.le_succ _) ⟨hLn, out.toList, ep, vals_of_ints h1, he'⟩, rfl, q ns' _ h2 h3 (I.hok.fresh (Nat.le_succ _))⟩
end RH
set_option Elab.async false
set_option linter.all false
set_option maxRecDepth 100000
set_option maxHeartbeats 2000000
/-! Lambdas with parameters and captured names, as values: made, handed to a def of the text, called there. -/
namespace RH
open PySem PySem.Spec PyProof.Rows L2
open LamX (Tabs TabS TabB ExtN CodeO codeO_ne inv_table among_app)
open NdefX (NF CellsAt NScope startF ncx inv_startN codeO_at slotAt Caps cells_of upd_none)
/-- a lambda's words, what it captured, its code object -/
structure LF where
  qual : Str
  params : Arguments
  body : Expr
  scope : Scope
  cl : List (Str × Addr)
  c : Addr
abbrev LF.fd (F : LF) (pm ctv : Value) : FuncData := PySem.W.kla_fn "<lambda>" F.qual F.params F.body F.scope F.cl pm (.ref F.c) ctv
abbrev LF.nf (F : LF) : NF := ⟨"<lambda>", F.qual, F.params, [], F.scope, F.cl, F.c⟩
/-- the object at f is this lambda -/
def FnL (f : Addr) (F : LF) : HO := .ext fun h => ∃ (od : Option Addr) (sl : Array (Option Value)) (pm ctv : Value), h.get? f = some (⟨.type "function", od, .func (F.fd pm ctv), sl⟩ : Obj)
theorem fnL_ne {f : Addr} {F : LF} (ps : Array Value) : FnL f F ≠ .tbl ps := fun z => by
  unfold FnL at z
  cases z
theorem fnL_at {P : Program} {w : World} {H : Hp} {h : Heap} {f : Addr} {F : LF} (hok : HOk P w H h) (e : H f = some (FnL f F)) : ∃ (od : Option Addr) (sl : Array (Option Value)) (pm ctv : Value), h.get? f = some (⟨.type "function", od, .func (F.fd pm ctv), sl⟩ : Obj) := (hok f _ e).1
section
variable {X : Cx} {pins : List (Addr × Obj)} {σ : L2.St} {H : Hp} {s : Shared}
theorem inv_lam {F : LF} {h' : Heap} {t' : Nat} {pm ctv : Value} (I : Inv X pins σ H { s with heap := h', toks := t' }) :
    Inv X pins σ (upd H h'.objs.size (FnL h'.objs.size F)) { s with heap := h'.push { cls := .type "function", data := .func (F.fd pm ctv) }, toks := t' } := by
  refine I.laid (t' := t') (a := h'.objs.size) (fun b u e => Heap.get?_push_of_some _ e) (Nat.le_refl _) ?_
  have e : (h'.push ({ cls := .type "function", data := .func (F.fd pm ctv) } : Obj)).get? h'.objs.size = some ({ cls := .type "function", data := .func (F.fd pm ctv) } : Obj) := Heap.get?_push_size _ rfl
  exact ⟨⟨_, _, pm, ctv, e⟩, ⟨_, e⟩, fun h1 h2 ⟨od, sl, p, t, z⟩ st => ⟨od, sl, p, t, st _ z⟩⟩
/-- the lambda is made -/
theorem lam_made {T : List (Addr × Str)} {c P : Addr} {params : Arguments} {body : Expr} {scope : Scope} {pos : Pos} {E : Value → Shared → Prop} {Q : Value → Shared → Prop} (I : Inv X pins σ H s) (TB : TabB X.base X.mg c P) (hcode : X.env.code = .ref c)
    (hm : (P, X.env.qual ++ "<lambda>") ∈ T) (hu : ∀ p ∈ T, p.1 = P → p.2 = X.env.qual ++ "<lambda>") (hT : Tabs T H) (hdef : defaultsOf params X.env = ([], [])) (hfree : ∀ y ∈ scope.names, y.2 = .free → ∃ c, X.env.cells.lookup y.1 = some c)
    (h : ∀ (f c' : Addr) (H1 : Hp) (s' : Shared), Inv X pins σ H1 s' → ExtN H H1 → (∀ b, H1 b = none → H b = none) → Tabs T H1 → H f = none →
      H1 f = some (FnL f ⟨X.env.qual ++ "<lambda>", params, body, scope, cloFrom X.env.cells scope.names [], c'⟩) → H1 c' = some (CodeO c' (X.env.qual ++ "<lambda>")) → Q (.ref f) s') :
    wpAny (model X.prog X.w) X.A (eval (.Lambda params body scope pos) X.env) Q E s := by
  obtain ⟨ps, hP, ht, ha⟩ := hT _ hm
  refine PySem.W.kla_eval hdef ?_
  have bP : s.heap.BuiltinsAt X.mg P := TB.bm.keeps I.bk
  have hP' : s.heap.get? P = some { cls := .none, data := .fields ps } := I.hok P _ hP
  cases hc : codeAmong pos ps.toList with
  | none =>
    refine PySem.W.kla_makeFunction (mg := X.mg) (c := c) (P := P) (ps := ps) (closure_ok hfree) I.ok.glob (I.mod.glob.keeps I.bk) hcode (TB.code.keeps I.bk) hP' ht hc TB.gP bP fun c' ctv h' tk hx hge hlt hrec htb => ?_
    obtain ⟨c2, oc, vs, t, e2, hoc, hd, hv⟩ := hrec
    cases e2
    have nC : H c' = none := I.hok.fresh hge
    have I1 := inv_table (t' := tk) (more := #[rawInt pos.line, rawInt pos.col, .ref c']) (h' := h') I hP (fun b o hb e => hx b o hb e) htb hge ⟨oc, vs, t, hoc, hd, hv⟩
    generalize hG : upd (upd H P (.tbl (ps ++ #[rawInt pos.line, rawInt pos.col, .ref c']))) c' (CodeO c' (X.env.qual ++ "<lambda>")) = G at I1
    have hE : ExtN H G := fun b o e n => by
      rw [← hG, upd_ne (ne_of_none e nC), upd_ne (fun z => n ps (Option.some.inj (e.symm.trans (by rw [z]; exact hP))))]
      exact e
    have gP : G P = some (.tbl (ps ++ #[rawInt pos.line, rawInt pos.col, .ref c'])) := by rw [← hG, upd_ne (ne_of_none hP nC), upd_same]
    have gC : G c' = some (CodeO c' (X.env.qual ++ "<lambda>")) := by rw [← hG, upd_same]
    have gO : ∀ b ps', b ≠ P → H b = some (.tbl ps') → G b = some (.tbl ps') := fun b ps' nb e => by
      rw [← hG, upd_ne (ne_of_none e nC), upd_ne nb]
      exact e
    have gN : ∀ b, G b = none → H b = none := fun b e => by
      rw [← hG] at e
      exact upd_none (upd_none e)
    have eL : (ps ++ #[rawInt pos.line, rawInt pos.col, .ref c']).toList = ps.toList ++ [rawInt pos.line, rawInt pos.col, .ref c'] := by simp
    have T1 : Tabs T G := fun p hp => by
      by_cases hb : p.1 = P
      · rw [hu p hp hb, hb]
        refine ⟨_, gP, by rw [eL]; exact PySem.TriplesOk_snoc _ _ _ _ ht, fun p' cv hcv => ?_⟩
        rw [eL] at hcv
        rcases among_app _ ht hcv with z | z
        · obtain ⟨c0, e1, e2⟩ := ha p' cv z
          exact ⟨c0, e1, hE _ _ e2 codeO_ne⟩
        · exact ⟨c', z, gC⟩
      · obtain ⟨ps', a1, a2, a3⟩ := hT p hp
        refine ⟨ps', gO _ _ hb a1, a2, fun p' cv hcv => ?_⟩
        obtain ⟨c0, e1, e2⟩ := a3 p' cv hcv
        exact ⟨c0, e1, hE _ _ e2 codeO_ne⟩
    have nF : G h'.objs.size = none := I1.hok.fresh (Nat.le_refl _)
    have I2 := inv_lam (F := ⟨X.env.qual ++ "<lambda>", params, body, scope, cloFrom X.env.cells scope.names [], c'⟩) (pm := (X.mg "__name__").getD .none) (ctv := ctv) I1
    refine h h'.objs.size c' _ _ I2 (fun b o e n => ?_) (fun b e => gN b (upd_none e)) (T1.ext fun b o e => ?_) (gN _ nF) upd_same ?_
    · have e1 := hE b o e n
      exact (upd_ne (ne_of_none e1 nF)).trans e1
    · exact (upd_ne (ne_of_none e nF)).trans e
    · exact (upd_ne (ne_of_none gC nF)).trans gC
  | some cv =>
    obtain ⟨c', e, hco⟩ := ha pos cv hc
    subst e
    refine PySem.W.kla_makeFunctionHit (mg := X.mg) (c := c) (P := P) (ps := ps) (closure_ok hfree) I.ok.glob (I.mod.glob.keeps I.bk) hcode (TB.code.keeps I.bk) hP' ht hc bP fun ctv h' tk hx hsz => ?_
    have I1 : Inv X pins σ H { s with heap := h', toks := tk } := I.kept hx
    have nF : H h'.objs.size = none := I1.hok.fresh (Nat.le_refl _)
    have I2 := inv_lam (F := ⟨X.env.qual ++ "<lambda>", params, body, scope, cloFrom X.env.cells scope.names [], c'⟩) (pm := (X.mg "__name__").getD .none) (ctv := ctv) I1
    refine h h'.objs.size c' _ _ I2 (fun b o e n => ?_) (fun b e => upd_none e) (hT.ext fun b o e => ?_) nF upd_same ?_
    · exact (upd_ne (ne_of_none e nF)).trans e
    · exact (upd_ne (ne_of_none e nF)).trans e
    · exact (upd_ne (ne_of_none hco nF)).trans hco
end
/-- lambda a, b: .. as a value -/
def tLamE (T : List (Addr × Str)) (mk : Addr → LF) : TE := fun _ H Q => Tabs T H ∧ ∀ (f c' : Addr) (H1 : Hp), ExtN H H1 → (∀ b, H1 b = none → H b = none) → Tabs T H1 → H f = none → H1 f = some (FnL f (mk c')) → H1 c' = some (CodeO c' (mk c').qual) → Q (.ref f) H1
theorem pe_lam {X : Cx} {T : List (Addr × Str)} {c P : Addr} {params : Arguments} {body : Expr} {scope : Scope} {pos : Pos} (TB : TabB X.base X.mg c P) (hcode : X.env.code = .ref c)
    (hm : (P, X.env.qual ++ "<lambda>") ∈ T) (hu : ∀ p ∈ T, p.1 = P → p.2 = X.env.qual ++ "<lambda>") (hdef : defaultsOf params X.env = ([], []))
    (hfree : ∀ y ∈ scope.names, y.2 = .free → X.env.scope.names.lookup y.1 = some .cell ∨ X.env.scope.names.lookup y.1 = some .free) :
    PE X (.Lambda params body scope pos) (tLamE T fun c' => ⟨X.env.qual ++ "<lambda>", params, body, scope, cloFrom X.env.cells scope.names [], c'⟩) := by
  refine ⟨fun pins s σ H Q I h => ?_⟩
  obtain ⟨hT, q⟩ := h
  refine lam_made I TB hcode hm hu hT hdef (fun y hy e => (hfree y hy e).elim (fun z => I.ok.has _ (.inl z)) fun z => I.ok.has _ (.inr z)) fun f c' H1 s' I' e n T' hf h1 h2 => ?_
  exact ⟨.ref f, H1, I', rfl, q f c' H1 e n T' hf h1 h2⟩
/-! ### what a lambda promises -/
structure LOk (P : Program) (w : World) (K : PySem.W.Frag) (mg : Str → Option Value) (base : Heap) (CX : CXT) (k : Nat) (f : Addr) (F : LF) (ps fr : List Str) (sp : List (Option V) → Sp) : Prop where
  len : ∀ ws vs H Q E, sp ws vs H Q E → vs.length = ps.length
  run : ∀ (A : Around) (outer : List Env) (s : Shared) (H : Hp) (us : List Value) (vs : List V) (ws : List (Option V)) (Q : VK) (E : XK), Room k A → Env0 P w K mg base A outer s H → H f = some (FnL f F) → H F.c = some (CodeO F.c F.qual) →
    CellsAt F.cl fr ws s.heap H → Vals vs us → sp ws vs H Q E → codeAny (model P w) A (.call (.ref f) ⟨us, []⟩) (CR CX outer P w H s Q E) s
section
variable {CX : CXT} {P : Program} {w : World} {K : PySem.W.Frag} {mg : Str → Option Value} {base : Heap} {N ps fr : List Str} {F : LF} {f : Addr} {k j : Nat} {sp : List (Option V) → Sp}
/-- a lambda by its body -/
theorem lok_of (S : NScope N ps fr F.scope) (hb : ∀ (pm ctv : Value) (us : List Value), us.length = ps.length → bindArgs (F.fd pm ctv) ⟨us, []⟩ = pure (ps.zip us)) (len : ∀ ws vs H Q E, sp ws vs H Q E → vs.length = ps.length)
    (hbody : ∀ (A : Around) (outer : List Env) (s : Shared) (H : Hp) (vs : List V) (ws : List (Option V)) (Q : VK) (E : XK), Room k (A.deeper (NdefX.envF F.nf f s.heap.objs.size)) → ws.length = fr.length → sp ws vs H Q E →
      ∃ t, PE (ncx CX P w K mg base N F.nf f A outer s H E) F.body t ∧ t (startF N vs ws) H Q) :
    LOk P w K mg base CX (k + 1) f F ps fr sp := by
  refine ⟨len, fun A outer s H us vs ws Q E hr e0 hf hc C r hsp => ?_⟩
  have hl := len _ _ _ _ _ hsp
  have lim : s.heap.NoLimit := e0.mod.nolimit.keeps fun b o e => (e0.bs b o e).1
  obtain ⟨od, sl, pm, ctv, ho⟩ := fnL_at e0.hok hf
  refine PySem.W.kla_callFunE hr.depth ho rfl S.co S.gen rfl (codeO_at e0.hok hc) ?_
  rw [hb pm ctv us (by rw [← r.length]; exact hl)]
  refine wpAny_pure (wpAny_newFunctionEnv S.nocell (fun ⟨n, _⟩ hy => S.par n (List.of_mem_zip hy).1) (fun h₁ hns hsb => ⟨lim.fresh _ hsb, ?_⟩) S.kind)
  show codeAny _ _ (.expr F.body (NdefX.envF F.nf f s.heap.objs.size)) _ _
  have kp : ∀ b o, s.heap.get? b = some o → h₁.get? b = some o := fun b o e => hsb.extBut b o (Nat.ne_of_lt (Heap.lt_size e)) (Heap.get?_push_of_some _ e)
  obtain ⟨t, ht, hq⟩ := hbody A outer s H vs ws Q E (hr.deeper _) C.len hsp
  have I : Inv (ncx CX P w K mg base N F.nf f A outer s H E) [] (startF N vs ws) H { s with heap := h₁, toks := s.toks + (ps.zip us).length } := inv_startN (F := F.nf) S hr.hd e0 hl r C hns kp
  refine PySem.W.kla_codeExpr (wpAny_mono (ht.run [] _ (startF N vs ws) H Q I hq) (fun v s' hs => ?_) fun e s' hs => hs)
  obtain ⟨v', H', J, rv, q⟩ := hs
  exact ⟨v', H', J.os, J.bare, J.base, J.hok, rv, q⟩
end
/-! ### a def that is handed things that can be called -/
end RH
set_option Elab.async false
set_option linter.all false
set_option maxRecDepth 100000
set_option maxHeartbeats 2000000
/-! Dicts with tuples for keys: one pair written out, their values; where an int stands in a tuple. -/
set_option Elab.async false
set_option linter.all false
set_option maxRecDepth 100000
set_option maxHeartbeats 2000000
/-! Tuples told by their very object, and dicts whose keys are such tuples of ints. -/
namespace RH
open PySem PySem.Spec PyProof.Rows L2
def keyOf (s : List Int) : List L2.Key := s.map Sum.inl
theorem keyOf_kV (s : List Int) : (keyOf s).map kV = s.map V.int := by
  unfold keyOf
  rw [List.map_map]
  rfl
theorem mapInt_inj : ∀ {s t : List Int}, s.map V.int = t.map V.int → s = t
  | [], [], _ => rfl
  | [], _ :: _, e => by simp at e
  | _ :: _, [], e => by simp at e
  | a :: s, b :: t, e => by
    rw [List.map_cons, List.map_cons] at e
    injection e with e1 e2
    rw [V.int.inj e1, mapInt_inj e2]
theorem keyOf_inj {s t : List Int} (h : keyOf s = keyOf t) : s = t := by
  have e : (keyOf s).map kV = (keyOf t).map kV := by rw [h]
  rw [keyOf_kV, keyOf_kV] at e
  exact mapInt_inj e
/-- b is a tuple of these ints -/
def KX (H : Hp) (b : Addr) (s : List Int) : Prop := Rd H b (.tup (s.map V.int))
/-- the same, and its very object is known, one without a dict -/
def FT (H : Hp) (b : Addr) (s : List Int) : Prop := ∃ ob, H b = some (.frz ob (.tup (s.map V.int))) ∧ ob.dict = none
theorem FT.kx {H : Hp} {b : Addr} {s : List Int} (h : FT H b s) : KX H b s := let ⟨ob, h, _⟩ := h; .inr ⟨ob, h⟩
inductive XS : List (List Int × V) → List Addr → List (List L2.Key × Addr × Value) → Prop
  | nil : XS [] [] []
  | cons {q : List Int × V} {b : Addr} {u : Value} {as : List (List Int × V)} {bs : List Addr} {xs : List (List L2.Key × Addr × Value)} : RelV q.2 u → XS as bs xs → XS (q :: as) (b :: bs) ((keyOf q.1, b, u) :: xs)
inductive KB (H : Hp) : List (List Int × V) → List Addr → Prop
  | nil : KB H [] []
  | cons {q : List Int × V} {b : Addr} {as : List (List Int × V)} {bs : List Addr} : KX H b q.1 → KB H as bs → KB H (q :: as) (b :: bs)
theorem KB.snoc {H : Hp} {q : List Int × V} {b : Addr} (h : KX H b q.1) : ∀ {as : List (List Int × V)} {bs : List Addr}, KB H as bs → KB H (as ++ [q]) (bs ++ [b])
  | _, _, .nil => .cons h .nil
  | _, _, .cons g t => .cons g (t.snoc h)
theorem KB.imp {H H' : Hp} (f : ∀ b s, KX H b s → KX H' b s) : ∀ {as : List (List Int × V)} {bs : List Addr}, KB H as bs → KB H' as bs
  | _, _, .nil => .nil
  | _, _, .cons g t => .cons (f _ _ g) (t.imp f)
theorem XS.len : ∀ {as : List (List Int × V)} {bs : List Addr} {xs : List (List L2.Key × Addr × Value)}, XS as bs xs → xs.length = as.length
  | _, _, _, .nil => rfl
  | _, _, _, .cons _ t => congrArg (· + 1) t.len
theorem XS.snoc {q : List Int × V} {b : Addr} {u : Value} (h : RelV q.2 u) : ∀ {as : List (List Int × V)} {bs : List Addr} {xs : List (List L2.Key × Addr × Value)}, XS as bs xs → XS (as ++ [q]) (bs ++ [b]) (xs ++ [(keyOf q.1, b, u)])
  | _, _, _, .nil => .cons h .nil
  | _, _, _, .cons g t => .cons g (t.snoc h)
theorem atKey_neg {x : List L2.Key × Addr × Value} {xs : List (List L2.Key × Addr × Value)} {k : List L2.Key} (e : ¬ x.1 = k) : atKey (x :: xs) k = atKey xs k := by simp [atKey, List.find?_cons, e]
theorem XS.no {s : List Int} : ∀ {as : List (List Int × V)} {bs : List Addr} {xs : List (List L2.Key × Addr × Value)}, XS as bs xs → s ∉ as.map Prod.fst → atKey xs (keyOf s) = none
  | _, _, _, .nil, _ => rfl
  | _, _, _, .cons g t, h => (atKey_neg fun e => h (by rw [← keyOf_inj e]; exact List.mem_cons_self ..)).trans (t.no fun z => h (List.mem_cons_of_mem _ z))
/-- the dict at d: as with its values, bs its keys' tuples -/
abbrev DE (P : Program) (w : World) (as : List (List Int × V)) (bs : List Addr) (d : Addr) : HO := .ext fun h => (d == sysModules) = false ∧ as.length ≤ sizeLine ∧ ∃ xs : List (List L2.Key × Addr × Value), XS as bs xs ∧
  ∃ o es ep, h.get? d = some o ∧ o.ExactDict ∧ o.data = .dict es ep ∧ es.toList = xs.map (entryOfKey (tupleKind (mixKind P w))) ∧ (xs.map (·.1)).Nodup
theorem DE.ok {P : Program} {w : World} {H : Hp} {h : Heap} {as : List (List Int × V)} {bs : List Addr} {d : Addr} {xs : List (List L2.Key × Addr × Value)} (hd : (d == sysModules) = false) (hl : as.length ≤ sizeLine) (hx : XS as bs xs) (dd : h.DictOfH (tupleKind (mixKind P w)) d xs) : ObjOk P w H h d (DE P w as bs d) := by
  obtain ⟨o, es, ep, h1, h2, h3, h4, _, h5⟩ := dd
  refine ⟨⟨hd, hl, xs, hx, o, es, ep, h1, h2, h3, h4, h5⟩, ⟨o, h1⟩, fun h1 h2 ⟨a1, a2, xs, a3, o, es, ep, b1, b2⟩ k => ⟨a1, a2, xs, a3, o, es, ep, k _ b1, b2⟩⟩
/-! ### the rules -/
section
variable {X : Cx} {o i k v value : Expr} {pos pos' tpos : Pos} {td ty tk tv : TE}
/-- tuple(xs) of a list, told by its very object -/
def kTupF (K : PySem.W.Frag) (x : V) (H : Hp) (Q : VK) : Prop := ∃ p xs, x = .ref p ∧ SqL K H p xs ∧ ∀ q ob, H q = none → ob.dict = none → Q (.ref q) (upd H q (.frz ob (.tup xs)))
theorem pe_tupleF {a : Expr} {ta : TE} {p : Pos} (hg : Gl X "tuple") (hm : X.mg "tuple" = none) (ha : PE X a ta) (na : starEach [a] X.env = (false, eval a X.env) :: starEach [] X.env := by rfl) : PE X (.Call (.Name "tuple" p) [a] [] pos) (tThen ta (kTupF X.K)) := by
  refine ⟨fun pins s σ H Q I h => ?_⟩
  refine Call_ (ld_blt I hg hm boot_tuple (PyProof.Rows.callWith_type1 (one_arg ha I h (fun v s2 x H2 I2 r q => ?_) na) na))
  obtain ⟨p, xs, rfl, hs, q⟩ := q
  obtain rfl : v = .ref p := r
  obtain ⟨its, rv, pl, hz⟩ := I2.list hs
  refine call_tuple_list pl.isList (fun h' hk => ?_) (by rw [List.size_toArray, ← rv.length]; exact hz)
  have I3 : Inv X pins σ H2 { s2 with heap := h' } := I2.kept (t' := s2.toks) hk
  have e : (h'.push { cls := .type "tuple", data := .seq its.toArray }).get? h'.objs.size = some { cls := .type "tuple", data := .seq its.toArray } := Heap.get?_push_size _ rfl
  have I4 : Inv X pins σ (upd H2 h'.objs.size (.frz { cls := .type "tuple", data := .seq its.toArray } (.tup xs))) { s2 with heap := h'.push { cls := .type "tuple", data := .seq its.toArray } } :=
    I3.laid (t' := s2.toks) (fun b o e => Heap.get?_push_of_some _ e) (Nat.le_refl _) ⟨e, hz, its, rv, IsTup.new _ _⟩
  exact ⟨.ref h'.objs.size, _, I4, rfl, q _ _ (I3.hok.fresh (Nat.le_refl _)) rfl⟩
end
end RH
set_option Elab.async false
set_option linter.all false
set_option maxRecDepth 100000
set_option maxHeartbeats 2000000
/-! Sorted lists of tuples of ints, of any length; more rules for dicts whose keys are such tuples. -/
namespace RH
open PySem PySem.Spec PyProof.Rows L2
open SrtO (Swo Srtd Stb SortableO Cmp lt2)
open TS (TupInts intsOf code Bd lex_ints firsts_of)
/-- below 10, by the digits -/
def ltL (s t : List Int) : Bool := decide (code 10 s < code 10 t)
theorem swo_by {α : Type} (f : α → Int) : Swo fun x y : α => decide (f x < f y) := by
  refine ⟨fun x y h => ?_, fun x y z h1 h2 => ?_⟩
  · simp only [decide_eq_true_eq] at h
    simp only [decide_eq_false_iff_not]
    omega
  · simp only [decide_eq_false_iff_not] at *
    omega
theorem ltL_swo : Swo ltL := swo_by (code 10)
/-- each of xs is a tuple of the ints -/
inductive EX (H : Hp) : List V → List (List Int) → Prop
  | nil : EX H [] []
  | cons {b : Addr} {s : List Int} {xs : List V} {ls : List (List Int)} : KX H b s → EX H xs ls → EX H (.ref b :: xs) (s :: ls)
theorem EX.len {H : Hp} : ∀ {xs : List V} {ls : List (List Int)}, EX H xs ls → xs.length = ls.length
  | _, _, .nil => rfl
  | _, _, .cons _ t => congrArg (· + 1) t.len
theorem EX.imp {H H' : Hp} (f : ∀ b s, KX H b s → KX H' b s) : ∀ {xs : List V} {ls : List (List Int)}, EX H xs ls → EX H' xs ls
  | _, _, .nil => .nil
  | _, _, .cons g t => .cons (f _ _ g) (t.imp f)
theorem EX.snoc {H : Hp} {b : Addr} {s : List Int} (h : KX H b s) : ∀ {xs : List V} {ls : List (List Int)}, EX H xs ls → EX H (xs ++ [.ref b]) (ls ++ [s])
  | _, _, .nil => .cons h .nil
  | _, _, .cons g t => .cons g (t.snoc h)
theorem EX.at {H : Hp} : ∀ {xs : List V} {ls : List (List Int)} {i : Nat} {s : List Int}, EX H xs ls → ls[i]? = some s → ∃ b, xs[i]? = some (V.ref b) ∧ KX H b s
  | _, _, _, _, .nil, e => by simp at e
  | _, _, 0, _, .cons h _, e => by
    cases Option.some.inj e
    exact ⟨_, rfl, h⟩
  | _, _, i + 1, _, .cons _ t, e => t.at (i := i) e
/-- what sorted makes of tuples of the ints ls -/
def SoT (H : Hp) (ls : List (List Int)) (ys : List V) (ls' : List (List Int)) : Prop := Srtd ltL ls' ∧ Stb ltL ls' ls ∧ EX H ys ls' ∧ ls'.length = ls.length
theorem SoT.one {H H' : Hp} {ls a b : List (List Int)} {ys zs : List V} (h1 : SoT H ls ys a) (h2 : SoT H' ls zs b) : a = b :=
  SrtO.stb_uniq ltL_swo h1.1 h2.1 ⟨h1.2.1.perm.trans h2.2.1.perm.symm, fun x => (h1.2.1.cls x).trans (h2.2.1.cls x).symm⟩
end RH
set_option Elab.async false
set_option linter.all false
set_option maxRecDepth 100000
set_option maxHeartbeats 2000000
namespace RH
open PySem PySem.Spec PyProof.Rows L2
open SrtO (Swo Srtd Stb SortableO Cmp lt2)
open TS (TupInts intsOf code Bd lex_ints firsts_of)
theorem KB.ex {H : Hp} : ∀ {as : List (List Int × V)} {bs : List Addr}, KB H as bs → EX H (bs.map V.ref) (as.map Prod.fst)
  | _, _, .nil => .nil
  | _, _, .cons g t => .cons g t.ex
/-! ### get, in, a new one, [..] = -/
end RH
set_option Elab.async false
set_option linter.all false
set_option maxRecDepth 100000
set_option maxHeartbeats 2000000
/-! Lambdas that a def hands back: the cells that they caught are tracked from then on. -/
namespace RH
open PySem PySem.Spec PyProof.Rows L2
open LamX (Tabs TabS TabB ExtN CodeO codeO_ne)
open NdefX (NF CellsAt NScope startF ncx codeO_at slotAt Caps cells_of)
/-- the cell at c holds v -/
def CellO (c : Addr) (v : V) : HO := .ext fun h => ∃ u, L2.RelV v u ∧ h.IsCell c (some u)
theorem cellO_ne {c : Addr} {v : V} : (∀ y, CellO c v ≠ .own y) ∧ (∀ xs, CellO c v ≠ .tup xs) ∧ (∀ o u, CellO c v ≠ .frz o u) ∧ (∀ ps, CellO c v ≠ .tbl ps) := by
  unfold CellO
  exact ⟨fun _ z => (nomatch z), fun _ z => (nomatch z), fun _ _ z => (nomatch z), fun _ z => (nomatch z)⟩
theorem cellO_ok {P : Program} {w : World} {H : Hp} {h : Heap} {c : Addr} {v : V} (q : ∃ u, L2.RelV v u ∧ h.IsCell c (some u)) : ObjOk P w H h c (CellO c v) :=
  ⟨q, let ⟨_, _, o, e, _⟩ := q; ⟨o, e⟩, fun _ _ ⟨u, r, o, e, d⟩ st => ⟨u, r, o, st o e, d⟩⟩
abbrev CL := List (Addr × V)
/-- without the cells, with them -/
def era (l : CL) (H : Hp) : Hp := fun b => match l.lookup b with
  | some _ => none
  | none => H b
def lay (l : CL) (H : Hp) : Hp := fun b => match l.lookup b with
  | some v => some (CellO b v)
  | none => H b
theorem era_in {l : CL} {H : Hp} {b : Addr} {v : V} (e : l.lookup b = some v) : era l H b = none := by
  unfold era
  rw [e]
theorem era_no {l : CL} {H : Hp} {b : Addr} (e : l.lookup b = none) : era l H b = H b := by
  unfold era
  rw [e]
theorem lay_in {l : CL} {H : Hp} {b : Addr} {v : V} (e : l.lookup b = some v) : lay l H b = some (CellO b v) := by
  unfold lay
  rw [e]
theorem lay_no {l : CL} {H : Hp} {b : Addr} (e : l.lookup b = none) : lay l H b = H b := by
  unfold lay
  rw [e]
/-- the cells stand -/
def Stand (l : CL) (H : Hp) : Prop := ∀ b v, l.lookup b = some v → H b = some (CellO b v)
theorem Stand.ext {l : CL} {H H' : Hp} (s : Stand l H) (e : ExtN H H') : Stand l H' := fun b v q => e b _ (s b v q) cellO_ne.2.2.2
theorem Stand.same {l : CL} {H H' : Hp} (s : Stand l H) (e : Same H H') : Stand l H' := fun b v q => e b _ (s b v q)
theorem Stand.lay (l : CL) (H : Hp) : Stand l (lay l H) := fun _ _ q => lay_in q
theorem Stand.cases {l : CL} {H : Hp} (s : Stand l H) {b : Addr} {o : HO} (e : H b = some o) : (∃ v, l.lookup b = some v ∧ o = CellO b v) ∨ (l.lookup b = none ∧ era l H b = some o) := by
  cases q : l.lookup b with
  | some v => exact .inl ⟨v, rfl, Option.some.inj (e.symm.trans (s b v q))⟩
  | none => exact .inr ⟨rfl, (era_no q).trans e⟩
theorem Stand.tup {l : CL} {H : Hp} (s : Stand l H) {b : Addr} {xs : List V} (e : H b = some (.tup xs)) : era l H b = some (.tup xs) := by
  rcases s.cases e with ⟨v, _, z⟩ | ⟨_, z⟩
  · exact absurd z.symm (cellO_ne.2.1 xs)
  · exact z
theorem Stand.frz {l : CL} {H : Hp} (s : Stand l H) {b : Addr} {o : Obj} {u : HO} (e : H b = some (.frz o u)) : era l H b = some (.frz o u) := by
  rcases s.cases e with ⟨v, _, z⟩ | ⟨_, z⟩
  · exact absurd z.symm (cellO_ne.2.2.1 o u)
  · exact z
theorem Stand.rd {l : CL} {H : Hp} (s : Stand l H) {b : Addr} {xs : List V} (e : Rd H b (.tup xs)) : Rd (era l H) b (.tup xs) := by
  rcases e with e | ⟨o, e⟩
  · exact .inl (s.tup e)
  · exact .inr ⟨o, s.frz e⟩
/-- the heap with the cells goes on as the one without them does -/
theorem Stand.on {l : CL} {H H2 : Hp} (s : Stand l H) (e : Same (era l H) H2) : Same H (RH.lay l H2) := fun b o q => by
  rcases s.cases q with ⟨v, z, rfl⟩ | ⟨z, y⟩
  · exact lay_in z
  · exact (lay_no z).trans (e b o y)
theorem Stand.hok {P : Program} {w : World} {l : CL} {H : Hp} {h : Heap} (s : Stand l H) (k : HOk P w H h) : HOk P w (era l H) h := fun a o e => by
  cases q : l.lookup a with
  | some v =>
    rw [era_in q] at e
    cases e
  | none =>
    rw [era_no q] at e
    refine (k a o e).stay (fun _ _ _ z => z) (fun b z => ?_) fun b xs z => s.tup z
    rcases s.cases z with ⟨v, _, y⟩ | ⟨_, y⟩
    · exact absurd y.symm (cellO_ne.1 a)
    · exact y
/-- what a lambda caught, and where -/
structure Cap (F : LF) (fr : List Str) (ws : List V) (l : CL) : Prop where
  len : ws.length = fr.length
  all : ∀ y c, F.cl.lookup y = some c → ∃ v, l.lookup c = some v
  inj : ∀ x y c, F.cl.lookup x = some c → F.cl.lookup y = some c → x = y
  has : ∀ (i : Nat) (y : Str), fr[i]? = some y → ∃ c, F.cl.lookup y = some c ∧ ∀ v, ws[i]? = some v → l.lookup c = some v
/-- the lambda at f stands, with its code and its cells -/
structure LiveK (f : Addr) (F : LF) (l : CL) (H : Hp) : Prop where
  fn : H f = some (FnL f F)
  code : H F.c = some (CodeO F.c F.qual)
  st : Stand l H
theorem LiveK.same {f : Addr} {F : LF} {l : CL} {H H' : Hp} (k : LiveK f F l H) (e : Same H H') : LiveK f F l H' := ⟨e _ _ k.fn, e _ _ k.code, k.st.same e⟩
theorem LiveK.ext {f : Addr} {F : LF} {l : CL} {H H' : Hp} (k : LiveK f F l H) (e : ExtN H H') : LiveK f F l H' := ⟨e _ _ k.fn (fun ps => fnL_ne ps), e _ _ k.code (fun ps => codeO_ne ps), k.st.ext e⟩
section
variable {CX : CXT} {P : Program} {w : World} {K : PySem.W.Frag} {mg : Str → Option Value} {base : Heap} {ps fr : List Str} {k : Nat} {f : Addr} {F : LF} {ws : List V} {l : CL} {outer : List Env} {s : Shared} {H : Hp}
theorem LiveK.nofn {h : Heap} (L : LiveK f F l H) (hok : HOk P w H h) : l.lookup f = none ∧ l.lookup F.c = none := by
  constructor
  · cases q : l.lookup f with
    | none => rfl
    | some v =>
      exfalso
      obtain ⟨od, sl, pm, ctv, ho⟩ := fnL_at hok L.fn
      obtain ⟨⟨u, _, o, e, d⟩, _⟩ := hok f _ (L.st f v q)
      rw [ho] at e
      cases e
      cases d
  · cases q : l.lookup F.c with
    | none => rfl
    | some v =>
      exfalso
      obtain ⟨c, oc, vs, t, e0, h1, h2, _⟩ := codeO_at hok L.code
      cases e0
      obtain ⟨⟨u, _, o, e, d⟩, _⟩ := hok F.c _ (L.st F.c v q)
      rw [h1] at e
      cases e
      rw [h2] at d
      cases d
end
/-! ### a body that ends with a return, its names kept -/
structure PSR (X : Cx) (st : List Stmt) (tr : (V → L2.St → Hp → Prop) → L2.St → Hp → Prop) : Prop where
  run : ∀ (pins : List (Addr × Obj)) (s : Shared) (σ : L2.St) (H : Hp) (R : V → L2.St → Hp → Prop), Inv X pins σ H s → tr R σ H → wpAny (model X.prog X.w) X.A (execs st X.env) (fun fl s' => ∃ u v σ' H', fl = .ret u ∧ Inv X pins σ' H' s' ∧ L2.RelV v u ∧ R v σ' H') X.xe s
theorem psr_ret {X : Cx} {e : Expr} {te : TE} {pos : Pos} (he : PE X e te) : PSR X [.Return (some e) pos] (fun R σ H => te σ H fun v H1 => R v σ H1) := by
  refine ⟨fun pins s σ H R I h => ?_⟩
  refine wpAny_execs_cons (wpAny_Return_some (thn (he.run pins s σ H (fun v H1 => R v σ H1) I h) fun v s1 ⟨x, H1, I1, r1, q1⟩ => ?_))
  exact ⟨v, x, σ, H1, rfl, I1, r1, q1⟩
theorem psr_cons {X : Cx} {st : Stmt} {rest : List Stmt} {t : TS} {tr : (V → L2.St → Hp → Prop) → L2.St → Hp → Prop} (h1 : PS X st t) (h2 : PSR X rest tr) : PSR X (st :: rest) (fun R σ H => t { nx := fun σ' H' => tr R σ' H', rt := fun _ _ => False, bk := fun _ _ => False, ct := fun _ _ => False } σ H) := by
  refine ⟨fun pins s σ H R I h => ?_⟩
  refine wpAny_execs_cons (thn (h1.run pins s σ H _ I h) fun f s1 q => ?_)
  cases f with
  | next =>
    obtain ⟨σ', H', I', q⟩ := q
    exact h2.run pins s1 σ' H' R I' q
  | ret v =>
    obtain ⟨_, _, _, _, _, z⟩ := q
    exact z.elim
  | brk =>
    obtain ⟨_, _, _, z⟩ := q
    exact z.elim
  | cont =>
    obtain ⟨_, _, _, z⟩ := q
    exact z.elim
section
variable {P : Program} {w : World} {K : PySem.W.Frag} {mg : Str → Option Value} {base : Heap}
/-- a def whose end is told with its names and its frame -/
theorem fnR_of {k : Nat} {f : Addr} {name qual : Str} {params : Arguments} {body : List Stmt} {scope : Scope} {dV kV doc pm cdv ct oc : Value} {an od : Option Addr}
    {osl : Array (Option Value)} {N ps : List Str} {sp : Sp} (lk : K.lookup f = some ⟨oc, od, .func (PySem.W.fnOf name qual params body scope dV kV doc pm an cdv ct), osl⟩) (hcd : PySem.W.codeIn K cdv qual = true) (S : FnScope N ps scope)
    (len : ∀ vs H Q E, sp vs H Q E → vs.length = ps.length)
    (hbody : ∀ (A : Around) (outer : List Env) (s : Shared) (H : Hp) (vs : List V) (Q : VK) (E : XK), Room k (A.deeper (envOfC qual scope s.heap.objs.size f cdv)) → sp vs H Q E →
      ∃ (R : V → L2.St → Hp → Prop) (tr : (V → L2.St → Hp → Prop) → L2.St → Hp → Prop), PSR (cxOf CX0 P w K mg base N qual scope f cdv A outer s H E) body tr ∧ tr R (start N vs) H ∧
        ∀ (s' : Shared) (σ' : L2.St) (H' : Hp) (v : V) (u : Value), Inv (cxOf CX0 P w K mg base N qual scope f cdv A outer s H E) [] σ' H' s' → L2.RelV v u → R v σ' H' → CE outer P w H s Q u s') :
    FnOk P w K mg base CX0 (k + 1) f (PySem.W.fnOf name qual params body scope dV kV doc pm an cdv ct) ps sp := by
  refine ⟨len, fun A outer s H args us vs Q E hr e0 hb r hsp => ?_⟩
  have hl := len _ _ _ _ hsp
  have KX : K.In s.heap := e0.mod.kin.keeps fun b o e => (e0.bs b o e).1
  have lim : s.heap.NoLimit := e0.mod.nolimit.keeps fun b o e => (e0.bs b o e).1
  have hkind : ∀ y ∈ ps.zip us, scope.names.lookup y.1 = some .local ∨ (scope.names.lookup y.1 = some .cell ∧ ((cellsFrom (s.heap.objs.size + 1) scope.names []).lookup y.1).isSome = true) := fun ⟨n, v⟩ hy => by
    rcases S.par n (List.of_mem_zip hy).1 with q | q
    · exact .inl q
    · exact .inr ⟨q, PySem.W.cellsFrom_some _ _ _ (.inl q)⟩
  refine codeAny_call_function hr.depth (KX _ _ lk) rfl S.co S.gen rfl (PySem.W.codeRec_of KX hcd) (hb _ _ _ _ ?_)
  refine wpAny_newFunctionEnv_cells S.kind hkind fun env he s1 x => ?_
  subst he
  refine ⟨lim.keeps x.toInCall.keep, codeAny_func ?_⟩
  obtain ⟨R, tr, ht, hq, fin⟩ := hbody A outer s H vs Q E (hr.deeper _) hsp
  have I : Inv (cxOf CX0 P w K mg base N qual scope f cdv A outer s H E) [] (start N vs) H s1 := inv_start S hr.hd e0 hl r x
  refine wpAny_mono (ht.run [] s1 (start N vs) H R I hq) (fun fl s' hs => ?_) fun e s' hs => hs
  obtain ⟨u, v, σ', H', rfl, J, rv, q⟩ := hs
  exact fin s' σ' H' v u J rv q
/-- the end of a def that hands back lambdas: its cells are laid -/
theorem ce_lay {X : Cx} {pins : List (Addr × Obj)} {σ : L2.St} {H' : Hp} {s' : Shared} {v : V} {u : Value} {Q : VK} {l : CL} (hf : ∀ x, X.fn x = true) (J : Inv X pins σ H' s') (hx : X.ex = []) (hfs : X.fs = frs X.outer)
    (hl : ∀ b y, l.lookup b = some y → ∃ (x : Str) (i : Nat), X.env.cells.lookup x = some b ∧ X.N[i]? = some x ∧ σ[i]? = some (some y) ∧ X.env.scope.names.lookup x = some .cell)
    (rv : L2.RelV v u) (q : Q v (lay l H')) : CE X.outer X.prog X.w X.H_0 X.s_0 Q u s' := by
  have cell : ∀ b y, l.lookup b = some y → (∃ u, L2.RelV y u ∧ s'.heap.IsCell b (some u)) ∧ X.s_0.heap.objs.size ≤ b ∧ H' b = none := fun b y e => by
    obtain ⟨x, i, h1, h2, h3, h4⟩ := hl b y e
    refine ⟨?_, J.ok.cab x b (hf x) h1, J.freeC x b h1⟩
    obtain ⟨m, _, hm⟩ := J.loc
    obtain ⟨u, r, lk⟩ := hm i x y h2 h3 (.inr (.inl h4))
    rcases lk with ⟨z, _⟩ | ⟨_, a', ha', hc⟩
    · have z' : X.env.scope.names.lookup x = some .local := z
      rw [h4] at z'
      cases z'
    · rw [h1] at ha'
      cases ha'
      exact ⟨u, r, hc⟩
  have low : ∀ b o, X.s_0.heap.get? b = some o → l.lookup b = none := fun b o e => by
    cases q : l.lookup b with
    | none => rfl
    | some y => exact absurd (Nat.lt_of_lt_of_le (Heap.lt_size e) (cell b y q).2.1) (Nat.lt_irrefl _)
  have up : ∀ b o, H' b = some o → lay l H' b = some o := fun b o e => by
    cases q : l.lookup b with
    | none => exact (lay_no q).trans e
    | some y =>
      rw [(cell b y q).2.2] at e
      cases e
  have U := J.base
  rw [hx, hfs] at U
  refine ⟨v, lay l H', J.os, J.bare, ⟨U.keep, U.slot, fun b o e n x => (lay_no (low b o e)).trans (U.free b o e n x), U.there, fun b xs e => up _ _ (U.tups b xs e), fun b o w e => up _ _ (U.frzs b o w e), fun b ps e => ?_⟩, fun a o e => ?_, rv, q⟩
  · obtain ⟨more, z⟩ := U.tbls b ps e
    exact ⟨more, up _ _ z⟩
  · cases q : l.lookup a with
    | some y =>
      rw [lay_in q] at e
      cases e
      exact cellO_ok (cell a y q).1
    | none =>
      rw [lay_no q] at e
      exact (J.hok a o e).stay (fun _ _ _ z => z) (fun b z => up _ _ z) fun b xs z => up _ _ z
end
end RH
set_option Elab.async false
set_option linter.all false
set_option maxRecDepth 100000
set_option maxHeartbeats 2000000
/-! A walk over zip of a tuple and a list. -/
set_option Elab.async false
set_option linter.all false
set_option maxRecDepth 100000
set_option maxHeartbeats 2000000
/-! Defs and methods that may raise, lambdas handed back that are called without arguments and may raise, what an except suite asks of its error. -/
namespace RH
open PySem PySem.Spec PyProof.Rows L2
open LamX (Tabs TabS TabB ExtN CodeO codeO_ne)
open NdefX (NF CellsAt NScope startF ncx codeO_at slotAt Caps cells_of)
/-! ### a lambda that was handed back, called without arguments -/
section
variable {X : Cx} {f : Addr} {F : LF} {fr : List Str} {ws : List V} {l : CL} {k : Nat} {sp : List (Option V) → Sp}
def Gone (l : CL) (H : Hp) : Prop := ∀ b y, l.lookup b = some y → H b = none
theorem kept_run (Fn : LOk X.prog X.w X.K X.mg X.base (L2.CX X.prog X.w) k f F [] fr sp) (C : Cap F fr ws l) (hr : Room k X.A) {pins : List (Addr × Obj)} {σ : L2.St} {H' : Hp} {s' : Shared} {Q : VK} {E : XK} (I : Inv X pins σ H' s') (L : LiveK f F l H') (hx : PassesAt (L2.CX X.prog X.w) X σ E)
    (q : sp (ws.map some) [] (era l H') (fun v H2 => Gone l H2 → Q v (lay l H2)) (fun cls d H2 => Gone l H2 → E cls d (lay l H2))) : wpAny (model X.prog X.w) X.A (call (.ref f) []) (EP X pins σ Q) X.xe s' := by
  obtain ⟨nf, nc⟩ := L.nofn I.hok
  have E0 := I.env0
  have cell : ∀ c v, l.lookup c = some v → ∃ u, L2.RelV v u ∧ s'.heap.IsCell c (some u) := fun c v e => (I.hok c _ (L.st c v e)).1
  have nfr : ∀ c v, l.lookup c = some v → c ∉ frs X.stack := fun c v e z => by
    have := E0.frf c z
    rw [L.st c v e] at this
    cases this
  have Ee : Env0 X.prog X.w X.K X.mg X.base X.A X.stack s' (era l H') := by
    refine ⟨E0.frames, E0.mod, fun b o e => ⟨(E0.bs b o e).1, ?_⟩, E0.bsz, E0.funs, fun b hb => ?_, L.st.hok E0.hok, E0.bare⟩
    · cases q : l.lookup b with
      | some v => exact era_in q
      | none => exact (era_no q).trans (E0.bs b o e).2
    · cases q : l.lookup b with
      | some v => exact era_in q
      | none => exact (era_no q).trans (E0.frf b hb)
  have Ce : CellsAt F.cl fr (ws.map some) s'.heap (era l H') := by
    refine ⟨by rw [List.length_map]; exact C.len, fun y c e => ?_, C.inj, fun i y e => ?_⟩
    · obtain ⟨v, hv⟩ := C.all y c e
      obtain ⟨u, _, z⟩ := cell c v hv
      exact ⟨era_in hv, _, z⟩
    · obtain ⟨c, hc, hv⟩ := C.has i y e
      refine ⟨c, hc, fun v ev => ?_⟩
      rw [List.getElem?_map] at ev
      cases ew : ws[i]? with
      | none =>
        rw [ew] at ev
        cases ev
      | some v' =>
        rw [ew] at ev
        have : v' = v := Option.some.inj (Option.some.inj ev)
        subst this
        exact cell c _ (hv _ ew)
  have fwd : ∀ b, H' b = none → l.lookup b = none := fun b e => by
    cases q : l.lookup b with
    | none => rfl
    | some v =>
      rw [L.st b v q] at e
      cases e
  refine wpAny_call (codeAny_mono (Fn.run X.A X.stack s' (era l H') [] [] (ws.map some) _ _ hr Ee ((era_no nf).trans L.fn) ((era_no nc).trans L.code) Ce .nil q) fun r s'' hq => ?_)
  cases r with
  | error e =>
    obtain ⟨a, B, H2, cls, d, rfl, fl, hok, un, na, os, ag, hE⟩ := hq
    have gone : Gone l H2 := fun c v e => by
      obtain ⟨u, _, o, z, _⟩ := cell c v e
      exact un.free c o z (era_in e)
    have inB : ∀ c v, l.lookup c = some v → ∃ u, L2.RelV v u ∧ B.IsCell c (some u) := fun c v e => by
      obtain ⟨u, ru, o, z, d⟩ := cell c v e
      exact ⟨u, ru, o, un.keep c o z (era_in e) (nfr c v e), d⟩
    have nal : l.lookup a = none := by
      cases q : l.lookup a with
      | none => rfl
      | some v =>
        obtain ⟨u, _, o, z, _⟩ := inB a v q
        have := fl.2.1
        rw [z] at this
        cases this
    refine hx pins H' s' (.ref a) s'' I ⟨a, B, lay l H2, cls, d, rfl, fl, fun b o e => ?_, ?_, (lay_no nal).trans na, os, ag, hE gone⟩
    · cases q : l.lookup b with
      | some v =>
        rw [lay_in q] at e
        cases e
        exact cellO_ok (inB b v q)
      | none =>
        rw [lay_no q] at e
        refine (hok b o e).stay (fun _ _ _ z => z) (fun b z => ?_) fun b xs z => ?_
        · cases q2 : l.lookup b with
          | none => exact (lay_no q2).trans z
          | some v =>
            rw [gone b v q2] at z
            cases z
        · cases q2 : l.lookup b with
          | none => exact (lay_no q2).trans z
          | some v =>
            rw [gone b v q2] at z
            cases z
    · refine ⟨fun b o e n => un.keep b o e ((era_no (fwd b n)).trans n), un.slot, fun b o e n => (lay_no (fwd b n)).trans (un.free b o e ((era_no (fwd b n)).trans n)), un.there, fun b xs e => ?_, fun b o u e => ?_, fun b ps e => ?_⟩
      · rcases L.st.cases e with ⟨v, _, z⟩ | ⟨n, z⟩
        · exact absurd z.symm (cellO_ne.2.1 xs)
        · exact (lay_no n).trans (un.tups b xs z)
      · rcases L.st.cases e with ⟨v, _, z⟩ | ⟨n, z⟩
        · exact absurd z.symm (cellO_ne.2.2.1 o u)
        · exact (lay_no n).trans (un.frzs b o u z)
      · rcases L.st.cases e with ⟨v, _, z⟩ | ⟨n, z⟩
        · exact absurd z.symm (cellO_ne.2.2.2 ps)
        · obtain ⟨more, y⟩ := un.tbls b ps z
          exact ⟨more, (lay_no n).trans y⟩
  | ok fl =>
    cases fl with
    | ret u =>
      obtain ⟨v, H2, os, bare, un, hok, rv, hQ⟩ := hq
      have gone : Gone l H2 := fun c v e => by
        obtain ⟨u, _, o, z, _⟩ := cell c v e
        exact un.free c o z (era_in e) (by simp)
      refine I.after ⟨v, lay l H2, os, bare, ?_, ?_, rv, hQ gone⟩
      · refine ⟨fun b o e n => un.keep b o e ((era_no (fwd b n)).trans n), fun b o e n => un.slot b o e ((era_no (fwd b n)).trans n), fun b o e n x => (lay_no (fwd b n)).trans (un.free b o e ((era_no (fwd b n)).trans n) x), un.there, fun b xs e => ?_, fun b o u e => ?_, fun b ps e => ?_⟩
        · rcases L.st.cases e with ⟨v, _, z⟩ | ⟨n, z⟩
          · exact absurd z.symm (cellO_ne.2.1 xs)
          · exact (lay_no n).trans (un.tups b xs z)
        · rcases L.st.cases e with ⟨v, _, z⟩ | ⟨n, z⟩
          · exact absurd z.symm (cellO_ne.2.2.1 o u)
          · exact (lay_no n).trans (un.frzs b o u z)
        · rcases L.st.cases e with ⟨v, _, z⟩ | ⟨n, z⟩
          · exact absurd z.symm (cellO_ne.2.2.2 ps)
          · obtain ⟨more, y⟩ := un.tbls b ps z
            exact ⟨more, (lay_no n).trans y⟩
      · intro a o e
        cases q : l.lookup a with
        | some v =>
          rw [lay_in q] at e
          cases e
          obtain ⟨u, ru, ob, z, d⟩ := cell a v q
          exact cellO_ok ⟨u, ru, ob, un.keep a ob z (era_in q) (nfr a v q) (by simp), d⟩
        | none =>
          rw [lay_no q] at e
          refine (hok a o e).stay (fun _ _ _ z => z) (fun b z => ?_) fun b xs z => ?_
          · cases q2 : l.lookup b with
            | none => exact (lay_no q2).trans z
            | some v =>
              rw [gone b v q2] at z
              cases z
          · cases q2 : l.lookup b with
            | none => exact (lay_no q2).trans z
            | some v =>
              rw [gone b v q2] at z
              cases z
    | next => exact False.elim hq
    | brk => exact False.elim hq
    | cont => exact False.elim hq
end
/-- what is known of a lambda without parameters that may be called -/
structure Ready (P : Program) (w : World) (K : PySem.W.Frag) (mg : Str → Option Value) (base : Heap) (k : Nat) (f : Addr) (H : Hp) (ok : (Hp → VK → XK → Prop)) : Prop where
  ex : ∃ (F : LF) (fr : List Str) (ws : List V) (l : CL) (sp : List (Option V) → Sp), LOk P w K mg base (L2.CX P w) k f F [] fr sp ∧ Cap F fr ws l ∧ LiveK f F l H ∧
    ∀ Q E, ok H Q E → sp (ws.map some) [] (era l H) (fun v H2 => Gone l H2 → Q v (lay l H2)) (fun cls d H2 => Gone l H2 → E cls d (lay l H2))
/-- f(), f a name that holds such a lambda -/
def tCall0K (P : Program) (w : World) (K : PySem.W.Frag) (mg : Str → Option Value) (base : Heap) (k i : Nat) (E : L2.St → XK) : TE := fun σ H Q => ∃ (f : Addr) (ok : Hp → VK → XK → Prop), σ[i]? = some (some (.ref f)) ∧ Ready P w K mg base k f H ok ∧ ok H Q (E σ)
theorem pe_call0K {X : Cx} {i j k : Nat} {x : Str} {E : L2.St → XK} {p pos : Pos} (hr : Room j X.A) (hk : k ≤ j) (hx : ∀ σ, PassesAt (L2.CX X.prog X.w) X σ (E σ)) (hN : X.N[i]? = some x) (hv : Vis X.env.scope x)
    (hd : (x == ("__debug__" : Str)) = false := by decide) (hcd : (x == ("__classdict__" : Str)) = false := by decide) : PE X (.Call (.Name x p) [] [] pos) (tCall0K X.prog X.w X.K X.mg X.base k i E) := by
  refine ⟨fun pins s σ H Q I h => ?_⟩
  obtain ⟨f, ok, hs, ⟨F, fr, ws, l, sp, Fn, C, L, hok⟩, q⟩ := h
  refine wpAny_Call_Name_kw (thn ((pe_var (pos := p) hN hv hd hcd).run pins s σ H (fun v H1 => v = .ref f ∧ H1 = H) I ⟨.ref f, hs, rfl, rfl⟩) fun u s1 ⟨v, H1, I1, r1, q1⟩ => ?_)
  obtain ⟨ev, eH⟩ := q1
  subst ev
  rw [eH] at I1
  obtain rfl : u = Value.ref f := r1
  obtain ⟨od, sl, pm, ctv, ho⟩ := fnL_at I1.hok L.fn
  refine PySem.W.callWith_F0 (first := []) ⟨_, od, _, sl, ho⟩ ?_
  exact kept_run Fn C (hr.mono hk) I1 L (hx σ) (hok _ _ q)
/-! ### what an except suite asks of its error -/
/-! ### list.count of flat things -/
def rCntF (K : PySem.W.Frag) : V → List V → Hp → VK → Prop := fun x xs H Q => ∃ (a : Addr) (ys : List V) (y : V), x = V.ref a ∧ xs = [y] ∧ SqL K H a ys ∧ flatV y = true ∧ ys.all flatV = true ∧ Q (.int ((ys.countP fun z => eqV z y : Nat) : Int)) H
theorem mt_countF {X : Cx} : MtR X "list.count" (rCntF X.K) := by
  intro pins s σ H x xs v us Q I rx rxs h
  obtain ⟨a, ys, y, rfl, rfl, hs, fy, fys, q⟩ := h
  cases rx
  cases rxs with
  | cons ry rt =>
    rename_i uy ut
    cases rt
    obtain ⟨its, rv, ⟨⟨cls, dd, data, sl⟩, n, ho, hc, hdn, hd⟩, hlen⟩ := I.list hs
    simp only at hc hd
    subst hc hd
    refine call_meets PySem.F.slot_list_count ⟨_, ho, rfl⟩ PySem.F.entry_list_count (PySem.F.args_list_count_2 _ _)
      (SeqAt.list_countAt a its.toArray n dd sl uy (eqU y)) ⟨ho, fun u' hu' => mem_eqAt ry fy rv fys u' (by simpa using hu'), ?_⟩
    have cnt : ∀ {zs : List V} {us : List Value}, Vals zs us → zs.all flatV = true → us.countP (eqU y) = zs.countP fun z => eqV z y := by
      intro zs us r
      induction r with
      | nil => exact fun _ => rfl
      | cons r _ ih =>
        intro f
        rw [List.all_cons, Bool.and_eq_true] at f
        rw [List.countP_cons, List.countP_cons, ih f.2, eqU_of r f.1]
    refine ⟨.int ((ys.countP fun z => eqV z y : Nat) : Int), H, I.tok _, ⟨s.toks, ?_⟩, q⟩
    show Value.int ((its.toArray.toList.countP (eqU y) : Nat) : Int) s.toks = _
    have e := cnt rv fys
    rw [show its.toArray.toList = its from by simp, e]
/-- what leaves a def that may raise -/
theorem passE {P : Program} {w : World} {K : PySem.W.Frag} {mg : Str → Option Value} {base : Heap} {N : List Str} {qual : Str} {scope : Scope} {f : Addr} {cd : Value} {A : Around} {outer : List Env} {s : Shared} {H : Hp} {E : XK} :
    Passes (L2.CX P w) (cxOf (L2.CX P w) P w K mg base N qual scope f cd A outer s H E) E := passes_call (W := fun cls d _ H => E cls d H) (takes_of rfl rfl rfl rfl) (fun _ _ _ _ h => h)
theorem takesE {P : Program} {w : World} {K : PySem.W.Frag} {mg : Str → Option Value} {base : Heap} {N : List Str} {qual : Str} {scope : Scope} {f : Addr} {cd : Value} {A : Around} {outer : List Env} {s : Shared} {H : Hp} {E : XK} :
    Takes (cxOf (L2.CX P w) P w K mg base N qual scope f cd A outer s H E) (fun cls d _ H => E cls d H) := takes_of rfl rfl rfl rfl
end RH
set_option Elab.async false
set_option linter.all false
set_option maxRecDepth 100000
set_option maxHeartbeats 4000000
/-! own errors whose __init__ asks super().__init__ first -/
namespace L2
open PySem PySem.Calls PySem.Spec PyProof.Rows PySem.W
open NdefX (NScope NF CellsAt startF ncx envF inv_startN)
section
variable {X : Cx} {pins : List (Addr × Obj)} {σ : St} {H : Hp} {s : Shared} {a C u : Addr} {E : Value → Shared → Prop} {A : Around}
/-- the bound ValueError.__init__ is called: nothing of it is told -/
theorem call_mw {us : List Value} {Q : Value → Shared → Prop} (T : OexC X.K C) (I : Inv X pins σ H s) (hu : s.heap.get? u = some (kxs_mw "ValueError.__init__" a)) (e : H a = some (exo a C none)) (hl : us.length ≤ sizeLine) (h : ∀ s', Inv X pins σ H s' → Q .none s') :
    wpAny (model X.prog X.w) A (call (.ref u) us) Q E s := by
  obtain ⟨nm, q, N, bs, bm, sn, sub, ab, col, dd, k0, k1, k2, k3, k5, hC, hbm⟩ := T.cls
  obtain ⟨t1, ho⟩ := exo_at I.hok e
  obtain ⟨hp, g, d, t, os⟩ := s
  refine wpAny_call (codeAny_of_tree ?_)
  show wpAny _ A.in1 (callAny (.ref u) ⟨us, []⟩) _ _ _
  simp only [callAny]
  refine wpAny_bind (wpAny_load hu ?_)
  simp only [kxs_mw, show (Value.type "method-wrapper" == Value.type "method" || Value.type "method-wrapper" == Value.type "builtin_function_or_method" || Value.type "method-wrapper" == Value.type "method-wrapper") = true by decide, if_true]
  refine KFB.if_so (by decide) ?_
  refine wpAny_bind (check_bound_init PySem.F.excBase_ValueError.toExcCallFacts (I.kIn _ _ hC) ho rfl ?_)
  refine wpAny_bind (wpAny_pure (wpAny_pure ?_))
  refine ⟨plainId_quiet PySem.F.excBase_ValueError.init.plain _, codeAny_builtin PySem.F.excBase_ValueError.initEntry ?_⟩
  refine exc_init_tree (cls := .ref C) (t0 := t1) (dv := none) (c2 := .none) (c3 := .none) (b4 := .bool false) ho hl fun h' k hx _ => ?_
  have J := I.write (t' := t) (x := a) (e := a) (o := exo a C none) (by rw [e]; exact True.intro) (.inl rfl) k ⟨_, hx⟩ (exo_ok hx)
  have eu : upd H a (exo a C none) = H := by
    funext b
    by_cases hb : b = a
    · rw [hb, upd_same, e]
    · rw [upd_ne hb]
  rw [eu] at J
  exact h _ J
end
theorem mw_args {M : Model} {i : String} {a u : Addr} {s : Shared} {A : Around} {E : Value → Shared → Prop} {pos : Pos} {env : Env} {e : Expr} {es : List Expr} {Q : Value → Shared → Prop}
    (h : wpAny M A (spliced (backTo pos (starEach (e :: es) env))) (fun vs s₁ => KxsAt i u a s₁.heap ∧ wpAny M A (call (.ref u) vs) Q E s₁) E s)
    (he : starEach (e :: es) env = (false, eval e env) :: starEach es env) (hp : (backTo pos (starEach es env)).any (·.1) = false) : wpAny M A (callWith pos (.ref u) [] (backTo pos (starEach (e :: es) env)) []) Q E s := by
  rw [he] at h ⊢
  exact kxs_callWith (i := i) (x := a) (by show (false || (backTo pos (starEach es env)).any (·.1)) = false; rw [hp]; rfl) (evalArgs_plain h)
/-- the class C with an own __init__ that asks super().__init__ first -/
structure SupC (P : Program) (K : Frag) (mg : Str → Option Value) (C : Addr) (qual : Str) (st : Stmt) (f : Addr) (fd : FuncData) (cc cda : Addr) : Prop where
  t : OexC K C
  ex : ∃ (oc : Value) (od : Option Addr) (kV doc pm : Value) (an : Option Addr) (ct : Value) (osl : Array (Option Value)), fd = fnX "__init__" qual (defArgs st) (defBody st) (defScope st) [("__class__", cc)] .none kV doc pm an (.ref cda) ct ∧ K.lookup f = some ⟨oc, od, .func fd, osl⟩
  code : codeIn K (.ref cda) qual = true
  rec_ : ∃ (ccl : Value) (cdd : Option Addr) (vs : Array Value) (ccs : Array (Option Value)) (file : Str) (tf : Tok), K.lookup cda = some ⟨ccl, cdd, .fields vs, ccs⟩ ∧ vs[2]? = some (.str file tf) ∧ ((P.main.file : Str) == file) = true
  cell : ∃ (cl : Value) (cld : Option Addr) (csl : Array (Option Value)), K.lookup cc = some ⟨cl, cld, .cell (some (.ref C)), csl⟩
  mro : mroIn K C (.ref C) = some true
  any : nsIn K cStatics "thirdparty.any" = some none
  sup : ks_superIn K C C "__init__" = some (some (.builtin "ValueError.__init__"))
  ve : subIn K (.ref C) (.type "ValueError") = some true
  gs : mg "super" = none
  top : (P.main.scope.names.lookup ("super" : Str)).isSome = false
def supF (qual : Str) (st : Stmt) (cc cda : Addr) : NF := ⟨"__init__", qual, defArgs st, defBody st, defScope st, [("__class__", cc)], cda⟩
section
variable {P : Program} {w : World} {K : Frag} {mg : Str → Option Value} {base : Heap}
theorem fn_super {pl : Env → Sem Bool} {CX : CXT} {N ps : List Str} {k : Nat} {sp : Sp} {C f cc cda : Addr} {fd : FuncData} {qual self : Str} {st : Stmt} {rest : List Stmt} {e : Expr} {es : List Expr} {p0 p1 p2 p3 p4 : Pos} {ar : Arg} (M : SupC P K mg C qual st f fd cc cda) (S : NScope N ps ["__class__"] (defScope st))
    (hps : ps[0]? = some self) (har : ((defArgs st).posonlyargs ++ (defArgs st).args).head? = some ar) (hse : ar.arg = self) (hks : (defScope st).names.lookup ("super" : Str) = some .globalImplicit)
    (hb0 : defBody st = .Expr (.Call (.Attribute (.Call (.Name "super" p0) [] [] p1) "__init__" p2) (e :: es) [] p3) p4 :: rest) (len : ∀ vs H Q E, sp vs H Q E → vs.length = ps.length)
    (hbody : ∀ (A : Around) (outer : List Env) (s : Shared) (H : Hp) (vs : List V) (Q : VK) (E : XK), Room k (A.deeper (envF (supF qual st cc cda) f s.heap.objs.size)) → sp vs H Q E →
      ∃ (a : Addr) (ta : TA) (t : TS), vs[0]? = some (.ref a) ∧ H a = some (exo a C none) ∧ PA (ncx CX P w K mg base N (supF qual st cc cda) f A outer s H E) (e :: es) ta ∧ PSs (ncx CX P w K mg base N (supF qual st cc cda) f A outer s H E) rest t ∧
        ta (startF N vs [some (.ref C)]) H (fun us H1 => us.length ≤ 1000 ∧ H1 a = some (exo a C none) ∧ t { nx := fun _ H' => Q .non H', rt := Q } (startF N vs [some (.ref C)]) H1))
    (he : ∀ env, starEach (e :: es) env = (false, eval e env) :: starEach es env := by intro _; rfl) (hpl : ∀ env, (backTo p3 (starEach es env)).any (·.1) = false := by intro _; rfl)
    (hev : ∀ env : Env, eval (.Call (.Attribute (.Call (.Name "super" p0) [] [] p1) "__init__" p2) (e :: es) [] p3) env = (do
      let ov ← attributeBase (.Call (.Name "super" p0) [] [] p1) "__init__" env (eval (.Call (.Name "super" p0) [] [] p1) env)
      standAt p2.atName
      let (f, first) ← holding [ov] (getMethod ov "__init__" (pl env))
      callWith p3 f first (backTo p3 (starEach (e :: es) env)) []) := by intro _; rfl)
    (hsw : ∀ env, swapsWith (.Call (.Attribute (.Call (.Name "super" p0) [] [] p1) "__init__" p2) (e :: es) [] p3) none p4.line env = pure false := by intro _; rfl) :
    FnOk P w K mg base CX (k + 1) f fd ps sp := by
  obtain ⟨oc, od, kV, doc, pm, an, ct, osl, efd, lk⟩ := M.ex
  obtain ⟨ccl, cdd, fvs, ccs, file, tf, hcode, hvs, hfile⟩ := M.rec_
  obtain ⟨cl, cld, csl, hcell⟩ := M.cell
  obtain ⟨nm, qn, Nn, bs, bm, sn, sub, ab, col, dd, k0, k1, k2, k3, k5, hC, hbm⟩ := M.t.cls
  subst efd
  refine ⟨len, fun A outer s H args us vs Q E hr e0 hb r hsp => ?_⟩
  have hl := len _ _ _ _ hsp
  have KX : K.In s.heap := e0.mod.kin.keeps fun b o e => (e0.bs b o e).1
  have lim : s.heap.NoLimit := e0.mod.nolimit.keeps fun b o e => (e0.bs b o e).1
  have kH : ∀ b o, K.lookup b = some o → H b = none := fun b o e => (e0.bs b o (e0.mod.kin _ _ e)).2
  have hkc : (defScope st).names.lookup ("__class__" : Str) = some .free := S.frk _ (List.mem_singleton.mpr rfl)
  have CA : CellsAt (supF qual st cc cda).cl ["__class__"] [some (.ref C)] s.heap H := by
    have one : ∀ y c, ([("__class__", cc)] : List (Str × Addr)).lookup y = some c → y = ("__class__" : Str) ∧ c = cc := fun y c e => by
      have := PySem.mem_of_lookup e
      obtain ⟨rfl, rfl⟩ := Prod.mk.inj (List.mem_singleton.mp this)
      exact ⟨rfl, rfl⟩
    have ic : s.heap.IsCell cc (some (.ref C)) := ⟨_, KX _ _ hcell, rfl⟩
    refine ⟨rfl, fun y c e => ?_, fun x y c e1 e2 => (one x c e1).1.trans (one y c e2).1.symm, fun i y hi => ?_⟩
    · obtain ⟨_, rfl⟩ := one y c e
      exact ⟨kH _ _ hcell, _, ic⟩
    · match i, hi with
      | 0, hi =>
        cases Option.some.inj hi
        refine ⟨cc, by show ([("__class__", cc)] : List (Str × Addr)).lookup ("__class__" : Str) = some cc; rw [List.lookup_cons]; simp, fun v hv => ?_⟩
        cases Option.some.inj (Option.some.inj hv)
        exact ⟨_, rfl, ic⟩
      | i + 1, hi => simp at hi
  refine ks_codeAny_call_defAt (body := defBody st) (binds := ps.zip us) hr.depth (KX _ _ lk) rfl lim (codeRec_of KX M.code) rfl hb S.nocell (fun ⟨n, _⟩ hy => S.par n (List.of_mem_zip hy).1) (fun h₁ hns kp => ?_) S.co S.gen S.kind
  show _root_.PySem.wpAt _ (A.deeper (envF (supF qual st cc cda) f s.heap.objs.size)) (.func (defBody st) (envF (supF qual st cc cda) f s.heap.objs.size)) (execs (defBody st) (envF (supF qual st cc cda) f s.heap.objs.size)) _ _ _
  obtain ⟨a, ta, t, hv0, ha0, hA, ht, hT⟩ := hbody A outer s H vs Q E (hr.deeper _) hsp
  have I : Inv (ncx CX P w K mg base N (supF qual st cc cda) f A outer s H E) [] (startF N vs [some (.ref C)]) H { s with heap := h₁, toks := s.toks + (ps.zip us).length } := inv_startN S hr.hd e0 hl r CA hns kp
  have hx := r.get hv0
  obtain ⟨ux, hux, rx⟩ := hx
  obtain rfl : ux = Value.ref a := rx
  have ndP : ps.Nodup := by
    have q := S.nd.sublist (List.take_sublist (ps.length + (["__class__"] : List Str).length) N)
    rw [S.pre] at q
    exact (List.nodup_append.mp q).1
  have hself : (ps.zip us).reverse.lookup self = some (Value.ref a) := NdefX.zip_look ndP hps hux
  have hka : (defScope st).names.lookup self = some .local := S.par self (List.mem_of_getElem? hps)
  have K1 : K.In h₁ := KX.keeps kp
  have hD1 := K1 _ _ hC
  obtain ⟨t1, hxo⟩ := exo_at I.hok ha0
  have hcl : clsIn K C = some { name := nm, bases := bs, mro := .ref C :: bm, ns := Nn, qualname := qn, hasDict := true, slotNames := sn, subclasses := sub, abstract := ab, collection := col, hasDel := false } := by unfold clsIn; rw [hC] <;> rfl
  have hsup := M.sup
  unfold ks_superIn at hsup
  rw [hcl, Option.bind_some] at hsup
  have IA : InstAt h₁ a { cls := .ref C, dict := none, data := .fields #[.ref t1, .none, .none, .none, .bool false, .none] } C none := ⟨hxo, rfl, rfl, trivial⟩
  rw [hb0]
  refine ks_wpAt_execs_cons (ks_wpAt_Expr_any (ks_wpAt_MethodCall ?_ (hev _)) I.quiet (hsw _))
  refine ks_wpAt_super_base (env := envF (supF qual st cc cda) f s.heap.objs.size) hks hkc (by decide) rfl (K1 _ _ lk) rfl har rfl (K1 _ _ hcode) rfl hvs hfile M.top ?_
  obtain ⟨mb, h1, h2⟩ := I.mod.blt
  refine ks_loadName_global S.kind hks (loadGlobal_builtin (I.mod.glob.keeps I.bk) M.gs (h1.keeps I.bk) ((h2 "super" (by decide)).trans (by first | boot_by_name | rfl | kernel_rfl)) ⟨rfl, ?_⟩)
  refine wpAny_loadName_free S.kind hkc (by show ([("__class__", cc)] : List (Str × Addr)).lookup ("__class__" : Str) = some cc; rw [List.lookup_cons]; simp) ⟨_, K1 _ _ hcell, rfl⟩ ?_
  rw [hse]
  refine wpAny_loadName_local S.kind hka hns hself ?_
  refine ks_wpAny_isType_cls hD1 rfl ⟨rfl, ?_⟩
  refine ks_wpAny_call_super hD1 rfl hxo rfl (fun c z => nomatch z) (looks_mroIn K1 M.mro) (fun h2 eso k2 => ?_)
  have I1 := I.kept (t' := s.toks + (ps.zip us).length) k2
  have K2 : K.In h2 := K1.keeps k2
  have IA2 : InstAt h2 a { cls := .ref C, dict := none, data := .fields #[.ref t1, .none, .none, .none, .bool false, .none] } C none := ⟨k2 _ _ hxo, rfl, rfl, trivial⟩
  have hI : Looks (model P w) h2 (isInstance (.ref a) (.type "ValueError")) true := IA2.type.andThen (looks_subIn K2 M.ve)
  refine kxs_getMethod kxs_ValueError eso (looks_opaque K2 M.any) (l₀ := .ref C :: bm) ?_ rfl K2 hsup hI (ks_ne K1 IA hcl) (by decide) ?_
  · exact fun A Q E s k q => wpAny_bind ((looks_clsIn K2 hcl) A _ E s k (wpAny_pure q))
  have k3 : ∀ b o, h2.get? b = some o → (h2.push (kxs_mw "ValueError.__init__" a)).get? b = some o := fun b o e => Heap.get?_push_of_some _ e
  have I2 := I1.kept (t' := s.toks + (ps.zip us).length + 1) k3
  have hu : (h2.push (kxs_mw "ValueError.__init__" a)).get? h2.objs.size = some (kxs_mw "ValueError.__init__" a) := Heap.get?_push_at rfl rfl
  have I3 : Inv (ncx CX P w K mg base N (supF qual st cc cda) f A outer s H E) [(h2.objs.size, kxs_mw "ValueError.__init__" a)] (startF N vs [some (.ref C)]) H _ := I2.pins_of fun p hp => by
    rw [List.mem_singleton.mp hp]
    exact ⟨hu, I1.hok.fresh (Nat.le_refl _), (Nat.ne_of_lt I1.lt).symm, I1.nofs (Nat.le_refl _), fun v z => nomatch z⟩
  refine mw_args (i := "ValueError.__init__") (a := a) ?_ (he _) (hpl _)
  refine thn (hA.run p3 [(h2.objs.size, kxs_mw "ValueError.__init__" a)] _ (startF N vs [some (.ref C)]) H _ I3 hT) fun us1 s1 ⟨vs1, H1, J, r1, hl1, ha1, q1⟩ => ?_
  have hu1 : s1.heap.get? h2.objs.size = some (kxs_mw "ValueError.__init__" a) := (J.pin _ (List.mem_append_right _ (List.mem_singleton.mpr rfl))).1
  refine ⟨hu1, call_mw M.t J hu1 ha1 (by rw [← Paired.length r1, sizeLine_eq]; omega) fun s2 J2 => ?_⟩
  have J3 : Inv (ncx CX P w K mg base N (supF qual st cc cda) f A outer s H E) [] (startF N vs [some (.ref C)]) H1 s2 := J2.pins_of fun p hp => absurd hp (by simp)
  refine wpAt_of_wpAny (wpAny_mono (ht.run [] s2 (startF N vs [some (.ref C)]) H1 _ J3 q1) (fun fl s' hs => ?_) fun e s' hs => hs)
  have fin : ∀ {σ' : L2.St} {H' : Hp} {v : V} {u : Value}, Inv (ncx CX P w K mg base N (supF qual st cc cda) f A outer s H E) [] σ' H' s' → L2.RelV v u → Q v H' → CE outer P w H s Q u s' :=
    fun {σ' H' v u} J rv q => ⟨v, H', J.os, J.bare, J.base, J.hok, rv, q⟩
  cases fl with
  | ret u =>
    obtain ⟨v, σ', H', J, rv, q⟩ := hs
    exact fin J rv q
  | next =>
    obtain ⟨σ', H', J, q⟩ := hs
    exact fin (v := V.non) (u := Value.none) J rfl q
  | brk =>
    obtain ⟨_, _, _, q⟩ := hs
    exact False.elim q
  | cont =>
    obtain ⟨_, _, _, q⟩ := hs
    exact False.elim q
end
end L2
/-! ### isinstance of an error with a dict -/
namespace PySem.W
open PySem PySem.Spec PySem.Calls PyProof.Rows
section
variable {prog : Program} {w : World} {A : Around} {E : Value → Shared → Prop} {s : Shared} {K : Frag} {x D : Addr} {ox : Obj} {odx : Option Obj}
theorem findObj_dataX {C : Addr} {name : Str} {a g : Value} (hc : (clsIn K C).isSome = true) (ha : findIn K (.ref C) name = some (some a)) (hg : specialIn K a "__get__" = some (some g)) (ht : takesIn K a = some true) : findObj K C odx name = some (.bind g a) := by
  obtain ⟨cd, hc⟩ := Option.isSome_iff_exists.mp hc
  unfold findObj
  rw [hc, Option.bind_some, ha, Option.bind_some]
  simp [hg, ht]
theorem kin_classX {Q : Option Value → Shared → Prop} (C : L2.ExcC K D) (X : K.In s.heap) (I : InstAt s.heap x ox D odx) (h : Q (some (.ref D)) { s with toks := s.toks + 1 }) : wpAny (model prog w) A (getAttr? (.ref x) "__class__") Q E s := by
  have hf : findObj K D odx "__class__" = some (.bind (.builtin "getset_descriptor.__get__") (.builtin "object.__class__")) := findObj_dataX (by obtain ⟨cd, hc, _⟩ := any_some C.hd; rw [hc]; rfl) C.ha C.hn C.ht
  obtain ⟨hp, g, d, t, os⟩ := s
  have L0 := I.type (M := model prog w)
  have L1 := looks_findIn (M := model prog w) X C.hg
  have L2 := looks_findIn (M := model prog w) X C.hk
  have L3 := looks_find (M := model prog w) X I hf
  have sub : Looks (model prog w) hp (isInstance (.ref x) (.type "BaseException")) true := L0.andThen (looks_subIn X C.hs)
  have hx0 : (false && onTheHeap (Value.builtin "BaseException.__getattribute__")) = false := rfl
  have hx2 : (Value.builtin "BaseException.__getattribute__" == Value.builtin "object.__getattribute__") = false := by decide +kernel
  have hx1 : (onTheHeap (Value.ref D) && Value.builtin "BaseException.__getattribute__" == Value.builtin "object.__getattribute__") = false := by rw [hx2]; rfl
  unfold getAttr? getAttrBy? getAttrBy
  refine wpAny_bind (wpAny_mkText (wpAny_bind (wpAny_attempt (wpAny_holding (wpAny_bind (L0.at (wpAny_bind (L1.at ?_))))))))
  show wpAny _ _ (if (onTheHeap (Value.ref D) && Value.builtin "BaseException.__getattribute__" == Value.builtin "object.__getattribute__") = true then _ else _) _ _ _
  rw [hx1, if_neg Bool.false_ne_true]
  unfold getAttrByItsOwn hookBefore
  refine wpAny_bind ?_
  rw [if_pos (show onTheHeap (Value.ref D) = true from rfl)]
  refine L2.at ?_
  refine wpAny_bind (wpAny_attempt (wpAny_holding ?_))
  unfold callGetattribute
  rw [hx0, if_neg Bool.false_ne_true]
  unfold boundAndCalled
  rw [PySem.F.excAttr_ValueError.ga.bind (.ref x)]
  refine wpAny_bind (wpAny_pure ?_)
  show wpAny _ _ (call (.builtin "BaseException.__getattribute__") [.ref x, .str "__class__" t]) _ _ _
  refine wpAny_call (codeAny_call_builtin PySem.F.excAttr_ValueError.ga.plain PySem.F.entry_bexc_ga ?_)
  refine @check_slot (model prog w) _ _ ⟨hp, g, d, t + 1, os⟩ "BaseException.__getattribute__" "BaseException" "__getattribute__" (.ref x) [.str "__class__" t] [] _ (by decide +kernel) (by decide +kernel) sub (PySem.F.args_bexc_ga (.ref x) (.str "__class__" t)) ?_
  unfold Builtin.«object.__getattribute__»
  refine wpAny_bind (wpAny_of_eq (a := ((Value.ref x : Value), [Value.str "__class__" t])) (by first | rfl | (simp only [slotArgs]; rfl)) ?_)
  refine wpAny_bind (wpAny_pure (wpAny_bind (L0.at (wpAny_bind (L3.at ?_)))))
  show wpAny _ _ (holding [Value.builtin "object.__class__"] (call (.builtin "getset_descriptor.__get__") [.builtin "object.__class__", .ref x, .ref D]) >>= ret) _ _ _
  refine wpAny_bind (wpAny_holding (wpAny_call (class_get (s := ⟨hp, g, d, t + 1, os⟩) (ox := ox) (od := odx) X I C.hm ?_)))
  refine wpAny_pure ?_
  show wpAny _ _ (handedOut (.ref D)) _ _ _
  rw [handedOut_of (v := .ref D) rfl]
  first
    | exact wpAny_pure (wpAny_pure h)
    | exact wpAny_pure h
    | exact wpAny_pure (wpAny_bind (wpAny_pure (wpAny_pure h)))
theorem kitx_errX (C : L2.ExcC K D) : KitX K (.ref x) (.ref D) (fun h => InstAt h x ox D odx) where
  ty := fun _ _ _ I => I.type
  it := fun _ _ X _ => by
    obtain ⟨cdD, hcD, _⟩ := any_some C.hd
    unfold clsIn at hcD
    split at hcD
    · rename_i c' d' cd' sl' ho
      intro A' Q' E' s' k q
      unfold isType loadHead
      exact wpAny_bind (wpAny_loadPart (k _ _ (X _ _ ho)) (wpAny_pure q))
    · cases hcD
  ne := fun h tp dd its n sl X htp => by
    obtain ⟨cdD, hcD, _⟩ := any_some C.hd
    refine Bool.eq_false_iff.mpr fun q => ?_
    have e : D = tp := Value.ref.inj (beq_iff_eq.mp q)
    subst e
    unfold clsIn at hcD
    split at hcD
    · rename_i c' d' cd' sl' ho
      have z := (X _ _ ho).symm.trans htp
      cases z
    · cases hcD
  ca := fun X I k => kin_classX C X I k
end
end PySem.W
namespace L2
open PySem PySem.Spec PyProof.Rows
/-- isinstance(e, C), whether e has a dict or not -/
def rIsY (K : PySem.W.Frag) (cls : Value) (d : Option Addr) (a : Addr) : List V → Hp → VK → Prop := fun xs H Q => ∃ (D c : Addr) (b : Bool), cls = .ref D ∧ (d = none ∨ ∃ (dd : Addr) (fs : List (Str × V)), d = some dd ∧ H dd = some (.xd fs)) ∧ ExcC K D ∧ xs = [.ref a, .ref c] ∧ PySem.W.kitOne K (.ref D) (.ref c) = some b ∧ Q (.bl b) H
theorem call_isY {X : Cx} {a : Addr} {oe : Obj} {cls : Value} {d : Option Addr} {pn : List (Addr × Obj)} (hz : Zc cls d oe) (hf : ∃ vs, oe.data = .fields vs) : CallR (X.suite a ((a, oe) :: pn)) (.builtin "isinstance") (rIsY X.K cls d a) := by
  intro pins s σ H xs us Q I r h
  obtain ⟨D, c, b, rfl, hd, C, rfl, e, q⟩ := h
  cases r with
  | cons rx rr =>
    cases rr with
    | cons rt rr =>
      cases rr
      cases rx
      cases rt
      obtain ⟨hget, _⟩ := I.pin (a, oe) (List.mem_append.mpr (.inl List.mem_cons_self))
      obtain ⟨vs, hv⟩ := hf
      have J : ∃ odx, PySem.W.InstAt s.heap a oe D odx := by
        obtain ⟨oc, od, oda, osl⟩ := oe
        obtain ⟨h1, h2⟩ := hz
        dsimp only at h1 h2 hv
        subst h1 h2 hv
        rcases hd with rfl | ⟨dd, fs, rfl, ed⟩
        · exact ⟨none, hget, rfl, rfl, trivial⟩
        · have hx : ObjOk X.prog X.w H s.heap dd (.xd fs) := I.hok dd _ ed
          obtain ⟨mA, hns, hr⟩ := hx
          obtain ⟨od, ho, hl⟩ := lookIn_ns hns
          exact ⟨some od, hget, rfl, rfl, ho⟩
      obtain ⟨odx, J⟩ := J
      exact PySem.W.kia_one (PySem.W.kitx_errX C) I.kIn J e (fun z => nomatch z) fun tk => ⟨.bl b, H, I.kept (t' := tk) fun _ _ z => z, rfl, q⟩
/-! ### f-strings with None -/
def tFmtN (te : TE) : TE := fun σ H Q => te σ H fun x H1 => (x = .non ∧ Q (.str "None") H1) ∨ ∃ i : Int, x = .int i ∧ i.natAbs.log2 < 1920 ∧ Q (.str (toString i)) H1
theorem pe_fmtN {X : Cx} {e : Expr} {te : TE} {pos : Pos} (he : PE X e te) : PE X (.FormattedValue e (-1) none pos) (tFmtN te) := by
  refine ⟨fun pins s σ H Q I h => ?_⟩
  refine wpAny_FormattedValue_plain (thn (he.run pins s σ H _ I h) fun v s1 hv => ?_)
  obtain ⟨x, H1, I1, r1, q⟩ := hv
  rcases q with ⟨rfl, q⟩ | ⟨i, rfl, hz, q⟩
  · obtain rfl : v = Value.none := r1
    exact wpAny_formatField_none ⟨.str "None", H1, I1.tok _, ⟨_, rfl⟩, q⟩
  · obtain ⟨t, rfl⟩ := r1
    exact wpAny_formatField_int hz ⟨.str (toString i), H1, I1.tok _, ⟨_, rfl⟩, q⟩
end L2
set_option Elab.async false
set_option linter.all false
set_option maxRecDepth 100000
set_option maxHeartbeats 2000000
namespace RH
open PySem PySem.Spec PyProof.Rows L2
def topS (i : Nat) : Stmt := PySem.Challenge.pw_restlesshelf_k16_apart_refused.main.body.getD i (.Pass ⟨0, 0, 0, 0⟩)
abbrev st_e_BadHabits : Stmt := inClass (topS 3) 0
theorem sc_e_BadHabits : NdefX.NScope ["self", "index", "__class__"] ["self", "index"] ["__class__"] (defScope st_e_BadHabits) := NdefX.nscope_by (by decide +kernel)
abbrev st_is_integer : Stmt := topS 9
theorem sc_is_integer : FnScope ["value"] ["value"] (defScope st_is_integer) :=
  ⟨rfl, rfl, rfl, by decide +kernel, rfl, by decide +kernel, by decide +kernel⟩
abbrev st_is_number : Stmt := topS 10
theorem sc_is_number : FnScope ["value", "low", "high"] ["value", "low", "high"] (defScope st_is_number) :=
  ⟨rfl, rfl, rfl, by decide +kernel, rfl, by decide +kernel, by decide +kernel⟩
abbrev st_is_row : Stmt := topS 11
theorem sc_is_row : FnScope ["value", "low", "high"] ["value", "low", "high"] (defScope st_is_row) :=
  ⟨rfl, rfl, rfl, by decide +kernel, rfl, by decide +kernel, by decide +kernel⟩
abbrev st_is_place : Stmt := topS 12
theorem sc_is_place : FnScope ["value", "places"] ["value", "places"] (defScope st_is_place) :=
  ⟨rfl, rfl, rfl, by decide +kernel, rfl, by decide +kernel, by decide +kernel⟩
abbrev st_are_places : Stmt := topS 13
theorem sc_are_places : FnScope ["value", "places", "place"] ["value", "places"] (defScope st_are_places) :=
  ⟨rfl, rfl, rfl, by decide +kernel, rfl, by decide +kernel, by decide +kernel⟩
abbrev st_is_rising : Stmt := topS 14
theorem sc_is_rising : FnScope ["row", "one", "other"] ["row"] (defScope st_is_rising) :=
  ⟨rfl, rfl, rfl, by decide +kernel, rfl, by decide +kernel, by decide +kernel⟩
abbrev st_is_layout : Stmt := topS 15
theorem sc_is_layout : FnScope ["value", "places"] ["value", "places"] (defScope st_is_layout) :=
  ⟨rfl, rfl, rfl, by decide +kernel, rfl, by decide +kernel, by decide +kernel⟩
abbrev st_is_habit : Stmt := topS 16
theorem sc_is_habit : FnScope ["value", "moves"] ["value"] (defScope st_is_habit) :=
  ⟨rfl, rfl, rfl, by decide +kernel, rfl, by decide +kernel, by decide +kernel⟩
abbrev st_check_habits : Stmt := topS 17
theorem sc_check_habits : FnScope ["habits", "most", "index", "habit"] ["habits", "most"] (defScope st_check_habits) :=
  ⟨rfl, rfl, rfl, by decide +kernel, rfl, by decide +kernel, by decide +kernel⟩
abbrev st_is_lot : Stmt := topS 18
theorem sc_is_lot : FnScope ["value", "places"] ["value", "places"] (defScope st_is_lot) :=
  ⟨rfl, rfl, rfl, by decide +kernel, rfl, by decide +kernel, by decide +kernel⟩
abbrev st_check_lot : Stmt := topS 19
theorem sc_check_lot : FnScope ["lot", "places"] ["lot", "places"] (defScope st_check_lot) :=
  ⟨rfl, rfl, rfl, by decide +kernel, rfl, by decide +kernel, by decide +kernel⟩
abbrev st_test : Stmt := topS 26
theorem sc_test : FnScope ["habit", "other", "lot"] ["habit", "other", "lot"] (defScope st_test) :=
  ⟨rfl, rfl, rfl, by decide +kernel, rfl, by decide +kernel, by decide +kernel⟩
abbrev st_shows_test : Stmt := topS 27
theorem sc_shows_test : FnScope ["habit", "other", "lot", "value", "shortest", "place", "word", "read"] ["habit", "other", "lot", "value"] (defScope st_shows_test) :=
  ⟨rfl, rfl, rfl, by decide +kernel, rfl, by decide +kernel, by decide +kernel⟩
abbrev st_alike_paper : Stmt := topS 28
theorem sc_alike_paper : FnScope ["habit", "other", "lot", "step", "pairs", "first", "pair"] ["habit", "other", "lot"] (defScope st_alike_paper) :=
  ⟨rfl, rfl, rfl, by decide +kernel, rfl, by decide +kernel, by decide +kernel⟩
abbrev st_shows_alike : Stmt := topS 29
theorem sc_shows_alike : FnScope ["habit", "other", "lot", "value", "places", "step", "needed", "has_all", "pair", "place"] ["habit", "other", "lot", "value"] (defScope st_shows_alike) :=
  ⟨rfl, rfl, rfl, by decide +kernel, rfl, by decide +kernel, by decide +kernel⟩
abbrev st_habits_left : Stmt := topS 30
theorem sc_habits_left : FnScope ["habits", "lot", "place", "word", "read", "is_marked", "index", "habit"] ["habits", "lot", "place", "word", "read", "is_marked"] (defScope st_habits_left) :=
  ⟨rfl, rfl, rfl, by decide +kernel, rfl, by decide +kernel, by decide +kernel⟩
abbrev st_check_two : Stmt := topS 31
theorem sc_check_two : FnScope ["habit", "other", "lot"] ["habit", "other", "lot"] (defScope st_check_two) :=
  ⟨rfl, rfl, rfl, by decide +kernel, rfl, by decide +kernel, by decide +kernel⟩
abbrev st_is_of_lot : Stmt := topS 32
theorem sc_is_of_lot : FnScope ["value", "lot", "places"] ["value", "lot", "places"] (defScope st_is_of_lot) :=
  ⟨rfl, rfl, rfl, by decide +kernel, rfl, by decide +kernel, by decide +kernel⟩
abbrev st_is_test : Stmt := topS 33
theorem sc_is_test : FnScope ["place", "word", "read", "lot", "places", "touch"] ["place", "word", "read", "lot", "places"] (defScope st_is_test) :=
  ⟨rfl, rfl, rfl, by decide +kernel, rfl, by decide +kernel, by decide +kernel⟩
abbrev st__law_taken : Stmt := topS 40
theorem sc__law_taken : FnScope ["row", "many", "found", "cell"] ["row", "many"] (defScope st__law_taken) :=
  ⟨rfl, rfl, rfl, by decide +kernel, rfl, by decide +kernel, by decide +kernel⟩
abbrev st__law_order : Stmt := topS 41
theorem sc__law_order : FnScope ["row", "many", "left", "found"] ["row", "many"] (defScope st__law_order) :=
  ⟨rfl, rfl, rfl, by decide +kernel, rfl, by decide +kernel, by decide +kernel⟩
abbrev st__law_habit : Stmt := topS 42
theorem sc__law_habit : FnScope ["row", "places", "way", "found", "place", "moved", "other", "spot"] ["row", "places"] (defScope st__law_habit) :=
  ⟨rfl, rfl, rfl, by decide +kernel, rfl, by decide +kernel, by decide +kernel⟩
abbrev st__law_pick : Stmt := topS 43
theorem sc__law_pick : FnScope ["row", "things"] ["row", "things"] (defScope st__law_pick) :=
  ⟨rfl, rfl, rfl, by decide +kernel, rfl, by decide +kernel, by decide +kernel⟩
abbrev st__law_refused : Stmt := topS 44
theorem sc__law_refused : FnScope ["work", "found", "e", "kinds", "names"] ["work"] (defScope st__law_refused) :=
  ⟨rfl, rfl, rfl, by decide +kernel, rfl, by decide +kernel, by decide +kernel⟩
abbrev st__law_works : Stmt := topS 45
theorem sc__law_works : FnScope ["one", "other", "third", "works"] ["one", "other", "third"] (defScope st__law_works) :=
  ⟨rfl, rfl, rfl, by decide +kernel, rfl, by decide +kernel, by decide +kernel⟩
abbrev st__law_lefts : Stmt := topS 46
theorem sc__law_lefts : FnScope ["one", "other", "third", "fourth", "fifth", "sixth", "works"] ["one", "other", "third", "fourth", "fifth", "sixth"] (defScope st__law_lefts) :=
  ⟨rfl, rfl, rfl, by decide +kernel, rfl, by decide +kernel, by decide +kernel⟩
abbrev st_law : Stmt := topS 47
theorem sc_law : FnScope ["script", "row", "places", "habit", "bad", "lot", "spot", "word", "answer", "work"] ["script"] (defScope st_law) :=
  ⟨rfl, rfl, rfl, by decide +kernel, rfl, by decide +kernel, by decide +kernel⟩
/-! ### what the top has written -/
/-- the def x of the text stands in the module under its name -/
structure Df (K : PySem.W.Frag) (mg : Str → Option Value) (x : Str) (st : Stmt) (ps : List Str) : Prop where
  ex : ∃ (f : Addr) (fd : FuncData), Fun K x x st f fd ∧ mg x = some (.ref f) ∧ Binds K fd ps []
/-- names of the interpreter that the module leaves alone -/
structure Bu (mg : Str → Option Value) : Prop where
  isi : mg "isinstance" = none
  int : mg "int" = none
  bool : mg "bool" = none
  str : mg "str" = none
  tuple : mg "tuple" = none
  list : mg "list" = none
  len : mg "len" = none
  all : mg "all" = none
  zip : mg "zip" = none
  range : mg "range" = none
  sorted : mg "sorted" = none
  enumerate : mg "enumerate" = none
  max : mg "max" = none
section
variable {P : Program} {w : World} {K : PySem.W.Frag} {mg : Str → Option Value} {base : Heap}
/-- a def that may be called by its name -/
structure Cal (P : Program) (w : World) (K : PySem.W.Frag) (mg : Str → Option Value) (base : Heap) (k : Nat) (x : Str) (sp : Sp) : Prop where
  ex : ∃ (f : Addr) (fd : FuncData) (ps : List Str), FnOk P w K mg base CX0 k f fd ps sp ∧ mg x = some (.ref f) ∧ PySem.W.keepIn K (.ref f) = true ∧ Binds K fd ps []
theorem mkCal {x : Str} {st : Stmt} {N ps : List Str} {k : Nat} {sp : Sp} (F : Df K mg x st ps) (S : FnScope N ps (defScope st)) (len : ∀ vs H Q E, sp vs H Q E → vs.length = ps.length)
    (hbody : ∀ (f : Addr) (cdv : Value) (A : Around) (outer : List Env) (s : Shared) (H : Hp) (vs : List V) (Q : VK) (E : XK), Room k (A.deeper (envOfC x (defScope st) s.heap.objs.size f cdv)) → sp vs H Q E →
      ∃ t, PSs (cxOf CX0 P w K mg base N x (defScope st) f cdv A outer s H E).nox (defBody st) t ∧ t { nx := fun _ H' => Q .non H', rt := Q } (start N vs) H) : Cal P w K mg base (k + 1) x sp := by
  obtain ⟨f, fd, F, g, b⟩ := F.ex
  exact ⟨f, fd, ps, F.ok S len (hbody f), g, F.kp, b⟩
theorem Cal.imp {k : Nat} {x : Str} {sp sp' : Sp} (c : Cal P w K mg base k x sp) (h : ∀ vs H Q E, sp' vs H Q E → sp vs H Q E) : Cal P w K mg base k x sp' := by
  obtain ⟨f, fd, ps, F, g, kp, b⟩ := c.ex
  exact ⟨f, fd, ps, F.imp h, g, kp, b⟩
end
theorem pc {X : Cx} {k j : Nat} {x : Str} {sp : Sp} {p pos : Pos} {e : Expr} {es : List Expr} {t : TA} (c : Cal X.prog X.w X.K X.mg X.base k x sp) (hr : Room j X.A) (ha : PA X (e :: es) t) (hk : k ≤ j := by decide) (hg : Gl X x := by rfl)
    (hdb : (x == ("__debug__" : Str)) = false := by decide) (he : starEach (e :: es) X.env = (false, eval e X.env) :: starEach es X.env := by rfl) (hpl : (backTo pos (starEach es X.env)).any (·.1) = false := by rfl) :
    PE X (.Call (.Name x p) (e :: es) [] pos) (tCall sp [] E0 t) := by
  obtain ⟨f, fd, ps, F, hm, kp, b⟩ := c.ex
  exact pe_call F (hr.mono hk) hg hm kp b .nil pass0 ha hdb he hpl
/-- a statement that is never come to -/
theorem ps_no {X : Cx} {st : Stmt} : PS X st (fun _ _ _ => False) := ⟨fun _ _ _ _ _ _ h => h.elim⟩
/-! ### heaps, tuples of ints, and of such -/
theorem same_new {H : Hp} {p : Addr} {o : HO} (h : H p = none) : Same H (upd H p o) := fun b x e => by
  rw [upd_ne (ne_of_none e h)]
  exact e
theorem seqT {K : PySem.W.Frag} {H H' : Hp} {a : Addr} {xs : List V} (e : ∀ o, H a = some o → H' a = some o) (h : SqT K H a xs) : SqT K H' a xs := by
  rcases h with (h | ⟨o, h⟩) | h
  · exact .inl (.inl (e _ h))
  · exact .inl (.inr ⟨o, e _ h⟩)
  · exact .inr h
theorem onT {K : PySem.W.Frag} {H H' : Hp} {a : Addr} {xs : List V} (e : Same H H') (h : SqT K H a xs) : SqT K H' a xs := seqT (fun o => e a o) h
theorem tupAt {K : PySem.W.Frag} {H : Hp} {a : Addr} {xs : List V} (h : H a = some (.tup xs)) : SqT K H a xs := .inl (.inl h)
theorem lstAt {K : PySem.W.Frag} {H : Hp} {a : Addr} {xs : List V} (h : H a = some (.lst xs)) : SqL K H a xs := .inl (.inl h)
/-- a tuple's type -/
theorem ty_tup {K : PySem.W.Frag} {H : Hp} {a : Addr} {xs : List V} (h : SqT K H a xs) : TyX K H (.ref a) (.type "tuple") := by
  rcases h with (h | ⟨o, h⟩) | ⟨o, its, n, h, c, _⟩
  · exact .base (.tup h)
  · exact .fTuple h
  · exact .kTuple h c
/-- each by each -/
inductive Each {α : Type} (R : V → α → Prop) : List V → List α → Prop
  | nil : Each R [] []
  | cons {v : V} {d : α} {vs : List V} {ds : List α} : R v d → Each R vs ds → Each R (v :: vs) (d :: ds)
theorem Each.len {α : Type} {R : V → α → Prop} : ∀ {vs : List V} {ds : List α}, Each R vs ds → vs.length = ds.length
  | _, _, .nil => rfl
  | _, _, .cons _ t => congrArg (· + 1) t.len
theorem Each.imp {α : Type} {R R' : V → α → Prop} (f : ∀ v d, R v d → R' v d) : ∀ {vs : List V} {ds : List α}, Each R vs ds → Each R' vs ds
  | _, _, .nil => .nil
  | _, _, .cons h t => .cons (f _ _ h) (t.imp f)
theorem Each.at {α : Type} {R : V → α → Prop} : ∀ {vs : List V} {ds : List α} {i : Nat} {v : V}, Each R vs ds → vs[i]? = some v → ∃ d, ds[i]? = some d ∧ R v d
  | _, _, _, _, .nil, e => by simp at e
  | _, _, 0, _, .cons h _, e => by
    have e' := Option.some.inj e
    subst e'
    exact ⟨_, rfl, h⟩
  | _, _, i + 1, _, .cons _ t, e => t.at (i := i) e
theorem Each.snoc {α : Type} {R : V → α → Prop} {v : V} {d : α} (h : R v d) : ∀ {vs : List V} {ds : List α}, Each R vs ds → Each R (vs ++ [v]) (ds ++ [d])
  | _, _, .nil => .cons h .nil
  | _, _, .cons g t => .cons g (t.snoc h)
/-- a tuple of ints -/
def TI (K : PySem.W.Frag) (H : Hp) (v : V) (ns : List Int) : Prop := ∃ a, v = .ref a ∧ SqT K H a (ns.map V.int)
/-- a tuple of such -/
def TII (K : PySem.W.Frag) (H : Hp) (v : V) (nss : List (List Int)) : Prop := ∃ a vs, v = .ref a ∧ SqT K H a vs ∧ Each (TI K H) vs nss
def THs (K : PySem.W.Frag) (H : Hp) (v : V) (hs : List (List (List Int))) : Prop := ∃ a vs, v = .ref a ∧ SqT K H a vs ∧ Each (TII K H) vs hs
/-- all tuples stand -/
def Tups (K : PySem.W.Frag) (H H' : Hp) : Prop := ∀ a xs, SqT K H a xs → SqT K H' a xs
theorem Same.tups {K : PySem.W.Frag} {H H' : Hp} (e : Same H H') : Tups K H H' := fun _ _ h => onT e h
theorem TI.on {K : PySem.W.Frag} {H H' : Hp} {v : V} {ns : List Int} (e : Tups K H H') (h : TI K H v ns) : TI K H' v ns := let ⟨a, h1, h2⟩ := h; ⟨a, h1, e _ _ h2⟩
theorem TII.on {K : PySem.W.Frag} {H H' : Hp} {v : V} {nss : List (List Int)} (e : Tups K H H') (h : TII K H v nss) : TII K H' v nss := let ⟨a, vs, h1, h2, h3⟩ := h; ⟨a, vs, h1, e _ _ h2, h3.imp fun _ _ z => z.on e⟩
theorem THs.on {K : PySem.W.Frag} {H H' : Hp} {v : V} {hs : List (List (List Int))} (e : Tups K H H') (h : THs K H v hs) : THs K H' v hs := let ⟨a, vs, h1, h2, h3⟩ := h; ⟨a, vs, h1, e _ _ h2, h3.imp fun _ _ z => z.on e⟩
theorem map_at {ns : List Int} {i : Nat} {x : V} (h : (ns.map V.int)[i]? = some x) : ∃ n, ns[i]? = some n ∧ x = .int n := by
  rw [List.getElem?_map] at h
  cases e : ns[i]? with
  | none =>
    rw [e] at h
    cases h
  | some n =>
    rw [e] at h
    exact ⟨n, rfl, (Option.some.inj h).symm⟩
theorem at_map {ns : List Int} {i : Nat} {n : Int} (h : ns[i]? = some n) : (ns.map V.int)[i]? = some (.int n) := by
  rw [List.getElem?_map, h]
  rfl
theorem all_snoc {α : Type} (f : α → Bool) {l : List α} {i : Nat} {x : α} (h : l[i]? = some x) : (l.take (i + 1)).map f = (l.take i).map f ++ [f x] := by
  rw [List.take_add_one, h, List.map_append]
  rfl
/-! ### lists of ints, compared -/
theorem dpAll_ints {K : PySem.W.Frag} {H : Hp} : ∀ ns : List Int, DpAll K H (ns.map V.int) (ns.map PyData.int)
  | [] => .nil
  | n :: ns => .cons (.int n) (dpAll_ints ns)
theorem dp_lst {K : PySem.W.Frag} {H : Hp} {a : Addr} {ns : List Int} (h : SqL K H a (ns.map V.int)) : Dp K H (.ref a) (.list (ns.map PyData.int)) := .lst h (dpAll_ints ns)
theorem eqv_lst (ns ms : List Int) : PyData.eqv (.list (ns.map PyData.int)) (.list (ms.map PyData.int)) = decide (ns = ms) := by
  rw [PyData.eqv]
  exact PySem.W.ked_eqvAll ns ms
def rg (n : Nat) : List Int := (List.range n).map fun i : Nat => (i : Int)
theorem rgV_rg (n : Nat) : rgV 0 (n : Int) = (rg n).map V.int := by
  unfold rgV rg
  rw [List.map_map, Int.sub_zero, Int.toNat_natCast]
  refine List.map_congr_left fun i _ => ?_
  show V.int (0 + (i : Int)) = V.int (i : Int)
  rw [Int.zero_add]
theorem rg_len (n : Nat) : (rg n).length = n := by
  unfold rg
  rw [List.length_map, List.length_range]
theorem rg_mem {n : Nat} {x : Int} : x ∈ rg n ↔ 0 ≤ x ∧ x < n := by
  unfold rg
  rw [List.mem_map]
  constructor
  · rintro ⟨i, h, rfl⟩
    have := List.mem_range.mp h
    omega
  · rintro ⟨h1, h2⟩
    exact ⟨x.toNat, List.mem_range.mpr (by omega), by omega⟩
/-! ### walks over enumerate and zip of tuples -/
section
variable {K : PySem.W.Frag} {a b : Addr} {xs ys : List V}
theorem for_enumT {g : TG} {tb : TS} {D : Ends} {σ : L2.St} {H : Hp} (Pv : Nat → L2.St → Hp → Prop) (h0 : Pv 0 σ H) (hl : ∀ i σ H, Pv i σ H → SqT K H a xs)
    (hs : ∀ i x T σ H, xs[i]? = some x → Pv i σ H → H T = none → g (.ref T) σ (upd H T (.tup [.int (i : Nat), x])) fun σ2 H2 => tb { D with nx := Pv (i + 1), ct := Pv (i + 1), bk := D.nx } σ2 H2) (hd : ∀ σ H, Pv xs.length σ H → D.nx σ H) :
    ∃ W : Nat → Nat → L2.St → Hp → Prop, (∃ m, W 0 m σ H) ∧ ∀ i m σ H, W i m σ H →
      ((IteT K a).stop i H ∧ D.nx σ H) ∨ ((IteT K a).go i H ∧ ∃ N : L2.St → Hp → Prop, (∀ σ' H', N σ' H' → ∃ m', m' < m ∧ W (i + 1) m' σ' H') ∧ ∀ x H', (IteT K a).yld i H x H' → g x σ H' fun σ2 H2 => tb { D with nx := N, ct := N, bk := D.nx } σ2 H2) := by
  refine ⟨fun i m σ H => m = xs.length - i ∧ i ≤ xs.length ∧ Pv i σ H, ⟨xs.length, rfl, Nat.zero_le _, h0⟩, ?_⟩
  rintro i m σ H ⟨rfl, hi, p⟩
  have q := hl i σ H p
  by_cases hlt : i < xs.length
  · have hx : xs[i]? = some xs[i] := List.getElem?_eq_getElem hlt
    refine .inr ⟨⟨xs, _, q, hx⟩, Pv (i + 1), fun σ' H' p' => ⟨xs.length - (i + 1), by omega, rfl, hlt, p'⟩, fun v H' y => ?_⟩
    obtain ⟨T, x', rfl, hT, rfl, f1⟩ := y
    exact hs i x' T σ H (f1 xs q) p hT
  · have e : i = xs.length := by omega
    subst e
    exact .inl ⟨⟨xs, q, Nat.le_refl _⟩, hd σ H p⟩
theorem lc_zipT {g : TG} {tt : TT} {te : TE} {vs : List Nat} {σ : L2.St} {H1 : Hp} {D : Addr} {Qd : Hp → Prop} (n : Nat) (hn : n = min xs.length ys.length) (Pv : Nat → Hp → Prop) (h0 : Pv 0 (upd H1 D (.lst []))) (hl : ∀ i H, Pv i H → SqT K H a xs ∧ SqT K H b ys)
    (hs : ∀ i x z T H, xs[i]? = some x → ys[i]? = some z → Pv i H → H T = none → g (.ref T) (wipe σ vs) (upd H T (.tup [x, z])) fun σ2 H2 => wipe σ2 vs = wipe σ vs ∧ tt σ2 H2 fun k H3 =>
      if k = true then te σ2 H3 fun y H4 => ∃ acc, H4 D = some (.lst acc) ∧ acc.length < sizeLine ∧ Pv (i + 1) (upd H4 D (.lst (acc ++ [y]))) else Pv (i + 1) H3) (hd : ∀ H, Pv n H → Qd H) :
    ∃ W : Nat → Nat → Hp → Prop, (∃ m, W 0 m (upd H1 D (.lst []))) ∧ ∀ i m H, W i m H →
      ((RZ.ItzT K a b).stop i H ∧ Qd H) ∨ ((RZ.ItzT K a b).go i H ∧ ∃ Nx : Hp → Prop, (∀ H', Nx H' → ∃ m', m' < m ∧ W (i + 1) m' H') ∧ ∀ x H', (RZ.ItzT K a b).yld i H x H' → g x (wipe σ vs) H' fun σ2 H2 => wipe σ2 vs = wipe σ vs ∧ tt σ2 H2 fun k H3 =>
        if k = true then te σ2 H3 fun y H4 => ∃ acc, H4 D = some (.lst acc) ∧ acc.length < sizeLine ∧ Nx (upd H4 D (.lst (acc ++ [y]))) else Nx H3) := by
  refine ⟨fun i m H => m = n - i ∧ i ≤ n ∧ Pv i H, ⟨n, rfl, Nat.zero_le _, h0⟩, ?_⟩
  rintro i m H ⟨rfl, hi, p⟩
  obtain ⟨q1, q2⟩ := hl i H p
  by_cases hlt : i < n
  · have hx : xs[i]? = some xs[i] := List.getElem?_eq_getElem (by omega)
    have hy : ys[i]? = some ys[i] := List.getElem?_eq_getElem (by omega)
    refine .inr ⟨⟨xs, ys, _, _, q1, q2, hx, hy⟩, Pv (i + 1), fun H' p' => ⟨n - (i + 1), by omega, rfl, hlt, p'⟩, fun v H' y => ?_⟩
    obtain ⟨T, x', z', rfl, hT, rfl, f1, f2⟩ := y
    exact hs i x' z' T H (f1 xs q1) (f2 ys q2) p hT
  · have e : i = n := by omega
    subst e
    exact .inl ⟨⟨xs, ys, q1, q2, by omega⟩, hd H p⟩
end
end RH
set_option Elab.async false
set_option linter.all false
set_option maxRecDepth 100000
set_option maxHeartbeats 2000000
set_option Elab.async false
set_option linter.all false
set_option maxRecDepth 100000
set_option maxHeartbeats 2000000
namespace RH
open PySem PySem.Spec PyProof.Rows L2
section
variable {P : Program} {w : World} {K : PySem.W.Frag} {mg : Str → Option Value} {base : Heap}
/-- all are places -/
def inP (p : Int) (ns : List Int) : Bool := ns.all fun i => decide (0 ≤ i) && decide (i ≤ p - 1)
end
end RH
set_option Elab.async false
set_option linter.all false
set_option maxRecDepth 100000
set_option maxHeartbeats 2000000
namespace RH
open PySem PySem.Spec PyProof.Rows L2
/-! ### slices and constants -/
theorem cut_from (xs : List V) (k : Nat) : cutV xs (some (k : Int)) none = xs.drop k := by
  unfold cutV
  rw [HT.sIx_nat, HT.sIx_none]
  rcases Nat.le_total k xs.length with h | h
  · rw [Nat.min_eq_left h]
    exact List.take_of_length_le (by rw [List.length_drop]; exact Nat.le_refl _)
  · rw [Nat.min_eq_right h, Nat.sub_self, List.take_zero, List.drop_eq_nil_of_le h]
theorem cut_to (xs : List V) (k : Nat) : cutV xs none (some (k : Int)) = xs.take k := by
  unfold cutV
  rw [HT.sIx_nat, HT.sIx_none, List.drop_zero, Nat.sub_zero]
  rcases Nat.le_total k xs.length with h | h
  · rw [Nat.min_eq_left h]
  · rw [Nat.min_eq_right h, List.take_length, List.take_of_length_le h]
/-- t[k:], k written -/
theorem slT_from {K : PySem.W.Frag} {H : Hp} {a : Addr} {xs : List V} {Q : VK} (z : Int) (k : Nat) (hz : z = (k : Int)) (h : SqT K H a xs) (q : ∀ b H2, Same H H2 → SqT K H2 b (xs.drop k) → Q (.ref b) H2) : rSlA K (.ref a) (some z) none H Q := by
  subst hz
  refine ⟨a, xs, rfl, h, fun hf => q a H (Same.refl H) ?_, fun _ p hp => q p _ (same_new hp) (tupAt (by rw [upd_same, cut_from]))⟩
  have e := hf.1
  rw [HT.sIx_nat] at e
  rcases Nat.le_total k xs.length with h' | h'
  · rw [Nat.min_eq_left h'] at e
    rw [e, List.drop_zero]
    exact h
  · rw [Nat.min_eq_right h'] at e
    have e2 : xs = [] := List.eq_nil_of_length_eq_zero e
    subst e2
    rw [List.drop_nil]
    exact h
/-- a number that the module keeps -/
theorem pk {X : Cx} {x : Str} {i : Int} {pos : Pos} (h : ∃ t, X.mg x = some (.int i t)) (hg : Gl X x := by rfl) (hn : x ≠ "__name__" := by decide) (hd : (x == ("__debug__" : Str)) = false := by decide) : PE X (.Name x pos) (tC (.int i)) := by
  obtain ⟨t, h⟩ := h
  exact pe_glob (v := .int i) hg h ⟨_, rfl⟩ hd
/-! ### rules within a comprehension: the written part is told -/
def rLenK (K : PySem.W.Frag) : List V → Hp → VK → Prop := fun xs H Q => ∃ p ys, xs = [.ref p] ∧ (SqL K H p ys ∨ SqT K H p ys) ∧ Q (.int ys.length) H
theorem cl_len {X : Cx} (K : PySem.W.Frag) (h : X.K = K := by rfl) : CallR X (.builtin "len") (rLenK K) := by
  subst h
  exact call_len_seq
theorem ixT {X : Cx} (K : PySem.W.Frag) (h : X.K = K := by rfl) : IxR X (rIxT K) := by
  subst h
  exact ix_tup
theorem opIn {X : Cx} (K : PySem.W.Frag) (h : X.K = K := by rfl) : OpR X (compareOp .In) (rIn K false) := by
  subst h
  exact op_in_seq
/-! ### rising, a layout, a habit -/
def risI (ns : List Int) : Bool := (ns.zip (ns.drop 1)).all fun p => decide (p.1 < p.2)
def isLay (p : Nat) (ns : List Int) : Bool := ns.isPerm (rg p)
theorem rg_le (p : Nat) : (rg p).Pairwise (· ≤ ·) := by
  unfold rg
  rw [List.pairwise_map]
  exact (List.pairwise_lt_range (n := p)).imp fun h => by omega
section
variable {P : Program} {w : World} {K : PySem.W.Frag} {mg : Str → Option Value} {base : Heap}
def spIsRising (K : PySem.W.Frag) : Sp := fun vs H Q _ => ∃ (v : V) (ns : List Int), vs = [v] ∧ TI K H v ns ∧ ns.length ≤ 1000 ∧ ∀ H', Same H H' → Q (.bl (risI ns)) H'
theorem ok_is_rising (F : Df K mg "is_rising" st_is_rising ["row"]) (B : Bu mg) : Cal P w K mg base 1 "is_rising" (spIsRising K) := by
  refine mkCal F sc_is_rising (fun vs H Q E h => ?_) (fun f cdv A outer s H vs Q E hr h => ?_)
  · obtain ⟨v, ns, rfl, _⟩ := h
    rfl
  · obtain ⟨v, ns, rfl, ⟨a, rfl, hS⟩, hlen, q⟩ := h
    refine ⟨_, pss_one (ps_ret (pe_callB (cr_all rfl) (by rfl) B.all (by decide +kernel) (pa_cons (pe_lc (own := [("one", 1), ("other", 2)]) (g := gTup K 2 (gCons (gName 1) (gCons (gName 2) gNil))) (tt := tYes) rfl sc_is_rising.nd
        (RZ.pi_zipA (by rfl) B.zip (pa_cons (pv 0) (pa_cons (pe_slice sl_tupA (pv 0) (po_some pe_int) po_none) pa_nil))) (blkOk_by (N := ["row", "one", "other"]) (sc := defScope st_is_rising) (by decide +kernel))
        (fun _ _ _ _ _ => pg_tup rfl (pgs_cons (pg_name (i := 1) sc_is_rising.nd rfl (Or.inl rfl)) (pgs_cons (pg_name (i := 2) sc_is_rising.nd rfl (Or.inl rfl)) pgs_nil))) (fun _ _ _ _ _ => pts_nil)
        (fun _ _ _ _ _ => pe_cmpR op_lt (pv 1) (pv 2) (nomark _))) pa_nil))), ?_⟩
    refine ⟨_, rfl, _, rfl, 1, rfl, ?_⟩
    unfold tNoPart
    dsimp only
    refine slT_from 1 1 rfl hS fun b H2 sm2 hb => ?_
    rw [← List.map_drop] at hb
    refine ⟨a, b, _, _, rfl, .inr ⟨onT sm2 hS, hb, fun D hD => ?_⟩⟩
    refine lc_zipT (xs := ns.map V.int) (ys := (ns.drop 1).map V.int) (ns.zip (ns.drop 1)).length (by rw [List.length_zip, List.length_map, List.length_map])
      (fun i H' => Same H2 H' ∧ H' D = some (.lst ((((ns.zip (ns.drop 1)).take i).map fun p => decide (p.1 < p.2)).map V.bl))) ⟨same_new hD, upd_same⟩ (fun i H' h' => ⟨onT h'.1 (onT sm2 hS), onT h'.1 hb⟩) (fun i x z T H' hx hz h' hT => ?_) (fun H' h' => ?_)
    · obtain ⟨m, hm, rfl⟩ := map_at hx
      obtain ⟨n, hn, rfl⟩ := map_at hz
      obtain ⟨sm, eD⟩ := h'
      have eDT : (upd H' T (.tup [.int m, .int n])) D = H' D := upd_ne (ne_of_none eD hT)
      refine ⟨T, _, rfl, tupAt upd_same, rfl, _, _, rfl, _, _, rfl, rfl, rfl, _, rfl, _, rfl, m, n, rfl, rfl, _, eDT.trans eD, ?_, ?_, ?_⟩
      · rw [List.length_map, List.length_map, List.length_take, List.length_zip]
        exact small1000 (by omega)
      · intro b' o e
        rw [upd_ne (ne_of_none e hD)]
        exact same_new hT b' o (sm b' o e)
      · have hz : (ns.zip (ns.drop 1))[i]? = some (m, n) := by
          rw [List.getElem?_zip_eq_some]
          exact ⟨hm, hn⟩
        rw [upd_same, all_snoc _ hz, List.map_append]
        rfl
    · obtain ⟨sm, eD⟩ := h'
      rw [List.take_length] at eD
      refine ⟨D, _, rfl, lstAt eD, ?_⟩
      have e : (((ns.zip (ns.drop 1)).map fun p => decide (p.1 < p.2)).all id) = risI ns := by
        unfold risI
        rw [List.all_map]
        rfl
      rw [e]
      exact q H' (sm2.trans sm)
end
end RH
set_option Elab.async false
set_option linter.all false
set_option maxRecDepth 100000
set_option maxHeartbeats 2000000
namespace RH
open PySem PySem.Spec PyProof.Rows L2
/-! ### the mathematics of marks -/
theorem ifT {c : Bool} {A B : Prop} (hc : c = true) (h : A) : if c = true then A else B := by
  rw [if_pos hc]
  exact h
theorem ifF {c : Bool} {A B : Prop} (hc : c = false) (h : B) : if c = true then A else B := by
  rw [hc, if_neg Bool.false_ne_true]
  exact h
theorem inV_int (i : Int) : ∀ ns : List Int, inV (.int i) (ns.map V.int) = decide (i ∈ ns)
  | [] => rfl
  | n :: ns => by
    have ih := inV_int i ns
    unfold inV at ih ⊢
    rw [List.map_cons, List.any_cons, ih]
    show (n == i || decide (i ∈ ns)) = _
    rw [Bool.eq_iff_iff]
    simp only [Bool.or_eq_true, beq_iff_eq, decide_eq_true_eq, List.mem_cons]
    constructor
    · rintro (h | h)
      · exact .inl h.symm
      · exact .inr h
    · rintro (h | h)
      · exact .inl h.symm
      · exact .inr h
theorem flat_ints : ∀ ns : List Int, (ns.map V.int).all flatV = true
  | [] => rfl
  | n :: ns => by
    rw [List.map_cons, List.all_cons, flat_ints ns]
    rfl
/-- a habit of n places -/
structure Hb (n : Nat) (h : List (List Int)) : Prop where
  len : h.length = n
  perm : ∀ ns ∈ h, ns.Perm (rg n)
  lo : 2 ≤ n
  hi : n ≤ 5
theorem Hb.short {n : Nat} {h : List (List Int)} (q : Hb n h) {ns : List Int} (hm : ns ∈ h) : ns.length = n := by
  rw [(q.perm ns hm).length_eq, rg_len]
def mv (h : List (List Int)) (t s : Int) : Int := (h.getD t.toNat []).getD s.toNat 0
theorem Hb.at {n : Nat} {h : List (List Int)} (q : Hb n h) {t s : Int} (t0 : 0 ≤ t) (t1 : t < n) (s0 : 0 ≤ s) (s1 : s < n) :
    ∃ ns, h[t.toNat]? = some ns ∧ ns[s.toNat]? = some (mv h t s) ∧ 0 ≤ mv h t s ∧ mv h t s < n := by
  have h1 : t.toNat < h.length := by rw [q.len]; omega
  have e1 : h[t.toNat]? = some h[t.toNat] := List.getElem?_eq_getElem h1
  have hm : h[t.toNat] ∈ h := List.getElem_mem h1
  have h2 : s.toNat < h[t.toNat].length := by rw [q.short hm]; omega
  have e2 : h[t.toNat][s.toNat]? = some h[t.toNat][s.toNat] := List.getElem?_eq_getElem h2
  have e4 : h.getD t.toNat [] = h[t.toNat] := by
    rw [List.getD_eq_getElem?_getD, e1]
    rfl
  have e3 : mv h t s = h[t.toNat][s.toNat] := by
    unfold mv
    rw [e4, List.getD_eq_getElem?_getD, e2]
    rfl
  have h4 := rg_mem.mp ((q.perm _ hm).mem_iff.mp (List.getElem_mem h2))
  rw [← e3] at h4
  exact ⟨_, e1, by rw [e3]; exact e2, h4⟩
/-- an item of an int's place -/
theorem at_int {α : Type} {xs : List α} {z : Int} {v : α} (h0 : 0 ≤ z) (h : xs[z.toNat]? = some v) : atI xs z = some v := by
  have e : z = ((z.toNat : Nat) : Int) := by omega
  rw [e]
  exact atI_nat h
/-- a def with defaults, of which none is written where it is called -/
structure DfD (K : PySem.W.Frag) (mg : Str → Option Value) (x : Str) (st : Stmt) (ps : List Str) (dvs : List V) : Prop where
  ex : ∃ (f : Addr) (fd : FuncData), FunD K x x (defArgs st) (defBody st) (defScope st) dvs [] f fd ∧ mg x = some (.ref f) ∧ ∃ ds, Vals dvs ds ∧ Binds K fd ps ds
end RH
set_option Elab.async false
set_option linter.all false
set_option maxRecDepth 100000
set_option maxHeartbeats 2000000
namespace RH
open PySem PySem.Spec PyProof.Rows L2
/-! ### the law's own row of draws -/
/-- all but what stands at p is as it was -/
def But (p : Addr) (H H' : Hp) : Prop := ∀ b o, H b = some o → b ≠ p → H' b = some o
theorem But.refl (p : Addr) (H : Hp) : But p H H := fun _ _ e _ => e
theorem But.trans {p : Addr} {H H1 H2 : Hp} (a : But p H H1) (b : But p H1 H2) : But p H H2 := fun c o e n => b c o (a c o e n) n
theorem But.same {p : Addr} {H H1 : Hp} (a : Same H H1) : But p H H1 := fun c o e _ => a c o e
theorem But.upd {p : Addr} {H H1 : Hp} {o : HO} (a : But p H H1) : But p H (upd H1 p o) := fun c u e n => by
  rw [upd_ne n]
  exact a c u e n
/-- all that is no list is as it was -/
def Fix (H H' : Hp) : Prop := ∀ b o, H b = some o → (∀ xs, o ≠ .lst xs) → H' b = some o
theorem Fix.refl (H : Hp) : Fix H H := fun _ _ e _ => e
theorem Fix.trans {H H1 H2 : Hp} (a : Fix H H1) (b : Fix H1 H2) : Fix H H2 := fun c o e n => b c o (a c o e n) n
theorem Fix.same {H H1 : Hp} (a : Same H H1) : Fix H H1 := fun c o e _ => a c o e
theorem Fix.lst {H : Hp} {p : Addr} {xs : List V} {o : HO} (h : H p = some (.lst xs)) : Fix H (L2.upd H p o) := fun b u e n => by
  by_cases z : b = p
  · subst z
    rw [h] at e
    cases e
    exact absurd rfl (n _)
  · rw [upd_ne z]
    exact e
theorem Fix.tups {K : PySem.W.Frag} {H H' : Hp} (b : Fix H H') : Tups K H H' := fun a xs hS => by
  rcases hS with (hS | ⟨u, hS⟩) | hS
  · exact .inl (.inl (b _ _ hS (fun _ z => nomatch z)))
  · exact .inl (.inr ⟨u, b _ _ hS (fun _ z => nomatch z)⟩)
  · exact .inr hS
theorem But.fix {H H' : Hp} {p : Addr} {xs : List V} (h : H p = some (.lst xs)) (b : But p H H') : Fix H H' := fun c o e n => b c o e fun z => by
  subst z
  rw [h] at e
  cases e
  exact n _ rfl
/-- a list that never changes -/
def Fz (K : PySem.W.Frag) (H : Hp) (a : Addr) (xs : List V) : Prop := (∃ o, H a = some (.frz o (.lst xs))) ∨ ∀ H', SqL K H' a xs
theorem Fz.seq {K : PySem.W.Frag} {H : Hp} {a : Addr} {xs : List V} (h : Fz K H a xs) : SqL K H a xs := by
  rcases h with ⟨o, h⟩ | h
  · exact .inl (.inr ⟨o, h⟩)
  · exact h H
theorem Fz.on {K : PySem.W.Frag} {H H' : Hp} {a : Addr} {xs : List V} (f : Fix H H') (h : Fz K H a xs) : Fz K H' a xs := by
  rcases h with ⟨o, h⟩ | h
  · exact .inl ⟨o, f _ _ h (fun _ z => nomatch z)⟩
  · exact .inr h
/-- row: the script, how many of it are taken, the running number, what is left of a great one -/
structure RowA (K : PySem.W.Frag) (H : Hp) (p a : Addr) (ns : List Int) (i r c : Int) : Prop where
  at_ : H p = some (.lst [.ref a, .int i, .int r, .int c])
  fz : Fz K H a (ns.map V.int)
  pos : 0 ≤ i
theorem RowA.scr {K : PySem.W.Frag} {H : Hp} {p a : Addr} {ns : List Int} {i r c : Int} (h : RowA K H p a ns i r c) : SqL K H a (ns.map V.int) := h.fz.seq
def Row (K : PySem.W.Frag) (H : Hp) (p : Addr) : Prop := ∃ a ns i r c, RowA K H p a ns i r c
theorem RowA.put {K : PySem.W.Frag} {H : Hp} {p a : Addr} {ns : List Int} {i r c i' r' c' : Int} (h : RowA K H p a ns i r c) (hi : 0 ≤ i') :
    RowA K (upd H p (.lst [.ref a, .int i', .int r', .int c'])) p a ns i' r' c' :=
  ⟨upd_same, h.fz.on (Fix.lst h.at_), hi⟩
theorem RowA.row {K : PySem.W.Frag} {H : Hp} {p a : Addr} {ns : List Int} {i r c : Int} (h : RowA K H p a ns i r c) : Row K H p := ⟨_, _, _, _, _, h⟩
theorem Row.lst {K : PySem.W.Frag} {H : Hp} {p : Addr} (h : Row K H p) : ∃ xs, H p = some (.lst xs) := by
  obtain ⟨a, ns, i, r, c, h⟩ := h
  exact ⟨_, h.at_⟩
theorem Row.fix {K : PySem.W.Frag} {H H' : Hp} {p : Addr} (h : Row K H p) (b : But p H H') : Fix H H' := by
  obtain ⟨xs, e⟩ := h.lst
  exact But.fix e b
theorem Row.on {K : PySem.W.Frag} {H H' : Hp} {p : Addr} (h : Row K H p) (f : Fix H H') (e : H' p = H p) : Row K H' p := by
  obtain ⟨a, ns, i, r, c, h⟩ := h
  exact ⟨a, ns, i, r, c, e.trans h.at_, h.fz.on f, h.pos⟩
theorem Row.same {K : PySem.W.Frag} {H H' : Hp} {p : Addr} (h : Row K H p) (s : Same H H') : Row K H' p := by
  obtain ⟨xs, e⟩ := h.lst
  exact h.on (Fix.same s) ((s _ _ e).trans e.symm)
/-- another list is written -/
theorem Row.lst_upd {K : PySem.W.Frag} {H : Hp} {p q : Addr} {xs : List V} {o : HO} (h : Row K H p) (e : H q = some (.lst xs)) (n : p ≠ q) : Row K (upd H q o) p := h.on (Fix.lst e) (upd_ne n)
/-- a new object -/
theorem Row.new {K : PySem.W.Frag} {H : Hp} {p q : Addr} {o : HO} (h : Row K H p) (e : H q = none) : Row K (upd H q o) p := h.same (same_new e)
theorem Row.ne {K : PySem.W.Frag} {H : Hp} {p q : Addr} (h : Row K H p) (e : H q = none) : p ≠ q := by
  obtain ⟨xs, e'⟩ := h.lst
  exact ne_of_none e' e
section
variable {P : Program} {w : World} {K : PySem.W.Frag} {mg : Str → Option Value} {base : Heap}
def spTaken (K : PySem.W.Frag) : Sp := fun vs H Q _ => ∃ (p : Addr) (m : Int), vs = [.ref p, .int m] ∧ Row K H p ∧ 0 < m ∧ m < 1048576 ∧ ∀ k H', 0 ≤ k → k < m → But p H H' → Row K H' p → Q (.int k) H'
theorem ok_taken (F : Df K mg "_law_taken" st__law_taken ["row", "many"]) (B : Bu mg) : Cal P w K mg base 1 "_law_taken" (spTaken K) := by
  refine mkCal F sc__law_taken (fun vs H Q E h => ?_) (fun f cdv A outer s H vs Q E hr h => ?_)
  · obtain ⟨p, m, rfl, _⟩ := h
    rfl
  · obtain ⟨p, m, rfl, ⟨a, ns, i, r, c, hR⟩, m0, m1, q⟩ := h
    refine ⟨_, pss_cons (ps_if (pt_cmpR op_gt (pe_ix ix_list (pv 0) pe_int (fun _ _ => rfl)) pe_int (nomark _))
        (pss_cons (ps_set (i := 2) sc__law_taken.nd rfl (.inl rfl) (pe_op op_mod (pe_callTy call_int1 (by rfl) B.int (by decide +kernel) (pa_cons (pe_ix ix_list (pv 0) pe_int (fun _ _ => rfl)) pa_nil)) (pv 1)))
        (pss_cons (ps_asg (pe_op op_fdiv (pe_ix ix_list (pv 0) pe_int (fun _ _ => rfl)) (pv 1)) (pg_sub (pv 0) pe_int set_list))
        (pss_one (ps_ret (pv 2))))) pss_nil)
      (pss_cons (ps_asg (pe_op op_add (pe_ix ix_list (pv 0) pe_int (fun _ _ => rfl)) pe_int) (pg_sub (pv 0) pe_int set_list))
      (pss_cons (ps_if (pt_cmpR op_gt (pe_ix ix_list (pv 0) pe_int (fun _ _ => rfl)) (pe_callB (cl_len K) (by rfl) B.len PySem.boot_len (pa_cons (pe_ix ix_list (pv 0) pe_int (fun _ _ => rfl)) pa_nil)) (nomark _))
        (pss_cons (ps_asg (pe_op op_mod (pe_callTy call_int1 (by rfl) B.int (by decide +kernel) (pa_cons (pe_op op_add (pe_op op_mul (pe_ix ix_list (pv 0) pe_int (fun _ _ => rfl)) pe_int) pe_int) pa_nil)) pe_int) (pg_sub (pv 0) pe_int set_list))
        (pss_one (ps_ret (pe_op op_mod (pe_callTy call_int1 (by rfl) B.int (by decide +kernel) (pa_cons (pe_op op_fdiv (pe_ix ix_list (pv 0) pe_int (fun _ _ => rfl)) pe_int) pa_nil)) (pv 1))))) pss_nil)
      (pss_cons (ps_set (i := 3) sc__law_taken.nd rfl (.inl rfl) (pe_ix ix_list (pe_ix ix_list (pv 0) pe_int (fun _ _ => rfl)) (pe_op op_sub (pe_ix ix_list (pv 0) pe_int (fun _ _ => rfl)) pe_int) (fun _ _ => rfl)))
      (pss_cons (ps_asg (pe_op op_mod (pe_callTy call_int1 (by rfl) B.int (by decide +kernel) (pa_cons (pe_op op_add (pe_op op_add (pe_op op_mul (pe_ix ix_list (pv 0) pe_int (fun _ _ => rfl)) pe_int) (pv 3)) pe_int) pa_nil)) pe_int) (pg_sub (pv 0) pe_int set_list))
      (pss_cons (ps_if (pt_cmpR op_ge (pv 3) (pe_op op_pow pe_int pe_int) (nomark _))
        (pss_one (ps_asg (pe_op op_fdiv (pv 3) (pv 1)) (pg_sub (pv 0) pe_int set_list))) pss_nil)
      (pss_one (ps_ret (pe_op op_mod (pe_callTy call_int1 (by rfl) B.int (by decide +kernel) (pa_cons (pv 3) pa_nil)) (pv 1))))))))), ?_⟩
    have L := hR.at_
    refine ⟨_, rfl, p, _, 3, .int c, rfl, rfl, lstAt L, rfl, c, 0, rfl, rfl, _, rfl, ite2 (fun e => ?_) (fun e => ?_)⟩
    · refine ⟨_, rfl, p, _, 3, .int c, rfl, rfl, lstAt L, rfl, .inl ⟨c, rfl, _, rfl, c, m, rfl, rfl, m0, ?_⟩⟩
      refine ⟨_, rfl, p, _, 3, .int c, rfl, rfl, lstAt L, rfl, _, rfl, c, m, rfl, rfl, ⟨m0, by omega⟩, _, rfl, p, _, 3, 3, rfl, rfl, L, rfl, ?_⟩
      exact ⟨_, rfl, q (c % m) _ (Int.emod_nonneg _ (by omega)) (Int.emod_lt_of_pos _ m0) (But.upd (But.refl p H)) (hR.put hR.pos).row⟩
    · refine ⟨_, rfl, p, _, 1, .int i, rfl, rfl, lstAt L, rfl, i, 1, rfl, rfl, _, rfl, p, _, 1, 1, rfl, rfl, L, rfl, ?_⟩
      have R1 : RowA K (upd H p (.lst [.ref a, .int (i + 1), .int r, .int c])) p a ns (i + 1) r c := hR.put (by have := hR.pos; omega)
      have L1 := R1.at_
      refine ⟨_, rfl, p, _, 1, .int (i + 1), rfl, rfl, lstAt L1, rfl, _, rfl, p, _, 0, .ref a, rfl, rfl, lstAt L1, rfl, a, _, rfl, .inl R1.scr, _, _, rfl, rfl, _, rfl, ite2 (fun e1 => ?_) (fun e1 => ?_)⟩
      · refine ⟨_, rfl, p, _, 2, .int r, rfl, rfl, lstAt L1, rfl, r, 48271, rfl, rfl, .inr ⟨by decide, by decide⟩, _, 11, rfl, rfl, .inl ⟨_, rfl, _, _, rfl, rfl, (by show (0 : Int) < 2147483647; decide), _, rfl, p, _, 2, 2, rfl, rfl, L1, rfl, ?_⟩⟩
        have R2 : RowA K (upd (upd H p (.lst [.ref a, .int (i + 1), .int r, .int c])) p (.lst [.ref a, .int (i + 1), .int ((r * 48271 + 11) % 2147483647), .int c])) p a ns (i + 1) ((r * 48271 + 11) % 2147483647) c := R1.put R1.pos
        refine ⟨_, rfl, p, _, 2, _, rfl, rfl, lstAt R2.at_, rfl, _, 7, rfl, rfl, ⟨by decide, by decide⟩, .inl ⟨_, rfl, _, rfl, _, m, rfl, rfl, m0, ?_⟩⟩
        exact q _ _ (Int.emod_nonneg _ (by omega)) (Int.emod_lt_of_pos _ m0) (But.upd (But.upd (But.refl p H))) R2.row
      · have hi : i < (ns.length : Int) := by
          rw [List.length_map] at e1
          have e9 : i + 1 ≤ (ns.length : Int) := by simpa using e1
          omega
        have hi0 := hR.pos
        obtain ⟨z, hz⟩ : ∃ z, ns[i.toNat]? = some z := ⟨ns[i.toNat]'(by omega), List.getElem?_eq_getElem (by omega)⟩
        refine ⟨_, rfl, p, _, 0, .ref a, rfl, rfl, lstAt L1, rfl, _, rfl, p, _, 1, .int (i + 1), rfl, rfl, lstAt L1, rfl, _, 1, rfl, rfl, a, _, i + 1 - 1, .int z, rfl, rfl, R1.scr, at_int (by omega) (at_map (by rw [show (i + 1 - 1).toNat = i.toNat by omega]; exact hz)), ?_⟩
        refine ⟨_, rfl, p, _, 2, .int r, rfl, rfl, lstAt L1, rfl, r, 48271, rfl, rfl, .inr ⟨by decide, by decide⟩, _, rfl, _, z, rfl, rfl, _, 11, rfl, rfl, .inl ⟨_, rfl, _, _, rfl, rfl, (by show (0 : Int) < 2147483647; decide), _, rfl, p, _, 2, 2, rfl, rfl, L1, rfl, ?_⟩⟩
        have R2 : RowA K (upd (upd H p (.lst [.ref a, .int (i + 1), .int r, .int c])) p (.lst [.ref a, .int (i + 1), .int ((r * 48271 + z + 11) % 2147483647), .int c])) p a ns (i + 1) ((r * 48271 + z + 11) % 2147483647) c := R1.put R1.pos
        refine ⟨_, rfl, 10, 18, rfl, rfl, ⟨by decide, by decide, by decide⟩, z, _, rfl, rfl, _, rfl, ite2 (fun e2 => ?_) (fun e2 => ?_)⟩
        · refine ⟨_, rfl, _, rfl, z, m, rfl, rfl, ⟨m0, by omega⟩, _, rfl, p, _, 3, 3, rfl, rfl, R2.at_, rfl, ?_⟩
          refine ⟨_, rfl, .inl ⟨z, rfl, _, rfl, z, m, rfl, rfl, m0, ?_⟩⟩
          exact q _ _ (Int.emod_nonneg _ (by omega)) (Int.emod_lt_of_pos _ m0) (But.upd (But.upd (But.upd (But.refl p H)))) (R2.put R2.pos).row
        · refine ⟨_, rfl, .inl ⟨z, rfl, _, rfl, z, m, rfl, rfl, m0, ?_⟩⟩
          exact q _ _ (Int.emod_nonneg _ (by omega)) (Int.emod_lt_of_pos _ m0) (But.upd (But.upd (But.refl p H))) R2.row
end
end RH
set_option Elab.async false
set_option linter.all false
set_option maxRecDepth 100000
set_option maxHeartbeats 2000000
namespace RH
open PySem PySem.Spec PyProof.Rows L2
theorem ix_nat {n : Nat} {k : Int} (h0 : 0 ≤ k) (h1 : k < n) : seqIndex? k n = some k.toNat := by
  unfold seqIndex?
  have e : (if k < 0 then k + (n : Int) else k) = k := if_neg (by omega)
  simp only [e]
  rw [if_pos]
  simp [h0, h1]
theorem But.fresh {p l : Addr} {H H1 : Hp} {o : HO} (a : But p H H1) (e : H l = none) : But p H (L2.upd H1 l o) := fun c u h n => by
  rw [upd_ne (ne_of_none h e)]
  exact a c u h n
theorem map_erase (ns : List Int) (k : Nat) : (ns.map V.int).eraseIdx k = (ns.eraseIdx k).map V.int := by
  induction ns generalizing k with
  | nil => rfl
  | cons n ns ih =>
    cases k with
    | zero => rfl
    | succ k =>
      show V.int n :: (ns.map V.int).eraseIdx k = V.int n :: (ns.eraseIdx k).map V.int
      rw [ih]
theorem perm_erase : ∀ {ls : List Int} {k : Nat} {y : Int}, ls[k]? = some y → ls.Perm (y :: ls.eraseIdx k)
  | [], k, y, h => by simp at h
  | a :: ls, 0, y, h => by
    have e : a = y := Option.some.inj h
    subst e
    exact List.Perm.refl _
  | a :: ls, k + 1, y, h => by
    have ih := perm_erase (ls := ls) (k := k) (y := y) h
    exact (ih.cons a).trans (List.Perm.swap ..)
section
variable {P : Program} {w : World} {K : PySem.W.Frag} {mg : Str → Option Value} {base : Heap}
def spPick (K : PySem.W.Frag) : Sp := fun vs H Q _ => ∃ (p l : Addr) (xs : List V), vs = [.ref p, .ref l] ∧ Row K H p ∧ H l = some (.lst xs) ∧ l ≠ p ∧ 0 < xs.length ∧ xs.length ≤ 1000 ∧
  ∀ (i : Nat) x H', xs[i]? = some x → But p H H' → Row K H' p → Q x H'
theorem ok_pick (F : Df K mg "_law_pick" st__law_pick ["row", "things"]) (B : Bu mg) (CT : Cal P w K mg base 1 "_law_taken" (spTaken K)) : Cal P w K mg base 2 "_law_pick" (spPick K) := by
  refine mkCal F sc__law_pick (fun vs H Q E h => ?_) (fun f cdv A outer s H vs Q E hr h => ?_)
  · obtain ⟨p, l, xs, rfl, _⟩ := h
    rfl
  · obtain ⟨p, l, xs, rfl, hR, hl, hlp, l0, l1, q⟩ := h
    refine ⟨_, pss_one (ps_ret (pe_ix ix_list (pv 1) (pc CT hr (pa_cons (pv 0) (pa_cons (pe_callB (cl_len K) (by rfl) B.len PySem.boot_len (pa_cons (pv 1) pa_nil)) pa_nil))) (fun _ _ => rfl))), ?_⟩
    refine ⟨_, rfl, _, rfl, _, rfl, l, xs, rfl, .inl (lstAt hl), p, xs.length, rfl, hR, by omega, by omega, fun k H' k0 k1 hB hR' => ?_⟩
    have hk : k.toNat < xs.length := by omega
    exact ⟨l, xs, k, _, rfl, rfl, lstAt (hB _ _ hl hlp), at_int k0 (List.getElem?_eq_getElem hk), q _ _ H' (List.getElem?_eq_getElem hk) hB hR'⟩
def spOrder (K : PySem.W.Frag) : Sp := fun vs H Q _ => ∃ (p : Addr) (n : Nat), vs = [.ref p, .int n] ∧ Row K H p ∧ n ≤ 1000 ∧ ∀ (H' : Hp) (q : Addr) (ns : List Int), ns.Perm (rg n) → But p H H' → Row K H' p → H q = none → FT H' q ns → Q (.ref q) H'
theorem ok_order (F : Df K mg "_law_order" st__law_order ["row", "many"]) (B : Bu mg) (CT : Cal P w K mg base 1 "_law_taken" (spTaken K)) : Cal P w K mg base 2 "_law_order" (spOrder K) := by
  refine mkCal F sc__law_order (fun vs H Q E h => ?_) (fun f cdv A outer s H vs Q E hr h => ?_)
  · obtain ⟨p, n, rfl, _⟩ := h
    rfl
  · obtain ⟨p, n, rfl, hR, hn, q⟩ := h
    refine ⟨_, pss_cons (ps_par (i := 2) (j := 3) rfl sc__law_order.nd rfl rfl (by decide) rfl rfl (pa_cons (pe_listRg rfl (by rfl) B.list (prg_1 (by rfl) B.range (pv 1))) (pa_cons (pe_lst pa_nil) pa_nil)) rfl)
      (pss_cons (ps_while PassesOwn.never (pt_cmpR (op_neD hr.units) (pv 2) (pe_lst pa_nil) (nomark _))
        (pss_one (ps_expr (pe_bm PySem.F.plainAttrs_list PySem.F.slot_list_append PySem.F.type_list_append mt_append (pv 3) (pa_cons (pe_bm PySem.F.plainAttrs_list PySem.F.slot_list_pop PySem.F.type_list_pop mt_popAt (pv 2)
          (pa_cons (pc CT hr (pa_cons (pv 0) (pa_cons (pe_callB (cl_len K) (by rfl) B.len PySem.boot_len (pa_cons (pv 2) pa_nil)) pa_nil))) pa_nil)) pa_nil)))))
      (pss_one (ps_ret (pe_tupleF (by rfl) B.tuple (pv 3))))), ?_⟩
    refine ⟨_, rfl, n, rfl, ⟨by omega, by omega, by omega, by omega, by omega⟩, fun l hl => ⟨Nat.zero_le _, fun g hg => ⟨_, _, rfl, ?_⟩⟩⟩
    have hlg : l ≠ g := ne_of_none upd_same hg
    have hgH : H g = none := by
      rw [upd_ne (Ne.symm hlg)] at hg
      exact hg
    have hpl : p ≠ l := hR.ne hl
    have hpg : p ≠ g := hR.ne hgH
    refine ⟨fun m σ H' => ∃ ls fs : List Int, m = ls.length ∧ σ = [some (.ref p), some (.int n), some (.ref l), some (.ref g)] ∧ But p H H' ∧ Row K H' p ∧ H' l = some (.lst (ls.map V.int)) ∧ H' g = some (.lst (fs.map V.int)) ∧ (fs ++ ls).Perm (rg n),
      ⟨(rg n).length, rg n, [], rfl, rfl, But.same (Same.trans (same_new hl) (same_new hg)), (hR.new hl).new hg, ?_, upd_same, List.Perm.refl _⟩, ?_⟩
    · rw [upd_ne hlg, upd_same, rgV_rg]
    rintro m σ H1 ⟨ls, fs, rfl, rfl, hB, hR1, e1, e2, hpm⟩
    refine ⟨_, rfl, Nat.zero_le _, fun z hz => ?_⟩
    have sz : Same H1 (upd H1 z (.lst [])) := same_new hz
    refine ⟨_, _, dp_lst (ns := ls) (lstAt (sz _ _ e1)), dp_lst (ns := []) (lstAt upd_same), PySem.W.ke_shaped_ints _, PySem.W.ke_shaped_ints _, _, rfl, ?_⟩
    rw [eqv_lst]
    have len1 : fs.length + ls.length = n := by
      have := hpm.length_eq
      rw [List.length_append, rg_len] at this
      exact this
    cases ls with
    | nil =>
      refine ifF rfl ⟨_, rfl, g, _, rfl, lstAt (sz _ _ e2), fun t ob ht hob => ?_⟩
      rw [List.append_nil] at hpm
      have st : Same H1 (upd (upd H1 z (.lst [])) t (.frz ob (.tup (fs.map V.int)))) := sz.trans (same_new ht)
      refine q _ t fs hpm (hB.trans (But.same st)) (hR1.same st) ?_ ⟨ob, upd_same, hob⟩
      cases e : H t with
      | none => rfl
      | some o =>
        exfalso
        by_cases zp : t = p
        · obtain ⟨xs, ep⟩ := hR1.lst
          rw [zp, sz _ _ ep] at ht
          cases ht
        · rw [sz _ _ (hB _ _ e zp)] at ht
          cases ht
    | cons y ls =>
      have hRz : Row K (upd H1 z (.lst [])) p := hR1.same sz
      have e1z := sz _ _ e1
      have e2z := sz _ _ e2
      refine ifT rfl ⟨fun σ' H' => ∃ m', m' < (y :: ls).length ∧ ∃ ls fs : List Int, m' = ls.length ∧ σ' = [some (.ref p), some (.int n), some (.ref l), some (.ref g)] ∧ But p H H' ∧ Row K H' p ∧ H' l = some (.lst (ls.map V.int)) ∧ H' g = some (.lst (fs.map V.int)) ∧ (fs ++ ls).Perm (rg n), fun _ _ h => h, ?_⟩
      refine ⟨_, rfl, .inl ⟨rfl, _, lstAt e2z⟩, _, rfl, .inl ⟨rfl, _, lstAt e1z⟩, _, rfl, _, rfl, l, _, rfl, .inl (lstAt e1z), p, _, rfl, hRz, ?_, ?_, fun k H3 k0 k1 hB3 hR3 => ?_⟩
      · rw [List.length_map, List.length_cons]
        omega
      · rw [List.length_map]
        omega
      rw [List.length_map] at k1
      have e1' := hB3 _ _ e1z (Ne.symm hpl)
      have e2' := hB3 _ _ e2z (Ne.symm hpg)
      have hk : k.toNat < (y :: ls).length := by omega
      obtain ⟨v, hv⟩ : ∃ v, (y :: ls)[k.toNat]? = some v := ⟨_, List.getElem?_eq_getElem hk⟩
      have e2u : (upd H3 l (.lst (((y :: ls).map V.int).eraseIdx k.toNat))) g = some (.lst (fs.map V.int)) := by
        rw [upd_ne (Ne.symm hlg)]
        exact e2'
      refine ⟨l, _, k, k.toNat, .int v, rfl, rfl, e1', by omega, by omega, ?_, at_map hv, g, _, .int v, rfl, rfl, e2u, ?_, ?_⟩
      · rw [List.length_map]
        exact ix_nat k0 k1
      · rw [List.length_map]
        exact small1000 (by have := List.length_cons (a := y) (as := ls); omega)
      · refine ⟨((y :: ls).eraseIdx k.toNat).length, ?_, (y :: ls).eraseIdx k.toNat, fs ++ [v], rfl, rfl, ?_, ?_, ?_, ?_, ?_⟩
        · rw [List.length_eraseIdx_of_lt hk]
          omega
        · exact (((hB.trans (But.same sz)).trans hB3).fresh hl).fresh hgH
        · exact (hR3.lst_upd e1' hpl).lst_upd e2u hpg
        · rw [upd_ne hlg, upd_same, map_erase]
        · rw [upd_same, List.map_append]
          rfl
        · have hp2 := perm_erase hv
          refine List.Perm.trans ?_ hpm
          rw [List.append_assoc]
          exact List.Perm.append_left fs hp2.symm
end
end RH
set_option Elab.async false
set_option linter.all false
set_option maxRecDepth 100000
set_option maxHeartbeats 2000000
namespace RH
open PySem PySem.Spec PyProof.Rows L2
/-! ### _law_alike of equal data -/
theorem Dp.on {K : PySem.W.Frag} {H H' : Hp} (s : Same H H') : ∀ (d : PyData) (v : V), Dp K H v d → Dp K H' v d
  | d, v, h => by
    refine Dp.rec (motive_1 := fun v d _ => Dp K H' v d) (motive_2 := fun vs ds _ => DpAll K H' vs ds) .non .bl .int .str ?_ ?_ .nil ?_ h
    · intro a xs ds h1 _ h2
      exact .lst (s.seq h1) h2
    · intro a xs ds h1 _ h2
      exact .tup (onT s h1) h2
    · intro v vs d ds _ _ h1 h2
      exact .cons h1 h2
theorem DpAll.len {K : PySem.W.Frag} {H : Hp} : ∀ {vs : List V} {ds : List PyData}, DpAll K H vs ds → vs.length = ds.length
  | _, _, .nil => rfl
  | _, _, .cons _ t => congrArg (· + 1) (DpAll.len t)
theorem ty_lst {K : PySem.W.Frag} {H : Hp} {a : Addr} {xs : List V} (h : SqL K H a xs) : TyX K H (.ref a) (.type "list") := by
  rcases h with (h | ⟨o, h⟩) | ⟨o, vz, n, h, c, _⟩
  · exact .base (.lst h)
  · exact .base (.frz h)
  · exact .kList h c
end RH
set_option Elab.async false
set_option linter.all false
set_option maxRecDepth 100000
set_option maxHeartbeats 2000000
namespace RH
open PySem PySem.Spec PyProof.Rows L2
theorem ixN_int {n : Nat} {k : Int} (h0 : 0 ≤ k) (h1 : k < n) : ixN n k = some k.toNat := by
  unfold ixN
  rw [if_pos h0, if_pos h1]
def tF (n pl : Nat) : List Int := (List.range n).map fun s : Nat => ((s : Int) + (pl : Int)) % (n : Int)
def mF (n pl : Nat) : List Int := (List.range n).map fun s : Nat => (s : Int) + (if decide ((s : Int) < (pl : Int)) = true then 1 else 0)
def fF (n pl : Nat) : List Int := (mF n pl).take pl ++ [0] ++ (mF n pl).drop (pl + 1)
def sF (n pl : Nat) : List Int := ((rg n).set pl ((pl - 1 : Nat) : Int)).set (pl - 1) (pl : Int)
theorem perm_all : ∀ n, n < 6 → ∀ pl, pl < n → (tF n pl).isPerm (rg n) = true ∧ (fF n pl).isPerm (rg n) = true ∧ (sF n pl).isPerm (rg n) = true := by decide +kernel
theorem mF_len (n pl : Nat) : (mF n pl).length = n := by
  unfold mF
  rw [List.length_map, List.length_range]
theorem range_more {f : Nat → Int} (i : Nat) : ((List.range (i + 1)).map f).map V.int = ((List.range i).map f).map V.int ++ [V.int (f i)] := by
  rw [List.range_succ, List.map_append, List.map_append]
  rfl
/-- the permutations found so far -/
def HI (K : PySem.W.Frag) (p g : Addr) (H : Hp) (n i : Nat) (H' : Hp) : Prop := ∃ (xs : List V) (hs : List (List Int)), But p H H' ∧ Row K H' p ∧ H' g = some (.lst xs) ∧ Each (TI K H') xs hs ∧ hs.length = i ∧ ∀ ns ∈ hs, ns.Perm (rg n)
theorem HI.step {K : PySem.W.Frag} {p g : Addr} {H H1 H5 : Hp} {n i : Nat} (h : HI K p g H n i H1) (hg : H g = none) (hpg : p ≠ g) (b : But p H1 H5) (r : Row K H5 p) :
    ∃ xs, H5 g = some (.lst xs) ∧ xs.length = i ∧ ∀ (q : Addr) (ns : List Int) (H6 : Hp), Same H5 H6 → SqT K H6 q (ns.map V.int) → ns.Perm (rg n) → HI K p g H n (i + 1) (upd H6 g (.lst (xs ++ [.ref q]))) := by
  obtain ⟨xs, hs, hB, hR, e, hE, hl, hp⟩ := h
  have e5 := b _ _ e (Ne.symm hpg)
  refine ⟨xs, e5, hE.len.trans hl, fun q ns H6 s6 hq hpm => ⟨xs ++ [.ref q], hs ++ [ns], ?_, ?_, upd_same, ?_, ?_, ?_⟩⟩
  · exact ((hB.trans b).trans (But.same s6)).fresh hg
  · exact (r.same s6).lst_upd (s6 _ _ e5) hpg
  · have f1 : Fix H1 (upd H6 g (.lst (xs ++ [.ref q]))) := (hR.fix b).trans ((Fix.same s6).trans (Fix.lst (s6 _ _ e5)))
    exact Each.snoc ⟨q, rfl, Fix.tups (Fix.lst (s6 _ _ e5)) _ _ hq⟩ (hE.imp fun _ _ z => z.on f1.tups)
  · rw [List.length_append, hl]
    rfl
  · intro ns' hm
    rcases List.mem_append.mp hm with h1 | h1
    · exact hp _ h1
    · rw [List.mem_singleton.mp h1]
      exact hpm
section
variable {P : Program} {w : World} {K : PySem.W.Frag} {mg : Str → Option Value} {base : Heap}
def spHabit (K : PySem.W.Frag) : Sp := fun vs H Q _ => ∃ (p : Addr) (n : Nat), vs = [.ref p, .int n] ∧ Row K H p ∧ 2 ≤ n ∧ n ≤ 5 ∧ ∀ (H' : Hp) (v : V) (h : List (List Int)), Hb n h → But p H H' → Row K H' p → TII K H' v h → Q v H'
theorem ok_habit (F : Df K mg "_law_habit" st__law_habit ["row", "places"]) (B : Bu mg) (CT : Cal P w K mg base 1 "_law_taken" (spTaken K)) (CO : Cal P w K mg base 2 "_law_order" (spOrder K)) : Cal P w K mg base 3 "_law_habit" (spHabit K) := by
  refine mkCal F sc__law_habit (fun vs H Q E h => ?_) (fun f cdv A outer s H vs Q E hr h => ?_)
  · obtain ⟨p, n, rfl, _⟩ := h
    rfl
  · obtain ⟨p, n, rfl, hR, n2, n5, q⟩ := h
    refine ⟨_, pss_cons (ps_par (i := 2) (j := 3) rfl sc__law_habit.nd rfl rfl (by decide) rfl rfl (pa_cons (pc CT hr (pa_cons (pv 0) (pa_cons pe_int pa_nil))) (pa_cons (pe_lst pa_nil) pa_nil)) rfl)
      (pss_cons (ps_for PassesOwn.never rfl (pi_range1 (by rfl) B.range (pa_cons (pv 1) pa_nil)) (pg_name (i := 4) sc__law_habit.nd rfl (Or.inr rfl))
        (pss_one (ps_if (pt_cmpR op_eq (pv 2) pe_int (nomark _))
          (pss_one (ps_expr (pe_bm PySem.F.plainAttrs_list PySem.F.slot_list_append PySem.F.type_list_append mt_append (pv 3) (pa_cons (pe_tupleOf (by rfl) B.tuple (pe_lc (own := [("spot", 7)]) (g := gName 7) (tt := tYes) rfl sc__law_habit.nd
            (pi_range1 (by rfl) B.range (pa_cons (pv 1) pa_nil)) (blkOk_by (N := ["row", "places", "way", "found", "place", "moved", "other", "spot"]) (sc := defScope st__law_habit) (by decide +kernel)) (fun _ _ _ _ _ => pg_name (i := 7) sc__law_habit.nd rfl (Or.inl rfl))
            (fun _ _ _ _ _ => pts_nil) (fun _ _ _ _ _ => pe_op op_mod (pe_op op_add (pv 7) (pv 4)) (pv 1)))) pa_nil))))
        (pss_one (ps_if (pt_cmpR op_eq (pv 2) pe_int (nomark _))
          (pss_cons (ps_setLc (i := 5) (own := [("spot", 7)]) (g := gName 7) (tt := tYes) rfl sc__law_habit.nd rfl rfl (sw_true rfl rfl rfl (by decide +kernel)) (pi_range1 (by rfl) B.range (pa_cons (pv 1) pa_nil))
            (blkOk_by (N := ["row", "places", "way", "found", "place", "moved", "other", "spot"]) (sc := defScope st__law_habit) (by decide +kernel)) (fun _ _ _ _ _ => pg_name (i := 7) sc__law_habit.nd rfl (Or.inl rfl))
            (fun _ _ _ _ _ => pts_nil) (fun _ _ _ _ _ => pe_op op_add (pv 7) (pe_callTy call_int1 (by rfl) B.int (by decide +kernel) (pa_cons (pe_cmpR op_lt (pv 7) (pv 4) (nomark _)) pa_nil))))
          (pss_one (ps_expr (pe_bm PySem.F.plainAttrs_list PySem.F.slot_list_append PySem.F.type_list_append mt_append (pv 3) (pa_cons (pe_tupleOf (by rfl) B.tuple (pe_op op_cat (pe_op op_cat (pe_slice sl_list (pv 5) po_none (po_some (pv 4))) (pe_lst (pa_cons pe_int pa_nil)))
            (pe_slice sl_list (pv 5) (po_some (pe_op op_add (pv 4) pe_int)) po_none))) pa_nil)))))
        (pss_one (ps_if (pt_cmpR op_eq (pv 2) pe_int (nomark _))
          (pss_cons (ps_set (i := 6) sc__law_habit.nd rfl (.inl rfl) (pe_callB (call_max2 rfl) (by rfl) B.max (by decide +kernel) (pa_cons pe_int (pa_cons (pe_op op_sub (pv 4) pe_int) pa_nil))))
          (pss_cons (ps_set (i := 5) sc__law_habit.nd rfl (.inl rfl) (pe_listRg rfl (by rfl) B.list (prg_1 (by rfl) B.range (pv 1))))
          (pss_cons (ps_asg (pe_tup (pa_cons (pv 6) (pa_cons (pv 4) pa_nil))) (pg_tup rfl (pgs_cons (pg_sub (pv 5) (pv 4) set_list) (pgs_cons (pg_sub (pv 5) (pv 6) set_list) pgs_nil))))
          (pss_one (ps_expr (pe_bm PySem.F.plainAttrs_list PySem.F.slot_list_append PySem.F.type_list_append mt_append (pv 3) (pa_cons (pe_tupleOf (by rfl) B.tuple (pv 5)) pa_nil)))))))
        (pss_one (ps_if (PW.pt (pw_and (pt_cmpR op_eq (pv 2) pe_int (nomark _)) (pw_and1 (pt_cmpR op_eq (pc CT hr (pa_cons (pv 0) (pa_cons pe_int pa_nil))) pe_int (nomark _)))))
          (pss_one (ps_expr (pe_bm PySem.F.plainAttrs_list PySem.F.slot_list_append PySem.F.type_list_append mt_append (pv 3) (pa_cons (pe_tupRg rfl (by rfl) B.tuple (prg_1 (by rfl) B.range (pv 1))) pa_nil))))
          (pss_one (ps_expr (pe_bm PySem.F.plainAttrs_list PySem.F.slot_list_append PySem.F.type_list_append mt_append (pv 3) (pa_cons (pc CO hr (pa_cons (pv 0) (pa_cons (pv 1) pa_nil))) pa_nil))))))))))))) 
      (pss_one (ps_ret (pe_tupleOf (by rfl) B.tuple (pv 3))))), ?_⟩
    refine ⟨_, rfl, p, 5, rfl, hR, by decide, by decide, fun wy H0 w0 w1 hB0 hR0 => ⟨Nat.zero_le _, fun g hg0 => ⟨_, _, rfl, ?_⟩⟩⟩
    have hpg : p ≠ g := hR0.ne hg0
    have hg : H g = none := by
      cases e : H g with
      | none => rfl
      | some o =>
        rw [hB0 _ _ e (Ne.symm hpg)] at hg0
        cases hg0
    refine ⟨_, rfl, n, rfl, by omega, by omega, ?_⟩
    rw [Int.toNat_natCast]
    refine for_range (lo := 0) (n := n) (fun i σ H' => HI K p g H n i H' ∧ ∃ y4 y5 y6 y7, σ = [some (.ref p), some (.int n), some (.int wy), some (.ref g), y4, y5, y6, y7])
      ⟨⟨[], [], hB0.fresh hg, hR0.new hg0, upd_same, .nil, rfl, fun _ hm => absurd hm (List.not_mem_nil)⟩, none, none, none, none, rfl⟩ (fun i σ H1 hi h' => ?_) (fun σ H' h' => ?_)
    · obtain ⟨hI, y4, y5, y6, y7, rfl⟩ := h'
      obtain ⟨pT, pF, pS⟩ := perm_all n (by omega) i hi
      have hR1 : Row K H1 p := hI.choose_spec.choose_spec.2.1
      rw [Int.zero_add]
      refine ⟨_, rfl, rfl, _, rfl, ite2 (fun _ => ?_) (fun _ => ?_)⟩
      · -- turned round
        obtain ⟨xs, e1, xl, st⟩ := hI.step hg hpg (But.refl p H1) hR1
        refine ⟨_, rfl, .inl ⟨rfl, _, lstAt e1⟩, _, rfl, n, rfl, by omega, by omega, fun D hD => ?_⟩
        rw [Int.toNat_natCast]
        refine lc_range (lo := 0) (n := n) (fun j H' => Same H1 H' ∧ H' D = some (.lst (((List.range j).map fun s : Nat => ((s : Int) + (i : Int)) % (n : Int)).map V.int))) ⟨same_new hD, upd_same⟩ (fun j H' hj h' => ?_) (fun H' h' => ?_)
        · obtain ⟨sm, eD⟩ := h'
          refine ⟨rfl, _, rfl, _, rfl, _, _, rfl, rfl, _, rfl, _, n, rfl, rfl, by omega, _, eD, ?_, ?_, ?_⟩
          · rw [List.length_map, List.length_map, List.length_range]
            exact small1000 (by omega)
          · intro b o e
            rw [upd_ne (ne_of_none e hD)]
            exact sm b o e
          · rw [upd_same, range_more, Int.zero_add]
        · obtain ⟨sm, eD⟩ := h'
          refine .inl ⟨D, _, rfl, lstAt eD, fun t ht => ?_⟩
          have sT := sm.trans (same_new (o := .tup ((tF n i).map V.int)) ht)
          refine ⟨g, xs, .ref t, rfl, rfl, sT _ _ e1, small1000 (by omega), st t (tF n i) _ sT (tupAt upd_same) (List.isPerm_iff.mp pT), _, _, _, _, rfl⟩
      · refine ⟨_, rfl, rfl, _, rfl, ite2 (fun _ => ?_) (fun _ => ?_)⟩
        · -- to the front
          refine ⟨_, rfl, n, rfl, by omega, by omega, fun D hD => ?_⟩
          rw [Int.toNat_natCast]
          refine lc_range (lo := 0) (n := n) (fun j H' => Same H1 H' ∧ H' D = some (.lst (((List.range j).map fun s : Nat => (s : Int) + (if decide ((s : Int) < (i : Int)) = true then 1 else 0)).map V.int))) ⟨same_new hD, upd_same⟩ (fun j H' hj h' => ?_) (fun H' h' => ?_)
          · obtain ⟨sm, eD⟩ := h'
            refine ⟨rfl, _, rfl, _, rfl, _, rfl, _, _, rfl, rfl, .inr ⟨_, rfl, _, _, rfl, rfl, _, eD, ?_, ?_, ?_⟩⟩
            · rw [List.length_map, List.length_map, List.length_range]
              exact small1000 (by omega)
            · intro b o e
              rw [upd_ne (ne_of_none e hD)]
              exact sm b o e
            · rw [upd_same, range_more, Int.zero_add]
          · obtain ⟨sm, eD⟩ := h'
            have hR2 := hR1.same sm
            obtain ⟨xs, e1, xl, st⟩ := hI.step hg hpg (But.same sm) hR2
            have hDl : ((List.range n).map fun s : Nat => (s : Int) + (if decide ((s : Int) < (i : Int)) = true then 1 else 0)) = mF n i := rfl
            rw [hDl] at eD
            refine ⟨_, rfl, .inl ⟨rfl, _, lstAt e1⟩, _, rfl, _, rfl, (i : Int), rfl, D, _, rfl, lstAt eD, fun a1 ha1 => ⟨by show 1 ≤ sizeLine; decide, fun a2 ha2 => ?_⟩⟩
            rw [cut_to] at *
            have q1 := same_new (o := .lst (((mF n i).map V.int).take i)) ha1
            have q2 := same_new (o := .lst [.int 0]) ha2
            refine ⟨a1, a2, ((mF n i).map V.int).take i, [.int 0], rfl, rfl, q2 _ _ upd_same, upd_same, ?_, fun a3 ha3 => ?_⟩
            · rw [List.length_take, List.length_map, mF_len]
              exact Nat.le_of_lt (small1000 (by show min i n + 1 ≤ 1000; omega))
            have q3 := same_new (o := .lst (((mF n i).map V.int).take i ++ [.int 0])) ha3
            refine ⟨_, rfl, _, rfl, (i : Int), 1, rfl, rfl, (i : Int) + 1, rfl, D, _, rfl, lstAt (q3 _ _ (q2 _ _ (q1 _ _ eD))), fun a4 ha4 => ?_⟩
            have q4 := same_new (o := .lst (cutV ((mF n i).map V.int) (some ((i : Int) + 1)) none)) ha4
            have ec : cutV ((mF n i).map V.int) (some ((i : Int) + 1)) none = ((mF n i).map V.int).drop (i + 1) := cut_from _ (i + 1)
            refine ⟨a3, a4, _, _, rfl, rfl, q4 _ _ upd_same, upd_same, ?_, fun a5 ha5 => ?_⟩
            · rw [ec, List.length_append, List.length_take, List.length_drop, List.length_map, mF_len]
              exact Nat.le_of_lt (small1000 (by show min i n + 1 + (n - (i + 1)) ≤ 1000; omega))
            have q5 := same_new (o := .lst ((((mF n i).map V.int).take i ++ [.int 0]) ++ cutV ((mF n i).map V.int) (some ((i : Int) + 1)) none)) ha5
            refine .inl ⟨a5, _, rfl, lstAt upd_same, fun t ht => ?_⟩
            have q6 := same_new (o := .tup ((((mF n i).map V.int).take i ++ [.int 0]) ++ cutV ((mF n i).map V.int) (some ((i : Int) + 1)) none)) ht
            have qq := q1.trans (q2.trans (q3.trans (q4.trans (q5.trans q6))))
            have et : ((((mF n i).map V.int).take i ++ [.int 0]) ++ cutV ((mF n i).map V.int) (some ((i : Int) + 1)) none) = (fF n i).map V.int := by
              rw [ec]
              unfold fF
              rw [List.map_append, List.map_append, List.map_take, List.map_drop]
              rfl
            exact ⟨g, xs, .ref t, rfl, rfl, qq _ _ e1, small1000 (by omega), st t (fF n i) _ qq (tupAt (by rw [upd_same, et])) (List.isPerm_iff.mp pF), _, _, _, _, rfl⟩
        · refine ⟨_, rfl, rfl, _, rfl, ite2 (fun _ => ?_) (fun _ => ?_)⟩
          · -- neighbours
            refine ⟨_, rfl, (i : Int), 1, rfl, rfl, 0, (i : Int) - 1, rfl, ?_⟩
            have eo : (if (i : Int) - 1 > 0 then (i : Int) - 1 else 0) = ((i - 1 : Nat) : Int) := by
              split <;> omega
            rw [eo]
            refine ⟨_, rfl, n, rfl, ⟨by omega, by omega, by omega, by omega, by omega⟩, fun m hm => ?_⟩
            rw [rgV_rg] at *
            have hpm : p ≠ m := hR1.ne hm
            have s1 := same_new (o := .lst ((rg n).map V.int)) hm
            refine ⟨_, rfl, _, rfl, by show 2 ≤ sizeLine; decide, fun t ht => ?_⟩
            have s2 := same_new (o := .tup [.int ((i - 1 : Nat) : Int), .int (i : Int)]) ht
            have em := s2 _ _ (upd_same (H := H1) (a := m) (o := .lst ((rg n).map V.int)))
            have ll : ((rg n).map V.int).length = n := by rw [List.length_map, rg_len]
            refine ⟨t, _, rfl, tupAt upd_same, rfl, _, _, rfl, _, rfl, _, rfl, m, _, (i : Int), i, rfl, rfl, em, ?_, ?_⟩
            · have := ixN_int (n := ((rg n).map V.int).length) (k := (i : Int)) (by omega) (by omega)
              exact this
            refine ⟨_, _, rfl, _, rfl, _, rfl, m, _, ((i - 1 : Nat) : Int), i - 1, rfl, rfl, upd_same, ?_, rfl, ?_⟩
            · have := ixN_int (n := (((rg n).map V.int).set i (.int ((i - 1 : Nat) : Int))).length) (k := ((i - 1 : Nat) : Int)) (by omega) (by rw [List.length_set]; omega)
              exact this
            have et : (((rg n).map V.int).set i (.int ((i - 1 : Nat) : Int))).set (i - 1) (.int (i : Int)) = (sF n i).map V.int := by
              unfold sF
              rw [List.map_set, List.map_set]
            rw [et]
            have hR5 := ((hR1.same (s1.trans s2)).lst_upd (o := .lst (((rg n).map V.int).set i (.int ((i - 1 : Nat) : Int)))) em hpm).lst_upd (o := .lst ((sF n i).map V.int)) upd_same hpm
            obtain ⟨xs, e1, xl, st⟩ := hI.step hg hpg (((But.same (s1.trans s2)).fresh (o := .lst (((rg n).map V.int).set i (.int ((i - 1 : Nat) : Int)))) hm).fresh (o := .lst ((sF n i).map V.int)) hm) hR5
            refine ⟨_, rfl, .inl ⟨rfl, _, lstAt e1⟩, _, rfl, .inl ⟨m, _, rfl, lstAt upd_same, fun t2 ht2 => ?_⟩⟩
            have s6 := same_new (o := .tup ((sF n i).map V.int)) ht2
            exact ⟨g, xs, .ref t2, rfl, rfl, s6 _ _ e1, small1000 (by omega), st t2 (sF n i) _ s6 (tupAt upd_same) (List.isPerm_iff.mp pS), _, _, _, _, rfl⟩
          · have any : ∀ H3, But p H1 H3 → Row K H3 p → ∃ xs, H3 g = some (.lst xs) ∧ xs.length = i ∧ ∀ (q : Addr) (ns : List Int) (H6 : Hp), Same H3 H6 → SqT K H6 q (ns.map V.int) → ns.Perm (rg n) → HI K p g H n (i + 1) (upd H6 g (.lst (xs ++ [.ref q]))) := fun H3 b3 r3 => hI.step hg hpg b3 r3
            refine ⟨_, rfl, rfl, _, rfl, ite2 (fun _ => ?_) (fun _ => ?_)⟩
            · refine ⟨_, rfl, p, 2, rfl, hR1, by decide, by decide, fun k H3 k0 k1 hB3 hR3 => ⟨rfl, _, rfl, ite2 (fun _ => ?_) (fun _ => ?_)⟩⟩
              · obtain ⟨xs, e1, xl, st⟩ := any H3 hB3 hR3
                refine ⟨_, rfl, .inl ⟨rfl, _, lstAt e1⟩, _, rfl, n, rfl, ⟨by omega, by omega, by omega, by omega, by omega⟩, fun t ht => ?_⟩
                rw [rgV_rg] at *
                have s6 := same_new (o := .tup ((rg n).map V.int)) ht
                exact ⟨g, xs, .ref t, rfl, rfl, s6 _ _ e1, small1000 (by omega), st t (rg n) _ s6 (tupAt upd_same) (List.Perm.refl _), _, _, _, _, rfl⟩
              · obtain ⟨xs, e1, xl, st⟩ := any H3 hB3 hR3
                refine ⟨_, rfl, .inl ⟨rfl, _, lstAt e1⟩, _, rfl, _, rfl, p, n, rfl, hR3, by omega, fun H4 t ns pm b4 r4 _ e4 => ?_⟩
                obtain ⟨xs', e1', xl', st'⟩ := any H4 (hB3.trans b4) r4
                exact ⟨g, xs', .ref t, rfl, rfl, e1', small1000 (by omega), st' t ns _ (Same.refl H4) (.inl (FT.kx e4)) pm, _, _, _, _, rfl⟩
            · obtain ⟨xs, e1, xl, st⟩ := any H1 (But.refl p H1) hR1
              refine iteF ⟨_, rfl, .inl ⟨rfl, _, lstAt e1⟩, _, rfl, _, rfl, p, n, rfl, hR1, by omega, fun H4 t ns pm b4 r4 _ e4 => ?_⟩
              obtain ⟨xs', e1', xl', st'⟩ := any H4 b4 r4
              exact ⟨g, xs', .ref t, rfl, rfl, e1', small1000 (by omega), st' t ns _ (Same.refl H4) (.inl (FT.kx e4)) pm, _, _, _, _, rfl⟩
    · obtain ⟨⟨xs, hs, hB, hR', e, hE, hl, hp⟩, y4, y5, y6, y7, rfl⟩ := h'
      refine ⟨_, rfl, .inl ⟨g, xs, rfl, lstAt e, fun t ht => q _ _ hs ⟨hl, hp, n2, n5⟩ (hB.trans (But.same (same_new ht))) (hR'.new ht) ⟨t, xs, rfl, tupAt upd_same, hE.imp fun _ _ z => z.on (Same.tups (same_new ht))⟩⟩⟩
end
end RH
set_option Elab.async false
set_option linter.all false
set_option maxRecDepth 100000
set_option maxHeartbeats 2000000
namespace RH
open PySem PySem.Spec PyProof.Rows L2
/-! ### defs that may raise; checks of values of many kinds -/
structure CalX (P : Program) (w : World) (K : PySem.W.Frag) (mg : Str → Option Value) (base : Heap) (k : Nat) (x : Str) (sp : Sp) : Prop where
  ex : ∃ (f : Addr) (fd : FuncData) (ps : List Str), FnOk P w K mg base (L2.CX P w) k f fd ps sp ∧ mg x = some (.ref f) ∧ PySem.W.keepIn K (.ref f) = true ∧ Binds K fd ps []
/-- an own error without an __init__ -/
structure ExO (K : PySem.W.Frag) (mg : Str → Option Value) (x : Str) (C : Addr) : Prop where
  q : PySem.W.excIn K C [.type "ValueError", .type "Exception", .type "BaseException", .type "object"] "ValueError.__new__" = true
  g : mg x = some (.ref C)
  k : PySem.W.keepIn K (.ref C) = true
  b : PySem.W.subIn K (.ref C) (.type "BaseException") = some true
  t : PySem.W.typeIn K (.ref C) = some (.type "type")
section
variable {P : Program} {w : World} {K : PySem.W.Frag} {mg : Str → Option Value} {base : Heap}
theorem mkCalX {x : Str} {st : Stmt} {N ps : List Str} {k : Nat} {sp : Sp} (F : Df K mg x st ps) (S : FnScope N ps (defScope st)) (len : ∀ vs H Q E, sp vs H Q E → vs.length = ps.length)
    (hbody : ∀ (f : Addr) (cdv : Value) (A : Around) (outer : List Env) (s : Shared) (H : Hp) (vs : List V) (Q : VK) (E : XK), Room k (A.deeper (envOfC x (defScope st) s.heap.objs.size f cdv)) → sp vs H Q E →
      ∃ t, PSs (cxOf (L2.CX P w) P w K mg base N x (defScope st) f cdv A outer s H E) (defBody st) t ∧ t { nx := fun _ H' => Q .non H', rt := Q } (start N vs) H) : CalX P w K mg base (k + 1) x sp := by
  obtain ⟨f, fd, F, g, b⟩ := F.ex
  exact ⟨f, fd, ps, F.okX S len (hbody f), g, F.kp, b⟩
end
theorem pcX {X : Cx} {k j : Nat} {x : Str} {sp : Sp} {E : XK} {p pos : Pos} {e : Expr} {es : List Expr} {t : TA} (c : CalX X.prog X.w X.K X.mg X.base k x sp) (hx : Passes (L2.CX X.prog X.w) X E) (hr : Room j X.A) (ha : PA X (e :: es) t) (hk : k ≤ j := by decide) (hg : Gl X x := by rfl)
    (hdb : (x == ("__debug__" : Str)) = false := by decide) (he : starEach (e :: es) X.env = (false, eval e X.env) :: starEach es X.env := by rfl) (hpl : (backTo pos (starEach es X.env)).any (·.1) = false := by rfl) :
    PE X (.Call (.Name x p) (e :: es) [] pos) (tCall sp [] E t) := by
  obtain ⟨f, fd, ps, F, hm, kp, b⟩ := c.ex
  exact pe_call F (hr.mono hk) hg hm kp b .nil hx ha hdb he hpl
/-- a value of any kind -/
inductive Sw (K : PySem.W.Frag) (H : Hp) : V → Prop
  | int (i : Int) : Sw K H (.int i)
  | bl (b : Bool) : Sw K H (.bl b)
  | non : Sw K H .non
  | str (s : Str) : Sw K H (.str s)
  | tup {a : Addr} {xs : List V} : SqT K H a xs → Sw K H (.ref a)
  | lst {a : Addr} {xs : List V} : SqL K H a xs → Sw K H (.ref a)
def isI : V → Bool
  | .int _ => true
  | _ => false
def inV2 (lo hi : Int) : V → Bool
  | .int i => decide (lo ≤ i) && decide (i ≤ hi)
  | _ => false
section
variable {P : Program} {w : World} {K : PySem.W.Frag} {mg : Str → Option Value} {base : Heap}
theorem Sw.on {H H' : Hp} {v : V} (e : Same H H') (h : Sw K H v) : Sw K H' v := by
  cases h with
  | int i => exact .int i
  | bl b => exact .bl b
  | non => exact .non
  | str s => exact .str s
  | tup h => exact .tup (onT e h)
  | lst h => exact .lst (e.seq h)
def spIsIntegerW (K : PySem.W.Frag) : Sp := fun vs H Q _ => ∃ v, vs = [v] ∧ Sw K H v ∧ Q (.bl (isI v)) H
theorem ok_is_integerW (F : Df K mg "is_integer" st_is_integer ["value"]) (B : Bu mg) : Cal P w K mg base 1 "is_integer" (spIsIntegerW K) := by
  refine mkCal F sc_is_integer (fun vs H Q E h => ?_) (fun f cdv A outer s H vs Q E hr h => ?_)
  · obtain ⟨v, rfl, _⟩ := h
    rfl
  · obtain ⟨v, rfl, hv, q⟩ := h
    refine ⟨_, pss_one (ps_ret (pe_and (pe_callB call_isi (by rfl) B.isi (by decide +kernel) (pa_cons (pv 0) (pa_cons (pe_bltn (v := .ty "int") (by rfl) B.int (by decide +kernel) rfl) pa_nil)))
      (pe_one (pe_not (pe_callB call_isi (by rfl) B.isi (by decide +kernel) (pa_cons (pv 0) (pa_cons (pe_bltn (v := .ty "bool") (by rfl) B.bool (by decide +kernel) rfl) pa_nil))))))), ?_⟩
    cases hv with
    | int i => exact ⟨_, rfl, .int i, .ty "int", _, _, true, rfl, .ty "int", .base (.int i), kit_ty (by decide +kernel), true, rfl, _, rfl, .int i, .ty "bool", _, _, false, rfl, .ty "bool", .base (.int i), kit_ty (by decide +kernel), false, rfl, q⟩
    | bl b => exact ⟨_, rfl, .bl b, .ty "int", _, _, true, rfl, .ty "int", .base (.bl b), kit_ty (by decide +kernel), true, rfl, _, rfl, .bl b, .ty "bool", _, _, true, rfl, .ty "bool", .base (.bl b), kit_ty (by decide +kernel), true, rfl, q⟩
    | non => exact ⟨_, rfl, .non, .ty "int", _, _, false, rfl, .ty "int", .base .non, kit_ty (by decide +kernel), false, rfl, q⟩
    | str z => exact ⟨_, rfl, .str z, .ty "int", _, _, false, rfl, .ty "int", .base (.str z), kit_ty (by decide +kernel), false, rfl, q⟩
    | @tup a xs h => exact ⟨_, rfl, .ref a, .ty "int", _, _, false, rfl, .ty "int", ty_tup h, kit_ty (by decide +kernel), false, rfl, q⟩
    | @lst a xs h => exact ⟨_, rfl, .ref a, .ty "int", _, _, false, rfl, .ty "int", ty_lst h, kit_ty (by decide +kernel), false, rfl, q⟩
def spIsNumberW (K : PySem.W.Frag) : Sp := fun vs H Q _ => ∃ (v : V) (lo hi : Int), vs = [v, .int lo, .int hi] ∧ Sw K H v ∧ Q (.bl (inV2 lo hi v)) H
theorem inV2_no {lo hi : Int} {v : V} (h : isI v = false) : inV2 lo hi v = false := by
  cases v <;> first | rfl | (cases h)
theorem isI_yes {v : V} (h : isI v = true) : ∃ i, v = .int i := by
  cases v <;> first | exact ⟨_, rfl⟩ | (cases h)
theorem ok_is_numberW (F : Df K mg "is_number" st_is_number ["value", "low", "high"]) (C1 : Cal P w K mg base 1 "is_integer" (spIsIntegerW K)) : Cal P w K mg base 2 "is_number" (spIsNumberW K) := by
  refine mkCal F sc_is_number (fun vs H Q E h => ?_) (fun f cdv A outer s H vs Q E hr h => ?_)
  · obtain ⟨v, lo, hi, rfl, _⟩ := h
    rfl
  · obtain ⟨v, lo, hi, rfl, hv, q⟩ := h
    refine ⟨_, pss_one (ps_ret (pe_and (pc C1 hr (pa_cons (pv 0) pa_nil)) (pe_one (pe_chain op_le op_le (pv 1) (pv 0) (pv 2))))), ?_⟩
    refine ⟨_, rfl, v, rfl, hv, ?_⟩
    cases ei : isI v with
    | true =>
      obtain ⟨i, rfl⟩ := isI_yes ei
      refine ⟨true, rfl, _, rfl, _, rfl, lo, i, rfl, rfl, _, rfl, ite2 (fun e => ?_) (fun e => ?_)⟩
      · refine ⟨_, rfl, i, hi, rfl, rfl, ?_⟩
        have q : Q (.bl (decide (lo ≤ i) && decide (i ≤ hi))) H := q
        rw [e, Bool.true_and] at q
        exact q
      · have e' : decide (lo ≤ i) = false := by simpa using e
        have q : Q (.bl (decide (lo ≤ i) && decide (i ≤ hi))) H := q
        rw [e', Bool.false_and] at q
        exact q
    | false =>
      rw [inV2_no ei] at q
      exact ⟨false, rfl, q⟩
def spIsPlaceW (K : PySem.W.Frag) : Sp := fun vs H Q _ => ∃ (v : V) (p : Int), vs = [v, .int p] ∧ Sw K H v ∧ Q (.bl (inV2 0 (p - 1) v)) H
theorem ok_is_placeW (F : Df K mg "is_place" st_is_place ["value", "places"]) (C2 : Cal P w K mg base 2 "is_number" (spIsNumberW K)) : Cal P w K mg base 3 "is_place" (spIsPlaceW K) := by
  refine mkCal F sc_is_place (fun vs H Q E h => ?_) (fun f cdv A outer s H vs Q E hr h => ?_)
  · obtain ⟨v, p, rfl, _⟩ := h
    rfl
  · obtain ⟨v, p, rfl, hv, q⟩ := h
    refine ⟨_, pss_one (ps_ret (pc C2 hr (pa_cons (pv 0) (pa_cons pe_int (pa_cons (pe_op op_sub (pv 1) pe_int) pa_nil))))), ?_⟩
    exact ⟨_, rfl, _, rfl, p, 1, rfl, rfl, v, 0, p - 1, rfl, hv, q⟩
end
end RH
set_option Elab.async false
set_option linter.all false
set_option maxRecDepth 100000
set_option maxHeartbeats 2000000
namespace RH
open PySem PySem.Spec PyProof.Rows L2
open NdefX (NScope NF CellsAt startF ncx envF)
/-! ### BadHabits, which keeps its place -/
/-- BadHabits can be made -/
structure BhX (P : Program) (w : World) (K : PySem.W.Frag) (mg : Str → Option Value) (base : Heap) (C : Addr) (sp : Sp) : Prop where
  t : OexC K C
  g : mg "BadHabits" = some (.ref C)
  f : ∃ (f : Addr) (fd : FuncData), FnOk P w K mg base CX0 1 f fd ["self", "index"] sp ∧ PySem.W.findIn K (.ref C) "__init__" = some (some (.ref f)) ∧ PySem.W.typeIn K (.ref f) = some (.type "function") ∧ Binds K fd ["self", "index"] []
/-- the place of an error: none, or a small number -/
def plV (v : V) : Prop := v = .non ∨ ∃ i : Nat, i < 6 ∧ v = .int (i : Int)
def spBI (C : Addr) : Sp := fun vs H Q _ => ∃ (a : Addr) (v : V), vs = [.ref a, v] ∧ plV v ∧ H a = some (exo a C none) ∧ ∀ d, H d = none → d ≠ a → Q .non (upd (upd H d (exd d [("index", v)])) a (exo a C (some d)))
theorem fmt_few {i : Nat} (h : i < 6) : ((i : Nat) : Int).natAbs.log2 < 1920 := by
  have : i = 0 ∨ i = 1 ∨ i = 2 ∨ i = 3 ∨ i = 4 ∨ i = 5 := by omega
  rcases this with rfl | rfl | rfl | rfl | rfl | rfl <;> decide +kernel
section
variable {P : Program} {w : World} {K : PySem.W.Frag} {mg : Str → Option Value} {base : Heap}
theorem ok_bh {C f cc cda : Addr} {fd : FuncData} (M : SupC P K mg C "BadHabits.__init__" st_e_BadHabits f fd cc cda) (hno : PySem.W.findIn K (.ref C) "index" = some none) : FnOk P w K mg base CX0 1 f fd ["self", "index"] (spBI C) := by
  refine fn_super (self := "self") M sc_e_BadHabits rfl rfl rfl (by decide +kernel) rfl (fun vs H Q E h => ?_) (fun A outer s H vs Q E hr h => ?_)
  · obtain ⟨a, v, rfl, _⟩ := h
    rfl
  · obtain ⟨a, v, rfl, hv, ha, q⟩ := h
    refine ⟨a, _, _, rfl, ha, pa_cons (pe_joined (.cons pe_str (.cons (pe_fmtN (pv 1)) .nil))) pa_nil, pss_one (ps_ost (pv 0) (pv 1)), ?_⟩
    have fin : (∀ z : Str, z = "None" ∨ (∃ i : Nat, i < 6 ∧ z = toString (i : Int)) → ("no fitting habit at index ".length + z.length ≤ 30)) → True := fun _ => True.intro
    have go : ∀ H1, H1 = H → ([V.str "x"] : List V).length ≤ 1000 ∧ H1 a = some (exo a C none) ∧ tOst K "index" (tVar 0) (tVar 1) { nx := fun _ H' => Q .non H', rt := Q } [some (.ref a), some v, some (.ref C)] H1 := fun H1 e => by
      subst e
      exact ⟨by decide, ha, _, rfl, _, rfl, a, C, rfl, M.t, hno, .inl ⟨ha, fun dx n ne => q dx n ne⟩⟩
    rcases hv with rfl | ⟨i, hi, rfl⟩
    · refine ⟨_, rfl, ?_, _, rfl, .inl ⟨rfl, _, rfl, ?_, go _ rfl⟩⟩
      · rw [sizeLine_eq]; decide +kernel
      · rw [sizeLine_eq]; decide +kernel
    · refine ⟨_, rfl, ?_, _, rfl, .inr ⟨(i : Int), rfl, fmt_few hi, _, rfl, ?_, go _ rfl⟩⟩
      · rw [sizeLine_eq]; decide +kernel
      · rw [sizeLine_eq]
        have : i = 0 ∨ i = 1 ∨ i = 2 ∨ i = 3 ∨ i = 4 ∨ i = 5 := by omega
        rcases this with rfl | rfl | rfl | rfl | rfl | rfl <;> decide +kernel
/-- BadHabits(v) is made: its dict stands at d -/
theorem bh_made {C : Addr} {v : V} {H1 : Hp} {Q : XK} (hv : plV v) (q : ∀ d, H1 d = none → Q (.ref C) (some d) (upd H1 d (.xd [("index", v)]))) :
    ([v] : List V).length ≤ 1000 ∧ ∀ a, H1 a = none → spBI C (.ref a :: ([v] ++ [])) (upd H1 a (exo a C none)) (fun u H2 => u = .non ∧ ∃ (d : Addr) (fs : List (Str × V)), H2 a = some (exo a C (some d)) ∧ H2 d = some (exd d fs) ∧ H1 d = none ∧ Q (.ref C) (some d) (upd (del H2 a) d (.xd fs))) (fun _ _ _ => False) := by
  refine ⟨by show 1 ≤ 1000; decide, fun a ha => ⟨a, v, rfl, hv, upd_same, fun d hd ne => ⟨rfl, d, [("index", v)], upd_same, ?_, ?_, ?_⟩⟩⟩
  · rw [upd_ne ne, upd_same]
  · rw [upd_ne ne] at hd
    exact hd
  · have hd' : H1 d = none := by
      rw [upd_ne ne] at hd
      exact hd
    have e : upd (del (upd (upd (upd H1 a (exo a C none)) d (exd d [("index", v)])) a (exo a C (some d))) a) d (.xd [("index", v)]) = upd H1 d (.xd [("index", v)]) := by
      funext b
      by_cases hb : b = d
      · rw [hb, upd_same, upd_same]
      · rw [upd_ne hb, upd_ne hb]
        by_cases hba : b = a
        · rw [hba, del_same, ha]
        · rw [del_ne hba, upd_ne hba, upd_ne hb, upd_ne hba]
    rw [e]
    exact q d hd'
end
end RH
set_option Elab.async false
set_option linter.all false
set_option maxRecDepth 100000
set_option maxHeartbeats 2000000
namespace RH
open PySem PySem.Spec PyProof.Rows L2
/-! ### the checks, for values of whatever kind -/
/-- a value: a tuple of values, or what is none -/
inductive Tk (K : PySem.W.Frag) (H : Hp) : V → Option (List V) → Prop
  | tup {a : Addr} {xs : List V} : SqT K H a xs → Tk K H (.ref a) (some xs)
  | lst {a : Addr} {xs : List V} : SqL K H a xs → Tk K H (.ref a) none
  | dct {a : Addr} {kvs : List (L2.Key × V)} : H a = some (.dK kvs) → Tk K H (.ref a) none
  | int (i : Int) : Tk K H (.int i) none
  | bl (b : Bool) : Tk K H (.bl b) none
  | non : Tk K H .non none
  | str (z : Str) : Tk K H (.str z) none
theorem Tk.on {K : PySem.W.Frag} {H H' : Hp} (e : Same H H') {v : V} {wo : Option (List V)} (h : Tk K H v wo) : Tk K H' v wo := by
  cases h with
  | tup h => exact .tup (onT e h)
  | lst h => exact .lst (e.seq h)
  | dct h => exact .dct (e _ _ h)
  | int i => exact .int i
  | bl b => exact .bl b
  | non => exact .non
  | str z => exact .str z
/-- .. of values -/
structure Wd (K : PySem.W.Frag) (H : Hp) (v : V) (wo : Option (List V)) : Prop where
  t : Tk K H v wo
  s : ∀ xs, wo = some xs → ∀ x ∈ xs, Sw K H x
  l : ∀ xs, wo = some xs → xs.length < 64
theorem Wd.on {K : PySem.W.Frag} {H H' : Hp} (e : Same H H') {v : V} {wo : Option (List V)} (h : Wd K H v wo) : Wd K H' v wo := ⟨h.t.on e, fun xs z x hm => (h.s xs z x hm).on e, h.l⟩
def rowW (lo hi : Int) : Option (List V) → Bool
  | some xs => decide (lo ≤ (xs.length : Int)) && decide ((xs.length : Int) ≤ hi)
  | none => false
def plsW (p : Int) : Option (List V) → Bool
  | some xs => xs.all (inV2 0 (p - 1))
  | none => false
theorem inV2_yes0 {n : Nat} {i : Int} (h0 : 0 ≤ i) (h1 : i < n) : inV2 0 ((n : Int) - 1) (.int i) = true := by
  show (decide (0 ≤ i) && decide (i ≤ (n : Int) - 1)) = true
  rw [decide_eq_true h0, decide_eq_true (by omega)]
  rfl
theorem inV2_get {n : Nat} {v : V} (h : inV2 0 ((n : Int) - 1) v = true) : ∃ i, v = .int i ∧ 0 ≤ i ∧ i < n := by
  cases v <;> first | (cases h; done) | skip
  rename_i i
  have h : (decide (0 ≤ i) && decide (i ≤ (n : Int) - 1)) = true := h
  rw [Bool.and_eq_true, decide_eq_true_iff, decide_eq_true_iff] at h
  exact ⟨i, rfl, h.1, by omega⟩
/-- places all: numbers all -/
theorem all_ints {n : Nat} : ∀ {xs : List V}, (xs.all (inV2 0 ((n : Int) - 1))) = true → ∃ ns : List Int, xs = ns.map V.int ∧ inP n ns = true
  | [], _ => ⟨[], rfl, rfl⟩
  | x :: xs, h => by
    rw [List.all_cons, Bool.and_eq_true] at h
    obtain ⟨i, rfl, h0, h1⟩ := inV2_get h.1
    obtain ⟨ns, rfl, e⟩ := all_ints h.2
    refine ⟨i :: ns, rfl, ?_⟩
    unfold inP at e ⊢
    rw [List.all_cons, e, decide_eq_true h0, decide_eq_true (by omega)]
    rfl
def valI : V → Int
  | .int i => i
  | _ => -1
/-- is it a layout? -/
def layW (n : Nat) : Option (List V) → Bool
  | some xs => xs.all (inV2 0 ((n : Int) - 1)) && isLay n (xs.map valI)
  | none => false
section
variable {P : Program} {w : World} {K : PySem.W.Frag} {mg : Str → Option Value} {base : Heap}
def spIsRowW (K : PySem.W.Frag) : Sp := fun vs H Q _ => ∃ (v : V) (wo : Option (List V)) (lo hi : Int), vs = [v, .int lo, .int hi] ∧ Tk K H v wo ∧ Q (.bl (rowW lo hi wo)) H
theorem ok_is_rowW (F : Df K mg "is_row" st_is_row ["value", "low", "high"]) (B : Bu mg) : Cal P w K mg base 1 "is_row" (spIsRowW K) := by
  refine mkCal F sc_is_row (fun vs H Q E h => ?_) (fun f cdv A outer s H vs Q E hr h => ?_)
  · obtain ⟨v, ro, lo, hi, rfl, _⟩ := h
    rfl
  · obtain ⟨v, ro, lo, hi, rfl, hk, q⟩ := h
    refine ⟨_, pss_one (ps_ret (pe_and (pe_callB call_isi (by rfl) B.isi (by decide +kernel) (pa_cons (pv 0) (pa_cons (pe_bltn (v := .ty "tuple") (by rfl) B.tuple (by decide +kernel) rfl) pa_nil)))
      (pe_one (pe_chain op_le op_le (pv 1) (pe_callB call_len_seq (by rfl) B.len PySem.boot_len (pa_cons (pv 0) pa_nil)) (pv 2))))), ?_⟩
    cases hk with
    | int i => exact ⟨_, rfl, .int i, .ty "tuple", _, _, false, rfl, .ty "tuple", .base (.int i), kit_ty (by decide +kernel), false, rfl, q⟩
    | bl b => exact ⟨_, rfl, .bl b, .ty "tuple", _, _, false, rfl, .ty "tuple", .base (.bl b), kit_ty (by decide +kernel), false, rfl, q⟩
    | non => exact ⟨_, rfl, .non, .ty "tuple", _, _, false, rfl, .ty "tuple", .base .non, kit_ty (by decide +kernel), false, rfl, q⟩
    | str z => exact ⟨_, rfl, .str z, .ty "tuple", _, _, false, rfl, .ty "tuple", .base (.str z), kit_ty (by decide +kernel), false, rfl, q⟩
    | @lst a xs hS => exact ⟨_, rfl, .ref a, .ty "tuple", _, _, false, rfl, .ty "tuple", ty_lst hS, kit_ty (by decide +kernel), false, rfl, q⟩
    | @dct a kvs e => exact ⟨_, rfl, .ref a, .ty "tuple", _, _, false, rfl, .ty "tuple", .base (.dK e), kit_ty (by decide +kernel), false, rfl, q⟩
    | @tup a xs hS =>
      refine ⟨_, rfl, .ref a, .ty "tuple", _, _, true, rfl, .ty "tuple", ty_tup hS, kit_ty (by decide +kernel), true, rfl, _, rfl, _, rfl, a, xs, rfl, .inr hS, lo, (xs.length : Int), rfl, rfl, _, rfl, ite2 (fun e => ?_) (fun e => ?_)⟩
      · refine ⟨_, rfl, _, hi, rfl, rfl, ?_⟩
        have q : Q (.bl (decide (lo ≤ (xs.length : Int)) && decide ((xs.length : Int) ≤ hi))) H := q
        rw [e, Bool.true_and] at q
        exact q
      · have e' : decide (lo ≤ (xs.length : Int)) = false := by simpa using e
        have q : Q (.bl (decide (lo ≤ (xs.length : Int)) && decide ((xs.length : Int) ≤ hi))) H := q
        rw [e', Bool.false_and] at q
        exact q
def spArePlacesW (K : PySem.W.Frag) : Sp := fun vs H Q _ => ∃ (v : V) (wo : Option (List V)) (p : Int), vs = [v, .int p] ∧ Wd K H v wo ∧ ∀ H', Same H H' → Q (.bl (plsW p wo)) H'
theorem ok_are_placesW (F : Df K mg "are_places" st_are_places ["value", "places"]) (B : Bu mg) (C3 : Cal P w K mg base 3 "is_place" (spIsPlaceW K)) : Cal P w K mg base 4 "are_places" (spArePlacesW K) := by
  refine mkCal F sc_are_places (fun vs H Q E h => ?_) (fun f cdv A outer s H vs Q E hr h => ?_)
  · obtain ⟨v, wo, p, rfl, _⟩ := h
    rfl
  · obtain ⟨v, wo, p, rfl, hw, q⟩ := h
    refine ⟨_, pss_one (ps_ret (pe_and (pe_callB call_isi (by rfl) B.isi (by decide +kernel) (pa_cons (pv 0) (pa_cons (pe_bltn (v := .ty "tuple") (by rfl) B.tuple (by decide +kernel) rfl) pa_nil)))
      (pe_one (pe_callB (cr_all rfl) (by rfl) B.all (by decide +kernel) (pa_cons (pe_lc (own := [("place", 2)]) (g := gName 2) (tt := tYes) rfl sc_are_places.nd (pi_tup (pv 0)) (blkOk_by (N := ["value", "places", "place"]) (sc := defScope st_are_places) (by decide +kernel))
        (fun _ _ _ _ _ => pg_name (i := 2) sc_are_places.nd rfl (Or.inl rfl)) (fun _ _ _ _ _ => pts_nil) (fun _ _ _ _ _ => pc C3 hr (pa_cons (pv 2) (pa_cons (pv 1) pa_nil)))) pa_nil))))), ?_⟩
    obtain ⟨ht, hsw, hlen⟩ := hw
    cases ht with
    | int i => exact ⟨_, rfl, .int i, .ty "tuple", _, _, false, rfl, .ty "tuple", .base (.int i), kit_ty (by decide +kernel), false, rfl, q H (Same.refl H)⟩
    | bl b => exact ⟨_, rfl, .bl b, .ty "tuple", _, _, false, rfl, .ty "tuple", .base (.bl b), kit_ty (by decide +kernel), false, rfl, q H (Same.refl H)⟩
    | non => exact ⟨_, rfl, .non, .ty "tuple", _, _, false, rfl, .ty "tuple", .base .non, kit_ty (by decide +kernel), false, rfl, q H (Same.refl H)⟩
    | str z => exact ⟨_, rfl, .str z, .ty "tuple", _, _, false, rfl, .ty "tuple", .base (.str z), kit_ty (by decide +kernel), false, rfl, q H (Same.refl H)⟩
    | @lst a xs hS => exact ⟨_, rfl, .ref a, .ty "tuple", _, _, false, rfl, .ty "tuple", ty_lst hS, kit_ty (by decide +kernel), false, rfl, q H (Same.refl H)⟩
    | @dct a kvs e => exact ⟨_, rfl, .ref a, .ty "tuple", _, _, false, rfl, .ty "tuple", .base (.dK e), kit_ty (by decide +kernel), false, rfl, q H (Same.refl H)⟩
    | @tup a xs hS =>
      have hl := hlen xs rfl
      have hx := hsw xs rfl
      refine ⟨_, rfl, .ref a, .ty "tuple", _, _, true, rfl, .ty "tuple", ty_tup hS, kit_ty (by decide +kernel), true, rfl, ?_⟩
      refine ⟨_, rfl, a, rfl, ⟨_, hS⟩, fun D hD => ?_⟩
      refine lc_tup (xs := xs) (fun i H' => Same H H' ∧ H' D = some (.lst (((xs.take i).map (inV2 0 (p - 1))).map V.bl))) ⟨same_new hD, upd_same⟩ (fun i H' _ h' => onT h'.1 hS) (fun i x H' hi h' => ?_) (fun H' h' => ?_)
      · obtain ⟨sm, eD⟩ := h'
        refine ⟨rfl, _, rfl, _, rfl, x, p, rfl, (hx x (List.mem_of_getElem? hi)).on sm, _, eD, ?_, ?_, ?_⟩
        · rw [List.length_map, List.length_map, List.length_take]
          exact small1000 (by omega)
        · intro b o e
          rw [upd_ne (ne_of_none e hD)]
          exact sm b o e
        · rw [upd_same, all_snoc _ hi, List.map_append]
          rfl
      · obtain ⟨sm, eD⟩ := h'
        rw [List.take_length] at eD
        refine ⟨D, _, rfl, lstAt eD, ?_⟩
        have e : ((xs.map (inV2 0 (p - 1))).all id) = plsW p (some xs) := by
          rw [List.all_map]
          rfl
        rw [e]
        exact q H' sm
def spIsLayoutW (K : PySem.W.Frag) : Sp := fun vs H Q _ => ∃ (v : V) (wo : Option (List V)) (p : Nat), vs = [v, .int p] ∧ Wd K H v wo ∧ p ≤ 1000 ∧ ∀ H', Same H H' → Q (.bl (layW p wo)) H'
theorem ok_is_layoutW (F : Df K mg "is_layout" st_is_layout ["value", "places"]) (B : Bu mg) (C4 : Cal P w K mg base 4 "are_places" (spArePlacesW K)) : Cal P w K mg base 5 "is_layout" (spIsLayoutW K) := by
  refine mkCal F sc_is_layout (fun vs H Q E h => ?_) (fun f cdv A outer s H vs Q E hr h => ?_)
  · obtain ⟨v, wo, p, rfl, _⟩ := h
    rfl
  · obtain ⟨v, wo, p, rfl, hw, hp, q⟩ := h
    refine ⟨_, pss_one (ps_ret (pe_and (pc C4 hr (pa_cons (pv 0) (pa_cons (pv 1) pa_nil)))
      (pe_one (pe_cmpR (op_eqD hr.units) (pe_callB cr_sortedTup (by rfl) B.sorted (by decide +kernel) (pa_cons (pv 0) pa_nil)) (pe_listRg rfl (by rfl) B.list (prg_1 (by rfl) B.range (pv 1))) (nomark _))))), ?_⟩
    refine ⟨_, rfl, _, rfl, v, wo, p, rfl, hw, fun H1 sm1 => ⟨_, rfl, ite2 (fun e => ?_) (fun e => ?_)⟩⟩
    · obtain ⟨ht, hsw, hlen⟩ := hw
      cases ht with
      | @tup a xs hS =>
        obtain ⟨ns, rfl, hin⟩ := all_ints (n := p) e
        have hl : ns.length < 64 := by
          have := hlen _ rfl
          rwa [List.length_map] at this
        refine ⟨_, rfl, a, ns, rfl, onT sm1 hS, hl, fun ns' pL hpm hpw nL => ⟨_, rfl, (p : Int), rfl, ⟨by omega, by omega, by omega, by omega, by omega⟩, fun q' nq => ?_⟩⟩
        have nqp : pL ≠ q' := ne_of_none upd_same nq
        refine ⟨_, _, dp_lst (ns := ns') (lstAt ?_), dp_lst (ns := rg p) (lstAt ?_), PySem.W.ke_shaped_ints _, PySem.W.ke_shaped_ints _, ?_⟩
        · rw [upd_ne nqp, upd_same]
        · rw [upd_same, rgV_rg]
        · have em : ((ns.map V.int).map valI) = ns := by
            rw [List.map_map]
            exact List.map_id' ns
          have e2 : PyData.eqv (.list (ns'.map PyData.int)) (.list ((rg p).map PyData.int)) = layW p (some (ns.map V.int)) := by
            have e3 : layW p (some (ns.map V.int)) = isLay p ns := by
              have e : ((ns.map V.int).all (inV2 0 ((p : Int) - 1))) = true := e
              show ((ns.map V.int).all (inV2 0 ((p : Int) - 1)) && isLay p ((ns.map V.int).map valI)) = isLay p ns
              rw [e, Bool.true_and, em]
            rw [e3, eqv_lst, Bool.eq_iff_iff, decide_eq_true_iff]
            unfold isLay
            rw [List.isPerm_iff]
            constructor
            · intro z
              rw [← z]
              exact hpm.symm
            · intro z
              exact PySem.W.ksm_same (hpm.trans z) hpw (rg_le p)
          rw [e2]
          exact q _ (sm1.trans (Same.trans (same_new nL) (same_new nq)))
      | _ => cases e
    · have e2 : layW p wo = false := by
        cases wo with
        | none => rfl
        | some xs =>
          have e' : (xs.all (inV2 0 ((p : Int) - 1))) = false := by
            have e3 : ¬ (xs.all (inV2 0 ((p : Int) - 1))) = true := e
            simpa using e3
          show (xs.all (inV2 0 ((p : Int) - 1)) && isLay p (xs.map valI)) = false
          rw [e', Bool.false_and]
      have q := q H1 sm1
      rw [e2] at q
      exact q
end
end RH
set_option Elab.async false
set_option linter.all false
set_option maxRecDepth 100000
set_option maxHeartbeats 2000000
namespace RH
open PySem PySem.Spec PyProof.Rows L2
/-! ### habits of whatever kind -/
/-- a habit, or what is none: of each row what it is -/
inductive Hk (K : PySem.W.Frag) (H : Hp) : V → Option (List (Option (List V))) → Prop
  | tup {a : Addr} {xs : List V} {wos : List (Option (List V))} : SqT K H a xs → Each (Wd K H) xs wos → Hk K H (.ref a) (some wos)
  | no {v : V} : Tk K H v none → Hk K H v none
theorem Hk.on {K : PySem.W.Frag} {H H' : Hp} (e : Same H H') {v : V} {ho : Option (List (Option (List V)))} (h : Hk K H v ho) : Hk K H' v ho := by
  cases h with
  | tup h hx => exact .tup (onT e h) (hx.imp fun v d z => z.on e)
  | no h => exact .no (h.on e)
/-- is it a habit? -/
def habW : Option (List (Option (List V))) → Bool
  | some wos => decide (2 ≤ wos.length) && decide (wos.length ≤ 5) && wos.all (layW wos.length)
  | none => false
theorem few_cast (n : Nat) : (decide ((2 : Int) ≤ (n : Int)) && decide ((n : Int) ≤ 5)) = (decide (2 ≤ n) && decide (n ≤ 5)) := by
  rw [Bool.eq_iff_iff]
  simp only [Bool.and_eq_true, decide_eq_true_iff]
  omega
section
variable {P : Program} {w : World} {K : PySem.W.Frag} {mg : Str → Option Value} {base : Heap}
def spIsHabitW (K : PySem.W.Frag) : Sp := fun vs H Q _ => ∃ (v : V) (ho : Option (List (Option (List V)))), vs = [v] ∧ Hk K H v ho ∧ ∀ H', Same H H' → Q (.bl (habW ho)) H'
theorem ok_is_habitW (F : Df K mg "is_habit" st_is_habit ["value"]) (B : Bu mg) (c2 : ∃ t, mg "FEWEST_PLACES" = some (.int 2 t)) (c5 : ∃ t, mg "MOST_PLACES" = some (.int 5 t)) (C1 : Cal P w K mg base 1 "is_row" (spIsRowW K)) (C5 : Cal P w K mg base 5 "is_layout" (spIsLayoutW K)) :
    Cal P w K mg base 6 "is_habit" (spIsHabitW K) := by
  refine mkCal F sc_is_habit (fun vs H Q E h => ?_) (fun f cdv A outer s H vs Q E hr h => ?_)
  · obtain ⟨v, ho, rfl, _⟩ := h
    rfl
  · obtain ⟨v, ho, rfl, hk, q⟩ := h
    refine ⟨_, pss_one (ps_ret (pe_and (pc C1 hr (pa_cons (pv 0) (pa_cons (pk c2) (pa_cons (pk c5) pa_nil))))
      (pe_one (pe_callB (cr_all rfl) (by rfl) B.all (by decide +kernel) (pa_cons (pe_lc (own := [("moves", 1)]) (g := gName 1) (tt := tYes) rfl sc_is_habit.nd (pi_tup (pv 0)) (blkOk_by (N := ["value", "moves"]) (sc := defScope st_is_habit) (by decide +kernel))
        (fun _ _ _ _ _ => pg_name (i := 1) sc_is_habit.nd rfl (Or.inl rfl)) (fun _ _ _ _ _ => pts_nil) (fun _ _ _ _ _ => pc C5 hr (pa_cons (pv 1) (pa_cons (pe_callB (cl_len K) (by rfl) B.len PySem.boot_len (pa_cons (pv 0) pa_nil)) pa_nil)))) pa_nil))))), ?_⟩
    cases hk with
    | @no v ht => exact ⟨_, rfl, v, none, 2, 5, rfl, ht, _, rfl, q H (Same.refl H)⟩
    | @tup a xs wos hS hE =>
      have hlen := hE.len
      refine ⟨_, rfl, .ref a, some xs, 2, 5, rfl, .tup hS, _, rfl, ?_⟩
      have er : rowW 2 5 (some xs) = (decide (2 ≤ wos.length) && decide (wos.length ≤ 5)) := by
        show (decide ((2 : Int) ≤ (xs.length : Int)) && decide ((xs.length : Int) ≤ 5)) = _
        rw [hlen, few_cast]
      rw [er]
      cases hc : (decide (2 ≤ wos.length) && decide (wos.length ≤ 5)) with
      | false =>
        have q := q H (Same.refl H)
        unfold habW at q
        dsimp only at q
        rw [hc, Bool.false_and] at q
        exact q
      | true =>
        have hc' := hc
        rw [Bool.and_eq_true, decide_eq_true_iff, decide_eq_true_iff] at hc'
        refine ⟨_, rfl, a, rfl, ⟨_, hS⟩, fun D hD => ?_⟩
        refine lc_tup (xs := xs) (fun i H' => Same H H' ∧ H' D = some (.lst (((wos.take i).map (layW wos.length)).map V.bl))) ⟨same_new hD, upd_same⟩ (fun i H' _ h' => onT h'.1 hS) (fun i x H' hi h' => ?_) (fun H' h' => ?_)
        · obtain ⟨sm, eD⟩ := h'
          obtain ⟨wo, hwo, hw⟩ := hE.at hi
          refine ⟨rfl, _, rfl, _, rfl, a, xs, rfl, .inr (onT sm hS), x, wo, wos.length, by rw [hlen]; rfl, hw.on sm, by omega, fun H3 s3 => ⟨_, s3 _ _ eD, ?_, ?_, ?_⟩⟩
          · rw [List.length_map, List.length_map, List.length_take]
            exact small1000 (by omega)
          · intro b o e
            rw [upd_ne (ne_of_none e hD)]
            exact s3 _ _ (sm b o e)
          · rw [upd_same, all_snoc _ hwo, List.map_append]
            rfl
        · obtain ⟨sm, eD⟩ := h'
          rw [hlen, List.take_length] at eD
          refine ⟨D, _, rfl, lstAt eD, ?_⟩
          have e : ((wos.map (layW wos.length)).all id) = habW (some wos) := by
            unfold habW
            dsimp only
            rw [hc, Bool.true_and, List.all_map]
            rfl
          rw [e]
          exact q H' sm
end
end RH
set_option Elab.async false
set_option linter.all false
set_option maxRecDepth 100000
set_option maxHeartbeats 2000000
namespace RH
open PySem PySem.Spec PyProof.Rows L2
/-! ### lots of whatever kind; the checks that raise -/
/-- is it a lot? -/
def lotW (n : Nat) (wo : Option (List V)) : Bool := rowW 1 n wo && plsW n wo && match wo with
  | some xs => risI (xs.map valI)
  | none => false
def noE (C : Addr) (H : Hp) (E : XK) : Prop := ∀ H', Same H H' → E (.ref C) none H'
theorem noE.on {C : Addr} {H H' : Hp} {E : XK} (h : noE C H E) (s : Same H H') : noE C H' E := fun H2 s2 => h H2 (s.trans s2)
/-- BadHabits(pl) comes -/
def bhE (C : Addr) (pl : V) (H : Hp) (E : XK) : Prop := ∀ d H', Same H H' → H' d = some (.xd [("index", pl)]) → E (.ref C) (some d) H'
theorem bhE.on {C : Addr} {pl : V} {H H' : Hp} {E : XK} (h : bhE C pl H E) (s : Same H H') : bhE C pl H' E := fun d H2 s2 => h d H2 (s.trans s2)
section
variable {P : Program} {w : World} {K : PySem.W.Frag} {mg : Str → Option Value} {base : Heap}
def spIsLotW (K : PySem.W.Frag) : Sp := fun vs H Q _ => ∃ (v : V) (wo : Option (List V)) (n : Nat), vs = [v, .int n] ∧ Wd K H v wo ∧ ∀ H', Same H H' → Q (.bl (lotW n wo)) H'
theorem ok_is_lotW (F : Df K mg "is_lot" st_is_lot ["value", "places"]) (C1 : Cal P w K mg base 1 "is_row" (spIsRowW K)) (C4 : Cal P w K mg base 4 "are_places" (spArePlacesW K)) (CR : Cal P w K mg base 1 "is_rising" (spIsRising K)) : Cal P w K mg base 5 "is_lot" (spIsLotW K) := by
  refine mkCal F sc_is_lot (fun vs H Q E h => ?_) (fun f cdv A outer s H vs Q E hr h => ?_)
  · obtain ⟨v, wo, n, rfl, _⟩ := h
    rfl
  · obtain ⟨v, wo, n, rfl, hw, q⟩ := h
    refine ⟨_, pss_one (ps_ret (pe_and (pc C1 hr (pa_cons (pv 0) (pa_cons pe_int (pa_cons (pv 1) pa_nil)))) (pe_and (pc C4 hr (pa_cons (pv 0) (pa_cons (pv 1) pa_nil))) (pe_one (pc CR hr (pa_cons (pv 0) pa_nil)))))), ?_⟩
    refine ⟨_, rfl, _, rfl, v, wo, 1, n, rfl, hw.t, _, rfl, ?_⟩
    cases e1 : rowW 1 n wo with
    | false =>
      have q := q H (Same.refl H)
      unfold lotW at q
      rw [e1, Bool.false_and, Bool.false_and] at q
      exact q
    | true =>
      refine ⟨_, rfl, _, rfl, v, wo, n, rfl, hw, fun H1 s1 => ⟨_, rfl, ?_⟩⟩
      cases e2 : plsW n wo with
      | false =>
        have q := q H1 s1
        unfold lotW at q
        rw [e1, e2, Bool.true_and, Bool.false_and] at q
        exact q
      | true =>
        obtain ⟨ht, hs, hl⟩ := hw
        cases ht with
        | @tup a xs hS =>
          obtain ⟨ns, rfl, hin⟩ := all_ints (n := n) e2
          refine ⟨_, rfl, .ref a, ns, rfl, ⟨a, rfl, onT s1 hS⟩, by have := hl _ rfl; rw [List.length_map] at this; omega, fun H2 s2 => ?_⟩
          have q := q H2 (s1.trans s2)
          unfold lotW at q
          rw [e1, e2, Bool.true_and, Bool.true_and] at q
          have em : ((ns.map V.int).map valI) = ns := by
            rw [List.map_map]
            exact List.map_id' ns
          have q : Q (.bl (risI ((ns.map V.int).map valI))) H2 := q
          rw [em] at q
          exact q
        | _ => cases e2
def spCheckLotX (K : PySem.W.Frag) (C : Addr) : Sp := fun vs H Q E => ∃ (v : V) (wo : Option (List V)) (n : Nat), vs = [v, .int n] ∧ Wd K H v wo ∧ (lotW n wo = true → ∀ H', Same H H' → Q .non H') ∧ (lotW n wo = false → noE C H E)
theorem ok_check_lotX {C : Addr} (F : Df K mg "check_lot" st_check_lot ["lot", "places"]) (Xn : ExO K mg "BadPlace" C) (C5 : Cal P w K mg base 5 "is_lot" (spIsLotW K)) : CalX P w K mg base 6 "check_lot" (spCheckLotX K C) := by
  refine mkCalX F sc_check_lot (fun vs H Q E h => ?_) (fun f cdv A outer s H vs Q E hr h => ?_)
  · obtain ⟨v, wo, n, rfl, _⟩ := h
    rfl
  · obtain ⟨v, wo, n, rfl, hw, q1, q2⟩ := h
    refine ⟨_, pss_one (ps_if (pt_not (pt_val (pc C5 hr (pa_cons (pv 0) (pa_cons (pv 1) pa_nil))))) (pss_one (ps_raise rfl takesE (pmk_own PySem.F.excBase_ValueError Xn.q Xn.g Xn.k (raises_own Xn.b Xn.t) rfl))) pss_nil), ?_⟩
    refine ⟨_, rfl, _, rfl, v, wo, n, rfl, hw, fun H1 s1 => ⟨_, rfl, ?_⟩⟩
    cases el : lotW n wo with
    | true => exact ifF rfl (q1 el H1 s1)
    | false => exact ifT rfl (q2 el H1 s1)
end
end RH
set_option Elab.async false
set_option linter.all false
set_option maxRecDepth 100000
set_option maxHeartbeats 2000000
namespace RH
open PySem PySem.Spec PyProof.Rows L2
/-! ### some habits -/
structure CalXD (P : Program) (w : World) (K : PySem.W.Frag) (mg : Str → Option Value) (base : Heap) (k : Nat) (x : Str) (dvs : List V) (sp : Sp) : Prop where
  ex : ∃ (f : Addr) (fd : FuncData) (ps : List Str) (ds : List Value), FnOk P w K mg base (L2.CX P w) k f fd ps sp ∧ mg x = some (.ref f) ∧ PySem.W.keepIn K (.ref f) = true ∧ Vals dvs ds ∧ Binds K fd ps ds
theorem mkCalXD {P : Program} {w : World} {K : PySem.W.Frag} {mg : Str → Option Value} {base : Heap} {x : Str} {st : Stmt} {N ps : List Str} {dvs : List V} {k : Nat} {sp : Sp} (F : DfD K mg x st ps dvs) (S : FnScope N ps (defScope st)) (len : ∀ vs H Q E, sp vs H Q E → vs.length = ps.length)
    (hbody : ∀ (f : Addr) (cdv : Value) (A : Around) (outer : List Env) (s : Shared) (H : Hp) (vs : List V) (Q : VK) (E : XK), Room k (A.deeper (envOfC x (defScope st) s.heap.objs.size f cdv)) → sp vs H Q E →
      ∃ t, PSs (cxOf (L2.CX P w) P w K mg base N x (defScope st) f cdv A outer s H E) (defBody st) t ∧ t { nx := fun _ H' => Q .non H', rt := Q } (start N vs) H) : CalXD P w K mg base (k + 1) x dvs sp := by
  obtain ⟨f, fd, F, g, ds, hv, b⟩ := F.ex
  exact ⟨f, fd, ps, ds, F.ok S len (hbody f), g, F.kp, hv, b⟩
theorem pcXD {X : Cx} {k j : Nat} {x : Str} {sp : Sp} {E : XK} {dvs : List V} {p pos : Pos} {e : Expr} {es : List Expr} {t : TA} (c : CalXD X.prog X.w X.K X.mg X.base k x dvs sp) (hx : Passes (L2.CX X.prog X.w) X E) (hr : Room j X.A) (ha : PA X (e :: es) t) (hk : k ≤ j := by decide) (hg : Gl X x := by rfl)
    (hdb : (x == ("__debug__" : Str)) = false := by decide) (he : starEach (e :: es) X.env = (false, eval e X.env) :: starEach es X.env := by rfl) (hpl : (backTo pos (starEach es X.env)).any (·.1) = false := by rfl) :
    PE X (.Call (.Name x p) (e :: es) [] pos) (tCall sp dvs E t) := by
  obtain ⟨f, fd, ps, ds, F, hm, kp, hv, b⟩ := c.ex
  exact pe_call F (hr.mono hk) hg hm kp b hv hx ha hdb he hpl
abbrev HO1 : Type := Option (List (Option (List V)))
def lenH (ho : HO1) : Nat := (ho.map List.length).getD 0
/-- some habits, or what is none -/
inductive Hs (K : PySem.W.Frag) (H : Hp) : V → Option (List HO1) → Prop
  | tup {a : Addr} {xs : List V} {hos : List HO1} : SqT K H a xs → Each (Hk K H) xs hos → Hs K H (.ref a) (some hos)
  | no {v : V} : Tk K H v none → Hs K H v none
/-- an index that does not fit -/
def badI (n : Nat) (ho : HO1) : Bool := !habW ho || !decide (lenH ho = n)
/-- the index that BadHabits tells -/
def hsBad : Option (List HO1) → Option V
  | none => some .non
  | some hos => if (decide (1 ≤ hos.length) && decide (hos.length ≤ 3)) = true then (hos.findIdx? (badI (lenH (hos.headD none)))).map (fun i => V.int (i : Nat)) else some .non
theorem hsBad_pl {ho : Option (List HO1)} {pl : V} (h : hsBad ho = some pl) : plV pl := by
  cases ho with
  | none => exact .inl (Option.some.inj h).symm
  | some hos =>
    unfold hsBad at h
    dsimp only at h
    split at h
    · rename_i hc
      rw [Bool.and_eq_true, decide_eq_true_iff, decide_eq_true_iff] at hc
      obtain ⟨i, hi, e⟩ := Option.map_eq_some_iff.mp h
      have := (List.findIdx?_eq_some_iff_getElem.mp hi).1
      exact .inr ⟨i, by omega, e.symm⟩
    · exact .inl (Option.some.inj h).symm
theorem few_cast3 (n : Nat) : (decide ((1 : Int) ≤ (n : Int)) && decide ((n : Int) ≤ 3)) = (decide (1 ≤ n) && decide (n ≤ 3)) := by
  rw [Bool.eq_iff_iff]
  simp only [Bool.and_eq_true, decide_eq_true_iff]
  omega
theorem hk_tup {K : PySem.W.Frag} {H : Hp} {v : V} {ho : HO1} (h : Hk K H v ho) (hb : habW ho = true) : ∃ a xs, v = .ref a ∧ SqT K H a xs ∧ xs.length = lenH ho := by
  cases h with
  | tup h hx => exact ⟨_, _, rfl, h, hx.len⟩
  | no h => cases hb
section
variable {P : Program} {w : World} {K : PySem.W.Frag} {mg : Str → Option Value} {base : Heap}
def spCheckHabitsX (K : PySem.W.Frag) (C : Addr) : Sp := fun vs H Q E => ∃ (v : V) (ho : Option (List HO1)), vs = [v, .int 3] ∧ Hs K H v ho ∧ (hsBad ho = none → ∀ H', Same H H' → Q .non H') ∧ (∀ pl, hsBad ho = some pl → bhE C pl H E)
theorem ok_check_habitsX {C : Addr} (F : DfD K mg "check_habits" st_check_habits ["habits", "most"] [.int 3]) (B : Bu mg) (T : BhX P w K mg base C (spBI C)) (C1 : Cal P w K mg base 1 "is_row" (spIsRowW K)) (C6 : Cal P w K mg base 6 "is_habit" (spIsHabitW K)) :
    CalXD P w K mg base 7 "check_habits" [.int 3] (spCheckHabitsX K C) := by
  refine mkCalXD F sc_check_habits (fun vs H Q E h => ?_) (fun f cdv A outer s H vs Q E hr h => ?_)
  · obtain ⟨v, ho, rfl, _⟩ := h
    rfl
  · obtain ⟨v, ho, rfl, hk, q1, q2⟩ := h
    obtain ⟨fI, fdI, FI, iC, tI, bI⟩ := T.f
    refine ⟨_, pss_cons (ps_if (pt_not (pt_val (pc C1 hr (pa_cons (pv 0) (pa_cons pe_int (pa_cons (pv 1) pa_nil)))))) (pss_one (ps_raise rfl takesE (pmk_oex T.t iC tI FI (hr.mono (by decide)) bI .nil pass0 rfl T.g (pa_cons pe_non pa_nil)))) pss_nil)
      (pss_one (ps_for (passes_of rfl) rfl (pi_enumT (by rfl) B.enumerate (pa_cons (pv 0) pa_nil)) (pg_tup rfl (pgs_cons (pg_name (i := 2) sc_check_habits.nd rfl (.inl rfl)) (pgs_cons (pg_name (i := 3) sc_check_habits.nd rfl (.inl rfl)) pgs_nil)))
        (pss_one (ps_if (PW.pt (pw_or (pt_not (pt_val (pc C6 hr (pa_cons (pv 3) pa_nil)))) (pw_or1 (pt_cmpR op_ne (pe_callB (cl_len K) (by rfl) B.len PySem.boot_len (pa_cons (pv 3) pa_nil))
          (pe_callB (cl_len K) (by rfl) B.len PySem.boot_len (pa_cons (pe_ix (ixT K) (pv 0) pe_int (fun _ _ => rfl)) pa_nil)) (nomark _))))) (pss_one (ps_raise rfl takesE (pmk_oex T.t iC tI FI (hr.mono (by decide)) bI .nil pass0 rfl T.g (pa_cons (pv 2) pa_nil)))) pss_nil)))), ?_⟩
    have none_ : ∀ {H1 : Hp}, Same H H1 → hsBad ho = some .non → ∀ d, H1 d = none → E (.ref C) (some d) (upd H1 d (.xd [("index", .non)])) := fun {H1} s1 e d hd => q2 _ e d _ (s1.trans (same_new hd)) upd_same
    cases hk with
    | @no v ht => exact ⟨_, rfl, _, rfl, v, none, 1, 3, rfl, ht, _, rfl, ifT rfl (bh_made (.inl rfl) (none_ (Same.refl H) rfl))⟩
    | @tup a xs hos hS hE =>
      have hlen := hE.len
      refine ⟨_, rfl, _, rfl, .ref a, some xs, 1, 3, rfl, .tup hS, _, rfl, ?_⟩
      cases hc : (decide (1 ≤ hos.length) && decide (hos.length ≤ 3)) with
      | false =>
        refine ifT ?_ (bh_made (.inl rfl) (none_ (Same.refl H) ?_))
        · show (!(decide ((1 : Int) ≤ (xs.length : Int)) && decide ((xs.length : Int) ≤ 3))) = true
          rw [hlen, few_cast3, hc]
          rfl
        · unfold hsBad
          dsimp only
          rw [hc]
          rfl
      | true =>
        have hc' := hc
        rw [Bool.and_eq_true, decide_eq_true_iff, decide_eq_true_iff] at hc'
        refine ifF ?_ ?_
        · show (!(decide ((1 : Int) ≤ (xs.length : Int)) && decide ((xs.length : Int) ≤ 3))) = false
          rw [hlen, few_cast3, hc]
          rfl
        obtain ⟨x0, hx0⟩ : ∃ x0, xs[0]? = some x0 := ⟨xs[0], List.getElem?_eq_getElem (by omega)⟩
        obtain ⟨h0, hh0, hT0⟩ := hE.at hx0
        have ehd : hos.headD none = h0 := by
          cases hos with
          | nil => simp at hh0
          | cons y ys => exact Option.some.inj hh0
        refine ⟨_, rfl, a, xs, rfl, hS, ?_⟩
        refine for_enumT (xs := xs) (fun i σ H' => Same H H' ∧ (∀ (j : Nat) (ho : HO1), j < i → hos[j]? = some ho → badI (lenH h0) ho = false) ∧ ∃ y1 y2, σ = [some (.ref a), some (.int 3), y1, y2]) ⟨Same.refl H, fun j wo hj => absurd hj (Nat.not_lt_zero _), none, none, rfl⟩ (fun i σ H' h' => onT h'.1 hS) (fun i x T σ H' hx h' hT => ?_) (fun σ H' h' => q1 ?_ H' h'.1)
        · obtain ⟨sm, old, y1, y2, rfl⟩ := h'
          obtain ⟨ho, hho, hTx⟩ := hE.at hx
          have sT : Same H (upd H' T (.tup [.int (i : Nat), x])) := sm.trans (same_new hT)
          have isbad : badI (lenH h0) ho = true → hsBad (some hos) = some (.int (i : Nat)) := fun hb => by
            unfold hsBad
            dsimp only
            rw [if_pos hc, ehd]
            have : hos.findIdx? (badI (lenH h0)) = some i := by
              rw [List.findIdx?_eq_some_iff_getElem]
              refine ⟨(List.getElem?_eq_some_iff.mp hho).1, ?_, fun j hj => ?_⟩
              · rw [(List.getElem?_eq_some_iff.mp hho).2, hb]
              · rw [old j _ hj (List.getElem?_eq_getElem _)]
                decide
            rw [this]
            rfl
          refine ⟨T, _, rfl, tupAt upd_same, rfl, _, _, rfl, _, _, rfl, rfl, _, rfl, x, ho, rfl, hTx.on sT, fun H3 sm3 => ⟨_, rfl, ?_⟩⟩
          have s3 := sT.trans sm3
          cases hb : habW ho with
          | false =>
            refine ifT (by rfl) (ifT rfl ⟨_, rfl, ?_⟩)
            have e := isbad (by unfold badI; rw [hb]; rfl)
            exact bh_made (hsBad_pl e) fun d hd => q2 _ e d _ (s3.trans (same_new hd)) upd_same
          | true =>
            have hb0 : habW h0 = true := by
              cases i with
              | zero =>
                rw [hho] at hh0
                cases hh0
                exact hb
              | succ i =>
                have := old 0 h0 (Nat.succ_pos _) hh0
                unfold badI at this
                rw [Bool.or_eq_false_iff] at this
                simpa using this.1
            obtain ⟨ax, xx, rfl, hSx, lx⟩ := hk_tup (hTx.on s3) hb
            obtain ⟨a0, xx0, rfl, hS0, l0⟩ := hk_tup (hT0.on s3) hb0
            refine ifF (by rfl) ⟨_, rfl, ax, xx, rfl, .inr hSx, _, rfl, a, xs, 0, .ref a0, rfl, rfl, onT s3 hS, atI_nat (j := 0) hx0, a0, xx0, rfl, .inr hS0, rfl, _, rfl, ?_⟩
            by_cases el : lenH ho = lenH h0
            · refine ifF ?_ ⟨s3, fun j ho' hj e => ?_, _, _, rfl⟩
              · rw [lx, l0, el]
                simp
              · rcases Nat.lt_succ_iff_lt_or_eq.mp hj with hj | rfl
                · exact old j ho' hj e
                · rw [hho] at e
                  cases e
                  unfold badI
                  rw [hb, decide_eq_true el]
                  rfl
            · have e := isbad (by unfold badI; rw [decide_eq_false el, Bool.or_comm]; rfl)
              refine ifT ?_ ⟨_, rfl, bh_made (hsBad_pl e) fun d hd => q2 _ e d _ (s3.trans (same_new hd)) upd_same⟩
              rw [lx, l0]
              have : ((lenH ho : Nat) : Int) ≠ (lenH h0 : Nat) := fun z => el (by omega)
              simpa using this
        · unfold hsBad
          dsimp only
          rw [if_pos hc, ehd]
          have : hos.findIdx? (badI (lenH h0)) = none := by
            rw [List.findIdx?_eq_none_iff]
            intro wo hm
            obtain ⟨j, hj⟩ := List.mem_iff_getElem?.mp hm
            exact h'.2.1 j wo (by rw [hlen]; exact (List.getElem?_eq_some_iff.mp hj).1) hj
          rw [this]
          rfl
end
end RH
set_option Elab.async false
set_option linter.all false
set_option maxRecDepth 100000
set_option maxHeartbeats 2000000
namespace RH
open PySem PySem.Spec PyProof.Rows L2
/-! ### two habits and a lot, where they are refused -/
theorem two_good {ho1 ho2 : HO1} (h : hsBad (some [ho1, ho2]) = none) : habW ho1 = true ∧ habW ho2 = true ∧ lenH ho2 = lenH ho1 := by
  unfold hsBad at h
  dsimp only at h
  rw [if_pos (by rfl)] at h
  have h : [ho1, ho2].findIdx? (badI (lenH ho1)) = none := by
    cases e : [ho1, ho2].findIdx? (badI (lenH ho1)) with
    | none => rfl
    | some i =>
      have h : (([ho1, ho2].findIdx? (badI (lenH ho1))).map fun i => V.int (i : Nat)) = none := h
      rw [e] at h
      cases h
  rw [List.findIdx?_eq_none_iff] at h
  have h1 := h ho1 (List.mem_cons_self ..)
  have h2 := h ho2 (List.mem_cons_of_mem _ (List.mem_cons_self ..))
  unfold badI at h1 h2
  rw [Bool.or_eq_false_iff] at h1 h2
  exact ⟨by simpa using h1.1, by simpa using h2.1, by simpa using h2.2⟩
section
variable {P : Program} {w : World} {K : PySem.W.Frag} {mg : Str → Option Value} {base : Heap} {Ch Cp : Addr}
def badTwo (K : PySem.W.Frag) (Ch Cp : Addr) (H : Hp) (v1 v2 v3 : V) (E : XK) : Prop := ∃ ho1 ho2 : HO1, Hk K H v1 ho1 ∧ Hk K H v2 ho2 ∧
  ((∃ pl, hsBad (some [ho1, ho2]) = some pl ∧ bhE Ch pl H E) ∨ (hsBad (some [ho1, ho2]) = none ∧ ∃ w3, Wd K H v3 w3 ∧ lotW (lenH ho1) w3 = false ∧ noE Cp H E))
def spTwo3 (K : PySem.W.Frag) (Ch Cp : Addr) : Sp := fun vs H Q E => ∃ v1 v2 v3, vs = [v1, v2, v3] ∧ badTwo K Ch Cp H v1 v2 v3 E
def spTwo4 (K : PySem.W.Frag) (Ch Cp : Addr) : Sp := fun vs H Q E => ∃ v1 v2 v3 v4, vs = [v1, v2, v3, v4] ∧ badTwo K Ch Cp H v1 v2 v3 E
theorem ok_check_twoX (F : Df K mg "check_two" st_check_two ["habit", "other", "lot"]) (B : Bu mg) (CH : CalXD P w K mg base 7 "check_habits" [.int 3] (spCheckHabitsX K Ch)) (CL : CalX P w K mg base 6 "check_lot" (spCheckLotX K Cp)) : CalX P w K mg base 8 "check_two" (spTwo3 K Ch Cp) := by
  refine mkCalX F sc_check_two (fun vs H Q E h => ?_) (fun f cdv A outer s H vs Q E hr h => ?_)
  · obtain ⟨v1, v2, v3, rfl, _⟩ := h
    rfl
  · obtain ⟨v1, v2, v3, rfl, ho1, ho2, hk1, hk2, h⟩ := h
    refine ⟨_, pss_cons (ps_expr (pcXD CH passE hr (pa_cons (pe_tup (pa_cons (pv 0) (pa_cons (pv 1) pa_nil))) pa_nil))) (pss_one (ps_expr (pcX CL passE hr (pa_cons (pv 2) (pa_cons (pe_callB (cl_len K) (by rfl) B.len PySem.boot_len (pa_cons (pv 0) pa_nil)) pa_nil))))), ?_⟩
    refine ⟨_, rfl, _, rfl, by show 2 ≤ sizeLine; decide, fun t ht => ?_⟩
    have s1 := same_new (o := .tup [v1, v2]) ht
    refine ⟨.ref t, some [ho1, ho2], rfl, .tup (tupAt upd_same) (.cons (hk1.on s1) (.cons (hk2.on s1) .nil)), fun e H1 s2 => ?_, fun pl e => ?_⟩
    · rcases h with ⟨pl, e', _⟩ | ⟨_, w3, hw, bad, he⟩
      · rw [e] at e'
        cases e'
      · have s12 := s1.trans s2
        obtain ⟨a, xs, rfl, hS, hl⟩ := hk_tup (hk1.on s12) (two_good e).1
        exact ⟨_, rfl, _, rfl, a, xs, rfl, .inr hS, v3, w3, lenH ho1, by rw [hl]; rfl, hw.on s12, fun z => (by rw [bad] at z; cases z), fun _ => he.on s12⟩
    · rcases h with ⟨pl', e', he⟩ | ⟨e', _⟩
      · rw [e] at e'
        cases e'
        exact he.on s1
      · rw [e] at e'
        cases e'
theorem ok_testX (F : Df K mg "test" st_test ["habit", "other", "lot"]) (C : CalX P w K mg base 8 "check_two" (spTwo3 K Ch Cp)) : CalX P w K mg base 9 "test" (spTwo3 K Ch Cp) := by
  refine mkCalX F sc_test (fun vs H Q E h => ?_) (fun f cdv A outer s H vs Q E hr h => ?_)
  · obtain ⟨v1, v2, v3, rfl, _⟩ := h
    rfl
  · obtain ⟨v1, v2, v3, rfl, h⟩ := h
    exact ⟨_, pss_cons (ps_expr (pcX C passE hr (pa_cons (pv 0) (pa_cons (pv 1) (pa_cons (pv 2) pa_nil))))) (pss_one ps_no), _, rfl, _, rfl, _, rfl, v1, v2, v3, rfl, h⟩
theorem ok_shows_testX (F : Df K mg "shows_test" st_shows_test ["habit", "other", "lot", "value"]) (C : CalX P w K mg base 8 "check_two" (spTwo3 K Ch Cp)) : CalX P w K mg base 9 "shows_test" (spTwo4 K Ch Cp) := by
  refine mkCalX F sc_shows_test (fun vs H Q E h => ?_) (fun f cdv A outer s H vs Q E hr h => ?_)
  · obtain ⟨v1, v2, v3, v4, rfl, _⟩ := h
    rfl
  · obtain ⟨v1, v2, v3, v4, rfl, h⟩ := h
    exact ⟨_, pss_cons (ps_expr (pcX C passE hr (pa_cons (pv 0) (pa_cons (pv 1) (pa_cons (pv 2) pa_nil))))) (pss_cons ps_no (pss_cons ps_no (pss_cons ps_no (pss_cons ps_no (pss_cons ps_no (pss_one ps_no)))))), _, rfl, _, rfl, _, rfl, v1, v2, v3, rfl, h⟩
theorem ok_alike_paperX (F : Df K mg "alike_paper" st_alike_paper ["habit", "other", "lot"]) (C : CalX P w K mg base 8 "check_two" (spTwo3 K Ch Cp)) : CalX P w K mg base 9 "alike_paper" (spTwo3 K Ch Cp) := by
  refine mkCalX F sc_alike_paper (fun vs H Q E h => ?_) (fun f cdv A outer s H vs Q E hr h => ?_)
  · obtain ⟨v1, v2, v3, rfl, _⟩ := h
    rfl
  · obtain ⟨v1, v2, v3, rfl, h⟩ := h
    exact ⟨_, pss_cons (ps_expr (pcX C passE hr (pa_cons (pv 0) (pa_cons (pv 1) (pa_cons (pv 2) pa_nil))))) (pss_cons ps_no (pss_cons ps_no (pss_cons ps_no (pss_one ps_no)))), _, rfl, _, rfl, _, rfl, v1, v2, v3, rfl, h⟩
theorem ok_shows_alikeX (F : Df K mg "shows_alike" st_shows_alike ["habit", "other", "lot", "value"]) (C : CalX P w K mg base 8 "check_two" (spTwo3 K Ch Cp)) : CalX P w K mg base 9 "shows_alike" (spTwo4 K Ch Cp) := by
  refine mkCalX F sc_shows_alike (fun vs H Q E h => ?_) (fun f cdv A outer s H vs Q E hr h => ?_)
  · obtain ⟨v1, v2, v3, v4, rfl, _⟩ := h
    rfl
  · obtain ⟨v1, v2, v3, v4, rfl, h⟩ := h
    exact ⟨_, pss_cons (ps_expr (pcX C passE hr (pa_cons (pv 0) (pa_cons (pv 1) (pa_cons (pv 2) pa_nil))))) (pss_cons ps_no (pss_cons ps_no (pss_cons ps_no (pss_cons ps_no (pss_cons ps_no (pss_one ps_no)))))), _, rfl, _, rfl, _, rfl, v1, v2, v3, rfl, h⟩
end
end RH
set_option Elab.async false
set_option linter.all false
set_option maxRecDepth 100000
set_option maxHeartbeats 2000000
namespace RH
open PySem PySem.Spec PyProof.Rows L2
/-! ### is_test, of whatever -/
def ofl (p : Int) (lot : List Int) : V → Bool
  | .int i => decide (0 ≤ i) && decide (i ≤ p - 1) && decide (i ∈ lot)
  | _ => false
def wlB (lot : List Int) : Option (List V) → Bool
  | some xs => xs.all fun v => decide (valI v ∈ lot)
  | none => false
/-- is it a test of the lot? -/
def tstW (p : Int) (lot : List Int) (a : V) (wo : Option (List V)) (r : V) : Bool := ofl p lot a && ofl p lot r && plsW p wo && wlB lot wo
section
variable {P : Program} {w : World} {K : PySem.W.Frag} {mg : Str → Option Value} {base : Heap}
def spIsOfLotW (K : PySem.W.Frag) : Sp := fun vs H Q _ => ∃ (x v : V) (ns : List Int) (p : Int), vs = [x, v, .int p] ∧ Sw K H x ∧ TI K H v ns ∧ Q (.bl (ofl p ns x)) H
theorem ok_is_of_lotW (F : Df K mg "is_of_lot" st_is_of_lot ["value", "lot", "places"]) (C3 : Cal P w K mg base 3 "is_place" (spIsPlaceW K)) : Cal P w K mg base 4 "is_of_lot" (spIsOfLotW K) := by
  refine mkCal F sc_is_of_lot (fun vs H Q E h => ?_) (fun f cdv A outer s H vs Q E hr h => ?_)
  · obtain ⟨x, v, ns, p, rfl, _⟩ := h
    rfl
  · obtain ⟨x, v, ns, p, rfl, hx, ⟨a, rfl, hS⟩, q⟩ := h
    refine ⟨_, pss_one (ps_ret (pe_and (pc C3 hr (pa_cons (pv 0) (pa_cons (pv 2) pa_nil))) (pe_one (pe_cmpR (opIn K) (pv 0) (pv 1) rfl)))), ?_⟩
    refine ⟨_, rfl, _, rfl, x, p, rfl, hx, ?_⟩
    cases ei : isI x with
    | true =>
      obtain ⟨i, rfl⟩ := isI_yes ei
      refine ⟨_, rfl, ite2 (fun e => ?_) (fun e => ?_)⟩
      · refine ⟨_, rfl, _, rfl, a, _, rfl, .inr hS, rfl, flat_ints ns, ?_⟩
        have q : Q (.bl (inV2 0 (p - 1) (.int i) && decide (i ∈ ns))) H := q
        rw [e, Bool.true_and] at q
        show Q (.bl (inV (.int i) (ns.map V.int))) H
        rw [inV_int]
        exact q
      · have e' : inV2 0 (p - 1) (.int i) = false := by simpa using e
        have q : Q (.bl (inV2 0 (p - 1) (.int i) && decide (i ∈ ns))) H := q
        rw [e', Bool.false_and] at q
        exact q
    | false =>
      have e2 : ofl p ns x = false := by cases x <;> first | rfl | (cases ei)
      rw [e2] at q
      exact ⟨false, by rw [inV2_no ei], q⟩
def spIsTestW (K : PySem.W.Frag) : Sp := fun vs H Q _ => ∃ (a wv r lv : V) (wo : Option (List V)) (ns : List Int) (p : Int), vs = [a, wv, r, lv, .int p] ∧ Sw K H a ∧ Sw K H r ∧ Wd K H wv wo ∧ TI K H lv ns ∧ ∀ H', Same H H' → Q (.bl (tstW p ns a wo r)) H'
theorem ok_is_testW (F : Df K mg "is_test" st_is_test ["place", "word", "read", "lot", "places"]) (B : Bu mg) (CO : Cal P w K mg base 4 "is_of_lot" (spIsOfLotW K)) (C4 : Cal P w K mg base 4 "are_places" (spArePlacesW K)) : Cal P w K mg base 5 "is_test" (spIsTestW K) := by
  refine mkCal F sc_is_test (fun vs H Q E h => ?_) (fun f cdv A outer s H vs Q E hr h => ?_)
  · obtain ⟨a, wv, r, lv, wo, ns, p, rfl, _⟩ := h
    rfl
  · obtain ⟨a, wv, r, lv, wo, ns, p, rfl, ha, hr2, hw, hL, q⟩ := h
    obtain ⟨al, rfl, hLs⟩ := id hL
    refine ⟨_, pss_cons (ps_if (PW.pt (pw_or (pt_not (pt_val (pc CO hr (pa_cons (pv 0) (pa_cons (pv 3) (pa_cons (pv 4) pa_nil)))))) (pw_or1 (pt_not (pt_val (pc CO hr (pa_cons (pv 2) (pa_cons (pv 3) (pa_cons (pv 4) pa_nil))))))))) (pss_one (ps_ret pe_bl)) pss_nil)
      (pss_one (ps_ret (pe_and (pc C4 hr (pa_cons (pv 1) (pa_cons (pv 4) pa_nil))) (pe_one (pe_callB (cr_all rfl) (by rfl) B.all (by decide +kernel) (pa_cons (pe_lc (own := [("touch", 5)]) (g := gName 5) (tt := tYes) rfl sc_is_test.nd (pi_tup (pv 1))
        (blkOk_by (N := ["place", "word", "read", "lot", "places", "touch"]) (sc := defScope st_is_test) (by decide +kernel)) (fun _ _ _ _ _ => pg_name (i := 5) sc_is_test.nd rfl (Or.inl rfl)) (fun _ _ _ _ _ => pts_nil) (fun _ _ _ _ _ => pe_cmpR (opIn K) (pv 5) (pv 3) rfl)) pa_nil)))))), ?_⟩
    refine ⟨_, rfl, _, rfl, _, rfl, a, .ref al, ns, p, rfl, ha, hL, _, rfl, ?_⟩
    cases ea : ofl p ns a with
    | false =>
      refine ifT (by rfl) (ifT rfl ?_)
      have q := q H (Same.refl H)
      unfold tstW at q
      rw [ea, Bool.false_and, Bool.false_and, Bool.false_and] at q
      exact q
    | true =>
      refine ifF (by rfl) ⟨_, rfl, _, rfl, _, rfl, r, .ref al, ns, p, rfl, hr2, hL, _, rfl, ?_⟩
      cases er : ofl p ns r with
      | false =>
        refine ifT (by rfl) ?_
        have q := q H (Same.refl H)
        unfold tstW at q
        rw [ea, er, Bool.true_and, Bool.false_and, Bool.false_and] at q
        exact q
      | true =>
        refine ifF (by rfl) ⟨_, rfl, _, rfl, wv, wo, p, rfl, hw, fun H1 s1 => ⟨_, rfl, ?_⟩⟩
        cases ew : plsW p wo with
        | false =>
          have q := q H1 s1
          unfold tstW at q
          rw [ea, er, ew, Bool.true_and, Bool.true_and, Bool.false_and] at q
          exact q
        | true =>
          have q : ∀ H', Same H H' → Q (.bl (wlB ns wo)) H' := fun H' s => by
            have q := q H' s
            unfold tstW at q
            rw [ea, er, ew, Bool.true_and, Bool.true_and, Bool.true_and] at q
            exact q
          obtain ⟨ht, hsw, hlen⟩ := hw
          cases ht with
          | @tup aw xs hS =>
            have hl := hlen xs rfl
            have hint : ∀ v ∈ xs, ∃ i, v = .int i := fun v hv => by
              have e3 : xs.all (inV2 0 (p - 1)) = true := ew
              have := List.all_eq_true.mp e3 v hv
              cases v <;> first | exact ⟨_, rfl⟩ | (cases this)
            refine ⟨_, rfl, aw, rfl, ⟨_, onT s1 hS⟩, fun D hD => ?_⟩
            refine lc_tup (xs := xs) (fun i H' => Same H1 H' ∧ H' D = some (.lst (((xs.take i).map fun v => decide (valI v ∈ ns)).map V.bl))) ⟨same_new hD, upd_same⟩ (fun i H' _ h' => onT h'.1 (onT s1 hS)) (fun i x H' hx h' => ?_) (fun H' h' => ?_)
            · obtain ⟨z, rfl⟩ := hint x (List.mem_of_getElem? hx)
              obtain ⟨sm, eD⟩ := h'
              refine ⟨rfl, _, rfl, _, rfl, al, _, rfl, .inr (onT sm (onT s1 hLs)), rfl, flat_ints ns, _, eD, ?_, ?_, ?_⟩
              · rw [List.length_map, List.length_map, List.length_take]
                exact small1000 (by omega)
              · intro b o e
                rw [upd_ne (ne_of_none e hD)]
                exact sm b o e
              · rw [upd_same, all_snoc _ hx, List.map_append]
                show some (HO.lst (_ ++ [V.bl (inV (.int z) (ns.map V.int))])) = _
                rw [inV_int]
                rfl
            · obtain ⟨sm, eD⟩ := h'
              rw [List.take_length] at eD
              refine ⟨D, _, rfl, lstAt eD, ?_⟩
              have e2 : ((xs.map fun v => decide (valI v ∈ ns)).all id) = wlB ns (some xs) := by
                rw [List.all_map]
                rfl
              rw [e2]
              exact q H' (s1.trans sm)
          | _ => cases ew
end
end RH
set_option Elab.async false
set_option linter.all false
set_option maxRecDepth 100000
set_option maxHeartbeats 2000000
namespace RH
open PySem PySem.Spec PyProof.Rows L2
/-! ### habits_left, where it refuses -/
def isB : V → Bool
  | .bl _ => true
  | _ => false
theorem one_good {h0 : HO1} (h : habW h0 = true) : hsBad (some [h0]) = none := by
  unfold hsBad
  dsimp only
  rw [if_pos (by rfl)]
  have : [h0].findIdx? (badI (lenH h0)) = none := by
    rw [List.findIdx?_eq_none_iff]
    intro x hx
    rw [List.mem_singleton.mp hx]
    unfold badI
    rw [h, decide_eq_true rfl]
    rfl
  have e : ([h0] : List HO1).headD none = h0 := rfl
  rw [e, this]
  rfl
theorem hs_one {K : PySem.W.Frag} {H : Hp} {v : V} {h0 : HO1} (h : Hs K H v (some [h0])) (hb : habW h0 = true) : ∃ a x b xs, v = .ref a ∧ SqT K H a [x] ∧ x = .ref b ∧ SqT K H b xs ∧ xs.length = lenH h0 := by
  cases h with
  | @tup a xs hos h hx =>
    cases hx with
    | cons h1 h2 =>
      cases h2
      obtain ⟨b, ys, rfl, hB, hl⟩ := hk_tup h1 hb
      exact ⟨_, _, b, ys, rfl, h, rfl, hB, hl⟩
section
variable {P : Program} {w : World} {K : PySem.W.Frag} {mg : Str → Option Value} {base : Heap} {Ch Cp Ca : Addr}
/-- the test, or what is marked, is none -/
def badTst (K : PySem.W.Frag) (Cp Ca : Addr) (n : Nat) (H : Hp) (lv pl wv rd mk : V) (E : XK) : Prop := ∃ (w2 : Option (List V)) (ns : List Int) (wo : Option (List V)), Wd K H lv w2 ∧ lotW n w2 = true ∧ TI K H lv ns ∧ Sw K H pl ∧ Sw K H rd ∧ Wd K H wv wo ∧
  ((tstW n ns pl wo rd = false ∧ noE Cp H E) ∨ (tstW n ns pl wo rd = true ∧ Sw K H mk ∧ isB mk = false ∧ noE Ca H E))
def spLeftX (K : PySem.W.Frag) (Ch Cp Ca : Addr) : Sp := fun vs H Q E => ∃ v lv pl wv rd mk, vs = [v, lv, pl, wv, rd, mk] ∧ ((∃ ho p, Hs K H v ho ∧ hsBad ho = some p ∧ bhE Ch p H E) ∨
  ∃ h0, Hs K H v (some [h0]) ∧ habW h0 = true ∧ ((∃ w2, Wd K H lv w2 ∧ lotW (lenH h0) w2 = false ∧ noE Cp H E) ∨ badTst K Cp Ca (lenH h0) H lv pl wv rd mk E))
theorem Hs.on {H H' : Hp} (e : Same H H') {v : V} {ho : Option (List HO1)} (h : Hs K H v ho) : Hs K H' v ho := by
  cases h with
  | tup h hx => exact .tup (onT e h) (hx.imp fun v d z => z.on e)
  | no h => exact .no (h.on e)
theorem ok_leftX (F : Df K mg "habits_left" st_habits_left ["habits", "lot", "place", "word", "read", "is_marked"]) (B : Bu mg) (Xp : ExO K mg "BadPlace" Cp) (Xa : ExO K mg "BadAnswer" Ca) (CH : CalXD P w K mg base 7 "check_habits" [.int 3] (spCheckHabitsX K Ch)) (CL : CalX P w K mg base 6 "check_lot" (spCheckLotX K Cp))
    (CI : Cal P w K mg base 5 "is_test" (spIsTestW K)) : CalX P w K mg base 8 "habits_left" (spLeftX K Ch Cp Ca) := by
  refine mkCalX F sc_habits_left (fun vs H Q E h => ?_) (fun f cdv A outer s H vs Q E hr h => ?_)
  · obtain ⟨v, lv, pl, wv, rd, mk, rfl, _⟩ := h
    rfl
  · obtain ⟨v, lv, pl, wv, rd, mk, rfl, h⟩ := h
    refine ⟨_, pss_cons (ps_expr (pcXD CH passE hr (pa_cons (pv 0) pa_nil))) (pss_cons (ps_expr (pcX CL passE hr (pa_cons (pv 1) (pa_cons (pe_callB (cl_len K) (by rfl) B.len PySem.boot_len (pa_cons (pe_ix (ixT K) (pv 0) pe_int (fun _ _ => rfl)) pa_nil)) pa_nil))))
      (pss_cons (ps_if (pt_not (pt_val (pc CI hr (pa_cons (pv 2) (pa_cons (pv 3) (pa_cons (pv 4) (pa_cons (pv 1) (pa_cons (pe_callB (cl_len K) (by rfl) B.len PySem.boot_len (pa_cons (pe_ix (ixT K) (pv 0) pe_int (fun _ _ => rfl)) pa_nil)) pa_nil)))))))) (pss_one (ps_raise rfl takesE (pmk_own PySem.F.excBase_ValueError Xp.q Xp.g Xp.k (raises_own Xp.b Xp.t) rfl))) pss_nil)
      (pss_cons (ps_if (pt_not (pt_val (pe_callB call_isi (by rfl) B.isi (by decide +kernel) (pa_cons (pv 5) (pa_cons (pe_bltn (v := .ty "bool") (by rfl) B.bool (by decide +kernel) rfl) pa_nil))))) (pss_one (ps_raise rfl takesE (pmk_own PySem.F.excBase_ValueError Xa.q Xa.g Xa.k (raises_own Xa.b Xa.t) rfl))) pss_nil)
      (pss_one ps_no)))), ?_⟩
    rcases h with ⟨ho, p, hk, hp, he⟩ | ⟨h0, hk, hb, h⟩
    · exact ⟨_, rfl, v, ho, rfl, hk, fun e => (by rw [hp] at e; cases e), fun p' e => by rw [hp] at e; cases e; exact he⟩
    · refine ⟨_, rfl, v, some [h0], rfl, hk, fun _ H1 s1 => ?_, fun p e => (by rw [one_good hb] at e; cases e)⟩
      obtain ⟨a, x, b, xs, rfl, hS, rfl, hB, hl⟩ := hs_one (hk.on s1) hb
      refine ⟨_, rfl, _, rfl, a, [.ref b], 0, .ref b, rfl, rfl, hS, rfl, b, xs, rfl, .inr hB, ?_⟩
      rcases h with ⟨w2, hw, bad, he⟩ | ⟨w2, ns, wo, hw, good, hT, h1, h2, h3, h⟩
      · exact ⟨lv, w2, lenH h0, by rw [hl]; rfl, hw.on s1, fun z => (by rw [bad] at z; cases z), fun _ => he.on s1⟩
      · refine ⟨lv, w2, lenH h0, by rw [hl]; rfl, hw.on s1, fun _ H2 s2 => ?_, fun z => (by rw [good] at z; cases z)⟩
        have s12 := s1.trans s2
        refine ⟨_, rfl, _, rfl, _, rfl, _, rfl, _, rfl, a, [.ref b], 0, .ref b, rfl, rfl, onT s2 hS, rfl, b, xs, rfl, .inr (onT s2 hB), pl, wv, rd, lv, wo, ns, (lenH h0 : Nat), by rw [hl]; rfl, h1.on s12, h2.on s12, h3.on s12, hT.on (fun _ _ z => onT s12 z), fun H3 s3 => ⟨_, rfl, ?_⟩⟩
        have s13 := s12.trans s3
        rcases h with ⟨bad, he⟩ | ⟨good, hm, bad, he⟩
        · exact ifT (by rw [bad]; rfl) (he H3 s13)
        · refine ifF (by rw [good]; rfl) ?_
          cases hm with
          | int i => exact ⟨_, rfl, .int i, .ty "bool", _, _, false, rfl, .ty "bool", .base (.int i), kit_ty (by decide +kernel), _, rfl, ifT rfl (he H3 s13)⟩
          | bl bb => cases bad
          | non => exact ⟨_, rfl, .non, .ty "bool", _, _, false, rfl, .ty "bool", .base .non, kit_ty (by decide +kernel), _, rfl, ifT rfl (he H3 s13)⟩
          | str z => exact ⟨_, rfl, .str z, .ty "bool", _, _, false, rfl, .ty "bool", .base (.str z), kit_ty (by decide +kernel), _, rfl, ifT rfl (he H3 s13)⟩
          | @tup a2 xs2 h => exact ⟨_, rfl, .ref a2, .ty "bool", _, _, false, rfl, .ty "bool", ty_tup (onT s13 h), kit_ty (by decide +kernel), _, rfl, ifT rfl (he H3 s13)⟩
          | @lst a2 xs2 h => exact ⟨_, rfl, .ref a2, .ty "bool", _, _, false, rfl, .ty "bool", ty_lst (s13.seq h), kit_ty (by decide +kernel), _, rfl, ifT rfl (he H3 s13)⟩
end
end RH
set_option Elab.async false
set_option linter.all false
set_option maxRecDepth 100000
set_option maxHeartbeats 2000000
namespace RH
open PySem PySem.Spec PyProof.Rows L2
open NdefX (NScope CellsAt Caps slotAt slotAt_of cells_of startF ncx)
open LamX (Tabs TabS TabB ExtN CodeO codeO_ne)
/-! ### the lambdas that the law makes -/
def lamP : Expr → Arguments
  | .Lambda p _ _ _ => p
  | _ => defArgs st_law
def lamB : Expr → Expr
  | .Lambda _ b _ _ => b
  | e => e
def lamS : Expr → Scope
  | .Lambda _ _ sc _ => sc
  | _ => defScope st_law
def lamO : Expr → Pos
  | .Lambda _ _ _ p => p
  | _ => ⟨0, 0, 0, 0⟩
/-- a def of the text with its code object -/
structure DfC (K : PySem.W.Frag) (mg : Str → Option Value) (x : Str) (st : Stmt) (ps : List Str) (c : Addr) : Prop where
  ex : ∃ (f : Addr) (oc : Value) (od : Option Addr) (kV doc pm : Value) (an : Option Addr) (ct : Value) (osl : Array (Option Value)), K.lookup f = some ⟨oc, od, .func (PySem.W.fnOf x x (defArgs st) (defBody st) (defScope st) .none kV doc pm an (.ref c) ct), osl⟩ ∧
    PySem.W.codeIn K (.ref c) x = true ∧ PySem.W.keepIn K (.ref f) = true ∧ mg x = some (.ref f) ∧ Binds K (PySem.W.fnOf x x (defArgs st) (defBody st) (defScope st) .none kV doc pm an (.ref c) ct) ps []
/-- the first argument of a call that stands alone -/
def argOf : Stmt → Expr
  | .Expr (.Call _ as _ _) _ => as.getD 0 (.Constant .none 0 ⟨0, 0, 0, 0⟩)
  | _ => .Constant .none 0 ⟨0, 0, 0, 0⟩
abbrev lamW (i : Nat) : Expr := argOf ((defBody st__law_works).getD i (.Pass ⟨0, 0, 0, 0⟩))
theorem nsW1 : NScope ["one", "other", "third"] [] ["one", "other", "third"] (lamS (lamW 1)) := NdefX.nscope_by (by decide +kernel)
theorem nsW2 : NScope ["one", "other", "third"] [] ["one", "other", "third"] (lamS (lamW 2)) := NdefX.nscope_by (by decide +kernel)
theorem nsW3 : NScope ["one", "other", "third"] [] ["one", "other", "third"] (lamS (lamW 3)) := NdefX.nscope_by (by decide +kernel)
theorem nsW4 : NScope ["one", "other", "third"] [] ["one", "other", "third"] (lamS (lamW 4)) := NdefX.nscope_by (by decide +kernel)
section
variable {P : Program} {w : World} {K : PySem.W.Frag} {mg : Str → Option Value} {base : Heap} {C Cp Cn Cm : Addr}
theorem passN {N : List Str} {F : NdefX.NF} {f : Addr} {A : Around} {outer : List Env} {s : Shared} {H : Hp} {E : XK} : Passes (L2.CX P w) (ncx (L2.CX P w) P w K mg base N F f A outer s H E) E :=
  passes_call (W := fun cls d _ H => E cls d H) (takes_of rfl rfl rfl rfl) (fun _ _ _ _ h => h)
def spW (sp : Sp) (g : List V → List V) : List (Option V) → Sp := fun ws vs H Q E => ∃ us : List V, ws = us.map some ∧ vs = [] ∧ sp (g us) H Q E
theorem lokW1 {sp : Sp} (M : CalX P w K mg base 9 "test" sp) (q : Str) (cl : List (Str × Addr)) (c f : Addr) : LOk P w K mg base (L2.CX P w) 10 f ⟨q, lamP (lamW 1), lamB (lamW 1), lamS (lamW 1), cl, c⟩ [] ["one", "other", "third"] (spW sp id) := by
  refine lok_of nsW1 (fun pm ctv us hl => ?_) (fun ws vs H Q E hq => ?_) (fun A outer s H vs ws Q E hr hwl hsp => ?_)
  · match us, hl with
    | [], _ => rfl
  · obtain ⟨us, _, rfl, _⟩ := hq
    rfl
  · obtain ⟨us, rfl, rfl, hsp⟩ := hsp
    rw [List.length_map] at hwl
    match us, hwl, hsp with
    | [u1, u2, u3], _, hsp => exact ⟨_, pcX M passN hr (pa_cons (pv 0) (pa_cons (pv 1) (pa_cons (pv 2) pa_nil))), _, rfl, _, rfl, _, rfl, hsp⟩
theorem lokW2 {sp : Sp} (M : CalX P w K mg base 9 "shows_test" sp) (q : Str) (cl : List (Str × Addr)) (c f : Addr) : LOk P w K mg base (L2.CX P w) 10 f ⟨q, lamP (lamW 2), lamB (lamW 2), lamS (lamW 2), cl, c⟩ [] ["one", "other", "third"] (spW sp (fun us => us ++ [.non])) := by
  refine lok_of nsW2 (fun pm ctv us hl => ?_) (fun ws vs H Q E hq => ?_) (fun A outer s H vs ws Q E hr hwl hsp => ?_)
  · match us, hl with
    | [], _ => rfl
  · obtain ⟨us, _, rfl, _⟩ := hq
    rfl
  · obtain ⟨us, rfl, rfl, hsp⟩ := hsp
    rw [List.length_map] at hwl
    match us, hwl, hsp with
    | [u1, u2, u3], _, hsp => exact ⟨_, pcX M passN hr (pa_cons (pv 0) (pa_cons (pv 1) (pa_cons (pv 2) (pa_cons pe_non pa_nil)))), _, rfl, _, rfl, _, rfl, hsp⟩
theorem lokW3 {sp : Sp} (M : CalX P w K mg base 9 "alike_paper" sp) (q : Str) (cl : List (Str × Addr)) (c f : Addr) : LOk P w K mg base (L2.CX P w) 10 f ⟨q, lamP (lamW 3), lamB (lamW 3), lamS (lamW 3), cl, c⟩ [] ["one", "other", "third"] (spW sp id) := by
  refine lok_of nsW3 (fun pm ctv us hl => ?_) (fun ws vs H Q E hq => ?_) (fun A outer s H vs ws Q E hr hwl hsp => ?_)
  · match us, hl with
    | [], _ => rfl
  · obtain ⟨us, _, rfl, _⟩ := hq
    rfl
  · obtain ⟨us, rfl, rfl, hsp⟩ := hsp
    rw [List.length_map] at hwl
    match us, hwl, hsp with
    | [u1, u2, u3], _, hsp => exact ⟨_, pcX M passN hr (pa_cons (pv 0) (pa_cons (pv 1) (pa_cons (pv 2) pa_nil))), _, rfl, _, rfl, _, rfl, hsp⟩
theorem lokW4 {sp : Sp} (M : CalX P w K mg base 9 "shows_alike" sp) (q : Str) (cl : List (Str × Addr)) (c f : Addr) : LOk P w K mg base (L2.CX P w) 10 f ⟨q, lamP (lamW 4), lamB (lamW 4), lamS (lamW 4), cl, c⟩ [] ["one", "other", "third"] (spW sp (fun us => us ++ [.non])) := by
  refine lok_of nsW4 (fun pm ctv us hl => ?_) (fun ws vs H Q E hq => ?_) (fun A outer s H vs ws Q E hr hwl hsp => ?_)
  · match us, hl with
    | [], _ => rfl
  · obtain ⟨us, _, rfl, _⟩ := hq
    rfl
  · obtain ⟨us, rfl, rfl, hsp⟩ := hsp
    rw [List.length_map] at hwl
    match us, hwl, hsp with
    | [u1, u2, u3], _, hsp => exact ⟨_, pcX M passN hr (pa_cons (pv 0) (pa_cons (pv 1) (pa_cons (pv 2) (pa_cons pe_non pa_nil)))), _, rfl, _, rfl, _, rfl, hsp⟩
/-- a lambda of the law's stands with what it caught -/
structure LamAt (lam : Expr) (fr : List Str) (ws : List V) (l : CL) (f : Addr) (H : Hp) : Prop where
  ex : ∃ q cl c, LiveK f ⟨q, lamP lam, lamB lam, lamS lam, cl, c⟩ l H ∧ Cap ⟨q, lamP lam, lamB lam, lamS lam, cl, c⟩ fr ws l
def lamQ (x : Str) : Str := (envOfC x (defScope st__law_works) 0 0 .none).qual ++ "<lambda>"
def spWorks (T : List (Addr × Str)) : Sp := fun vs H Q _ => ∃ (v1 v2 v3 : V), vs = [v1, v2, v3] ∧ Tabs T H ∧ ∀ (lst f1 f2 f3 f4 : Addr) (l : CL) (H' : Hp), ExtN H H' → Tabs T H' → H' lst = some (.lst [.ref f1, .ref f2, .ref f3, .ref f4]) → Stand l H' →
  LamAt (lamW 1) ["one", "other", "third"] [v1, v2, v3] l f1 H' → LamAt (lamW 2) ["one", "other", "third"] [v1, v2, v3] l f2 H' → LamAt (lamW 3) ["one", "other", "third"] [v1, v2, v3] l f3 H' → LamAt (lamW 4) ["one", "other", "third"] [v1, v2, v3] l f4 H' → Q (.ref lst) H'
theorem cells_kind {y : Str} {c : Addr} : ∀ (names : List (Str × NameKind)) (n : Nat) (acc : List (Str × Addr)), (PySem.cellsFrom n names acc).lookup y = some c → (y, NameKind.cell) ∈ names ∨ acc.lookup y = some c
  | [], _, _, h => .inr h
  | (x, k) :: r, n, acc, h => by
    unfold PySem.cellsFrom at h
    split at h
    · rename_i hk
      have hk : k = .cell := by simpa using hk
      rcases cells_kind r _ _ h with z | z
      · exact .inl (List.mem_cons_of_mem _ z)
      · rw [List.lookup_cons] at z
        split at z
        · rename_i e
          have e : y = x := by simpa using e
          rw [e, hk]
          exact .inl (List.mem_cons_self ..)
        · exact .inr z
    · rcases cells_kind r _ _ h with z | z
      · exact .inl (List.mem_cons_of_mem _ z)
      · exact .inr z
theorem extN_upd {H H' : Hp} {p : Addr} {o : HO} (e : ExtN H H') (h : H p = none) : ExtN H (upd H' p o) := fun b u q n => by
  rw [upd_ne (ne_of_none q h)]
  exact e b u q n
theorem tabs_lst {T : List (Addr × Str)} {H : Hp} {p : Addr} {xs : List V} {o : HO} (t : Tabs T H) (h : H p = some (.lst xs)) : Tabs T (upd H p o) := fun q hq => by
  obtain ⟨ps, h1, h2, h3⟩ := t q hq
  refine ⟨ps, by rw [upd_ne (ne_of h1 h (fun z => nomatch z))]; exact h1, h2, fun pos cv hc => ?_⟩
  obtain ⟨c, e1, e2⟩ := h3 pos cv hc
  exact ⟨c, e1, by rw [upd_ne (ne_of e2 h (fun z => by unfold CodeO at z; cases z))]; exact e2⟩
/-- the first lambdas are in the list -/
def WSt (mk : Nat → Addr → LF) (T : List (Addr × Str)) (H : Hp) (lst : Addr) (fcs : List (Addr × Addr)) (H' : Hp) : Prop := ExtN H H' ∧ Tabs T H' ∧ H lst = none ∧ H' lst = some (.lst (fcs.map fun x => .ref x.1)) ∧
  ∀ i x, fcs[i]? = some x → H' x.1 = some (FnL x.1 (mk (i + 1) x.2)) ∧ H' x.2 = some (CodeO x.2 (mk (i + 1) x.2).qual)
theorem WSt.step {mk : Nat → Addr → LF} {T : List (Addr × Str)} {H : Hp} {lst : Addr} {fcs : List (Addr × Addr)} {H0 H1 : Hp} {f c : Addr} (s : WSt mk T H lst fcs H0) (ex : ExtN H0 H1) (t1 : Tabs T H1) (e1 : H1 f = some (FnL f (mk (fcs.length + 1) c))) (e2 : H1 c = some (CodeO c (mk (fcs.length + 1) c).qual)) :
    H1 lst = some (.lst (fcs.map fun x => .ref x.1)) ∧ WSt mk T H lst (fcs ++ [(f, c)]) (upd H1 lst (.lst ((fcs.map fun x => V.ref x.1) ++ [.ref f]))) := by
  obtain ⟨x0, t0, hn, el, hx⟩ := s
  have el1 : H1 lst = some (.lst (fcs.map fun x => .ref x.1)) := ex _ _ el (fun ps z => nomatch z)
  have nf : ∀ b F, H1 b = some (FnL b F) → b ≠ lst := fun b F e => ne_of e el1 (fun z => by unfold FnL at z; cases z)
  have nc : ∀ b q, H1 b = some (CodeO b q) → b ≠ lst := fun b q e => ne_of e el1 (fun z => by unfold CodeO at z; cases z)
  refine ⟨el1, extN_upd (x0.trans ex) hn, tabs_lst t1 el1, hn, ?_, fun i x hi => ?_⟩
  · rw [upd_same, List.map_append]
    rfl
  · rcases Nat.lt_or_ge i fcs.length with z | z
    · rw [List.getElem?_append_left z] at hi
      obtain ⟨a1, a2⟩ := hx i x hi
      have b1 := ex _ _ a1 (fun ps => fnL_ne ps)
      have b2 := ex _ _ a2 (fun ps => codeO_ne ps)
      exact ⟨by rw [upd_ne (nf _ _ b1)]; exact b1, by rw [upd_ne (nc _ _ b2)]; exact b2⟩
    · rw [List.getElem?_append_right z] at hi
      have hz : i = fcs.length := by
        have := (List.getElem?_eq_some_iff.mp hi).1
        rw [List.length_singleton] at this
        omega
      subst hz
      rw [Nat.sub_self] at hi
      obtain rfl : (f, c) = x := Option.some.inj hi
      exact ⟨by rw [upd_ne (nf _ _ e1)]; exact e1, by rw [upd_ne (nc _ _ e2)]; exact e2⟩
theorem three_of {a1 a2 a3 : Addr} {v1 v2 v3 : V} {b : Addr} {y : V} (h : ([(a1, v1), (a2, v2), (a3, v3)] : CL).lookup b = some y) : (b = a1 ∧ y = v1) ∨ (b = a2 ∧ y = v2) ∨ (b = a3 ∧ y = v3) := by
  rw [List.lookup_cons] at h
  split at h
  · rename_i e
    exact .inl ⟨by simpa using e, (Option.some.inj h).symm⟩
  · rw [List.lookup_cons] at h
    split at h
    · rename_i e
      exact .inr (.inl ⟨by simpa using e, (Option.some.inj h).symm⟩)
    · rw [List.lookup_cons] at h
      split at h
      · rename_i e
        exact .inr (.inr ⟨by simpa using e, (Option.some.inj h).symm⟩)
      · cases h
theorem ok_works {c P1 : Addr} {T : List (Addr × Str)} (hmT : (P1, lamQ "_law_works") ∈ T) (huT0 : ∀ p ∈ T, p.1 = P1 → p.2 = lamQ "_law_works") (F : DfC K mg "_law_works" st__law_works ["one", "other", "third"] c) (TB : TabB base mg c P1) : Cal P w K mg base 1 "_law_works" (spWorks T) := by
  obtain ⟨f, oc, od, kV, doc, pm, an, ct, osl, lk, hcd, kp, g, b⟩ := F.ex
  refine ⟨f, _, _, fnR_of lk hcd sc__law_works (fun vs H Q E h => ?_) (fun A outer s H vs Q E hr h => ?_), g, kp, b⟩
  · obtain ⟨v1, v2, v3, rfl, _⟩ := h
    rfl
  · obtain ⟨v1, v2, v3, rfl, hT, q⟩ := h
    let X : Cx := cxOf CX0 P w K mg base ["one", "other", "third", "works"] "_law_works" (defScope st__law_works) f (.ref c) A outer s H E
    have h1 : ∀ y ∈ (lamS (lamW 1)).names, y.2 = .free → X.env.scope.names.lookup y.1 = some .cell ∨ X.env.scope.names.lookup y.1 = some .free := by
      have : ∀ y ∈ (lamS (lamW 1)).names, y.2 = .free → (defScope st__law_works).names.lookup y.1 = some .cell ∨ (defScope st__law_works).names.lookup y.1 = some .free := by decide +kernel
      exact this
    have h2 : ∀ y ∈ (lamS (lamW 2)).names, y.2 = .free → X.env.scope.names.lookup y.1 = some .cell ∨ X.env.scope.names.lookup y.1 = some .free := by
      have : ∀ y ∈ (lamS (lamW 2)).names, y.2 = .free → (defScope st__law_works).names.lookup y.1 = some .cell ∨ (defScope st__law_works).names.lookup y.1 = some .free := by decide +kernel
      exact this
    have h3 : ∀ y ∈ (lamS (lamW 3)).names, y.2 = .free → X.env.scope.names.lookup y.1 = some .cell ∨ X.env.scope.names.lookup y.1 = some .free := by
      have : ∀ y ∈ (lamS (lamW 3)).names, y.2 = .free → (defScope st__law_works).names.lookup y.1 = some .cell ∨ (defScope st__law_works).names.lookup y.1 = some .free := by decide +kernel
      exact this
    have h4 : ∀ y ∈ (lamS (lamW 4)).names, y.2 = .free → X.env.scope.names.lookup y.1 = some .cell ∨ X.env.scope.names.lookup y.1 = some .free := by
      have : ∀ y ∈ (lamS (lamW 4)).names, y.2 = .free → (defScope st__law_works).names.lookup y.1 = some .cell ∨ (defScope st__law_works).names.lookup y.1 = some .free := by decide +kernel
      exact this
    let mk : Nat → Addr → LF := fun i c' => ⟨X.env.qual ++ "<lambda>", lamP (lamW i), lamB (lamW i), lamS (lamW i), cloFrom X.env.cells (lamS (lamW i)).names [], c'⟩
    have huT : ∀ p ∈ T, p.1 = P1 → p.2 = X.env.qual ++ "<lambda>" := fun p hp e => huT0 p hp e
    refine ⟨fun r σ' H' => ∃ lst fcs, r = .ref lst ∧ σ' = [some v1, some v2, some v3, some (.ref lst)] ∧ fcs.length = 4 ∧ WSt mk T H lst fcs H', _, psr_cons (ps_set (i := 3) sc__law_works.nd rfl (.inl rfl) (pe_lst pa_nil))
      (psr_cons (ps_expr (pe_bm PySem.F.plainAttrs_list PySem.F.slot_list_append PySem.F.type_list_append mt_append (pv 3) (pa_cons (pe_lam (T := T) (params := lamP (lamW 1)) (body := lamB (lamW 1)) (scope := lamS (lamW 1)) (pos := lamO (lamW 1)) TB rfl (by exact hmT) huT rfl h1) pa_nil)))
      (psr_cons (ps_expr (pe_bm PySem.F.plainAttrs_list PySem.F.slot_list_append PySem.F.type_list_append mt_append (pv 3) (pa_cons (pe_lam (T := T) (params := lamP (lamW 2)) (body := lamB (lamW 2)) (scope := lamS (lamW 2)) (pos := lamO (lamW 2)) TB rfl (by exact hmT) huT rfl h2) pa_nil)))
      (psr_cons (ps_expr (pe_bm PySem.F.plainAttrs_list PySem.F.slot_list_append PySem.F.type_list_append mt_append (pv 3) (pa_cons (pe_lam (T := T) (params := lamP (lamW 3)) (body := lamB (lamW 3)) (scope := lamS (lamW 3)) (pos := lamO (lamW 3)) TB rfl (by exact hmT) huT rfl h3) pa_nil)))
      (psr_cons (ps_expr (pe_bm PySem.F.plainAttrs_list PySem.F.slot_list_append PySem.F.type_list_append mt_append (pv 3) (pa_cons (pe_lam (T := T) (params := lamP (lamW 4)) (body := lamB (lamW 4)) (scope := lamS (lamW 4)) (pos := lamO (lamW 4)) TB rfl (by exact hmT) huT rfl h4) pa_nil)))
      (psr_ret (pv 3)))))), ?_, fun s' σ' H' r ur J rv hR => ?_⟩
    · refine ⟨Nat.zero_le _, fun lst hl => ?_⟩
      have W0 : WSt mk T H lst [] (upd H lst (.lst [])) := ⟨extN_upd (ExtN.refl H) hl, hT.ext fun bb o e => same_new hl bb o e, hl, upd_same, fun i x hi => by simp at hi⟩
      refine ⟨_, rfl, .inl ⟨rfl, _, lstAt W0.2.2.2.1⟩, W0.2.1, fun f1 c1 G1 x1 nn1 t1 nf1 a1 b1 => ?_⟩
      obtain ⟨l1, W1⟩ := W0.step (f := f1) (c := c1) x1 t1 a1 b1
      refine ⟨lst, _, _, rfl, rfl, l1, by show 0 < sizeLine; decide +kernel, ?_⟩
      refine ⟨_, rfl, .inl ⟨rfl, _, lstAt W1.2.2.2.1⟩, W1.2.1, fun f2 c2 G2 x2 nn2 t2 nf2 a2 b2 => ?_⟩
      obtain ⟨l2, W2⟩ := W1.step (f := f2) (c := c2) x2 t2 a2 b2
      refine ⟨lst, _, _, rfl, rfl, l2, by show 1 < sizeLine; decide +kernel, ?_⟩
      refine ⟨_, rfl, .inl ⟨rfl, _, lstAt W2.2.2.2.1⟩, W2.2.1, fun f3 c3 G3 x3 nn3 t3 nf3 a3 b3 => ?_⟩
      obtain ⟨l3, W3⟩ := W2.step (f := f3) (c := c3) x3 t3 a3 b3
      refine ⟨lst, _, _, rfl, rfl, l3, by show 2 < sizeLine; decide +kernel, ?_⟩
      refine ⟨_, rfl, .inl ⟨rfl, _, lstAt W3.2.2.2.1⟩, W3.2.1, fun f4 c4 G4 x4 nn4 t4 nf4 a4 b4 => ?_⟩
      obtain ⟨l4, W4⟩ := W3.step (f := f4) (c := c4) x4 t4 a4 b4
      refine ⟨lst, _, _, rfl, rfl, l4, by show 3 < sizeLine; decide +kernel, ?_⟩
      exact ⟨_, rfl, lst, _, rfl, rfl, rfl, W4⟩
    · obtain ⟨lst, fcs, rfl, rfl, hl5, ex, T1, _, el, hx⟩ := hR
      match fcs, hl5, el, hx with
      | [x1, x2, x3, x4], _, el, hx =>
      have kA : (defScope st__law_works).names.lookup ("one" : Str) = some NameKind.cell := by decide +kernel
      have kB : (defScope st__law_works).names.lookup ("other" : Str) = some NameKind.cell := by decide +kernel
      have kC : (defScope st__law_works).names.lookup ("third" : Str) = some NameKind.cell := by decide +kernel
      have only : ∀ y ∈ (defScope st__law_works).names, y.2 = NameKind.cell → y.1 = ("one" : Str) ∨ y.1 = ("other" : Str) ∨ y.1 = ("third" : Str) := by decide +kernel
      obtain ⟨a1, ha1⟩ := J.ok.has "one" (.inl kA)
      obtain ⟨a2, ha2⟩ := J.ok.has "other" (.inl kB)
      obtain ⟨a3, ha3⟩ := J.ok.has "third" (.inl kC)
      have n12 : a1 ≠ a2 := fun z => by
        have := J.ok.inj "one" "other" a1 ha1 (by rw [z]; exact ha2)
        exact absurd this (by decide)
      have n13 : a1 ≠ a3 := fun z => by
        have := J.ok.inj "one" "third" a1 ha1 (by rw [z]; exact ha3)
        exact absurd this (by decide)
      have n23 : a2 ≠ a3 := fun z => by
        have := J.ok.inj "other" "third" a2 ha2 (by rw [z]; exact ha3)
        exact absurd this (by decide)
      have l1 : ([(a1, v1), (a2, v2), (a3, v3)] : CL).lookup a1 = some v1 := by rw [List.lookup_cons]; simp
      have l2 : ([(a1, v1), (a2, v2), (a3, v3)] : CL).lookup a2 = some v2 := by
        rw [List.lookup_cons]
        have : (a2 == a1) = false := by simpa using Ne.symm n12
        rw [this, List.lookup_cons]
        simp
      have l3 : ([(a1, v1), (a2, v2), (a3, v3)] : CL).lookup a3 = some v3 := by
        rw [List.lookup_cons]
        have e1 : (a3 == a1) = false := by simpa using Ne.symm n13
        have e2 : (a3 == a2) = false := by simpa using Ne.symm n23
        rw [e1, List.lookup_cons, e2, List.lookup_cons]
        simp
      have up : ∀ b o, H' b = some o → lay [(a1, v1), (a2, v2), (a3, v3)] H' b = some o := fun b o e => by
        cases z : ([(a1, v1), (a2, v2), (a3, v3)] : CL).lookup b with
        | none => exact (lay_no z).trans e
        | some y =>
          exfalso
          rcases three_of z with ⟨rfl, _⟩ | ⟨rfl, _⟩ | ⟨rfl, _⟩
          · rw [J.freeC "one" _ ha1] at e
            cases e
          · rw [J.freeC "other" _ ha2] at e
            cases e
          · rw [J.freeC "third" _ ha3] at e
            cases e
      have cap : ∀ (i : Nat) (fr : List Str) (ws : List V) (c' : Addr), (∀ y ∈ (lamS (lamW i)).names, y.2 = .free → X.env.scope.names.lookup y.1 = some .cell ∨ X.env.scope.names.lookup y.1 = some .free) → ws.length = fr.length →
          (∀ (j : Nat) (y : Str), fr[j]? = some y → (y, NameKind.free) ∈ (lamS (lamW i)).names ∧ ∃ (a : Addr) (v : V), X.env.cells.lookup y = some a ∧ ([(a1, v1), (a2, v2), (a3, v3)] : CL).lookup a = some v ∧ ws[j]? = some v) → Cap (mk i c') fr ws [(a1, v1), (a2, v2), (a3, v3)] := fun i fr ws c' hf hl hj => by
        have hfm : ∀ y ∈ (lamS (lamW i)).names, y.2 = .free → ∃ c, X.env.cells.lookup y.1 = some c := fun y hy e => (hf y hy e).elim (fun z => J.ok.has _ (.inl z)) fun z => J.ok.has _ (.inr z)
        refine ⟨hl, fun y c e => ?_, fun x y c ex1 ey1 => J.ok.inj x y c (NdefX.clo_cm hfm ex1) (NdefX.clo_cm hfm ey1), fun j y e => ?_⟩
        · have h1 := NdefX.clo_cm hfm e
          have h2 : (PySem.cellsFrom (s.heap.objs.size + 1) (defScope st__law_works).names []).lookup y = some c := h1
          rcases cells_kind _ _ _ h2 with z | z
          · rcases only _ z rfl with w1 | w1 | w1
            · have w1 : y = ("one" : Str) := w1
              subst w1
              have := ha1.symm.trans h1
              rw [← Option.some.inj this]
              exact ⟨_, l1⟩
            · have w1 : y = ("other" : Str) := w1
              subst w1
              have := ha2.symm.trans h1
              rw [← Option.some.inj this]
              exact ⟨_, l2⟩
            · have w1 : y = ("third" : Str) := w1
              subst w1
              have := ha3.symm.trans h1
              rw [← Option.some.inj this]
              exact ⟨_, l3⟩
          · cases z
        · obtain ⟨m, a, v, e1, e2, e3⟩ := hj j y e
          exact ⟨a, NdefX.clo_has hfm m e1, fun v' ev => by
            rw [e3] at ev
            rw [← Option.some.inj ev]
            exact e2⟩
      have sl : Stand [(a1, v1), (a2, v2), (a3, v3)] (lay [(a1, v1), (a2, v2), (a3, v3)] H') := Stand.lay _ _
      have liv : ∀ (i : Nat) (x : Addr × Addr), H' x.1 = some (FnL x.1 (mk i x.2)) → H' x.2 = some (CodeO x.2 (mk i x.2).qual) → LiveK x.1 (mk i x.2) [(a1, v1), (a2, v2), (a3, v3)] (lay [(a1, v1), (a2, v2), (a3, v3)] H') := fun i x e1 e2 => ⟨up _ _ e1, up _ _ e2, sl⟩
      have m1 : LamAt (lamW 1) ["one", "other", "third"] [v1, v2, v3] [(a1, v1), (a2, v2), (a3, v3)] x1.1 (lay [(a1, v1), (a2, v2), (a3, v3)] H') := by
        obtain ⟨e1, e2⟩ := hx 0 x1 rfl
        refine ⟨_, _, _, liv 1 x1 e1 e2, cap 1 _ _ _ h1 rfl fun j y e => ?_⟩
        match j, e with
        | 0, e =>
          cases Option.some.inj e
          exact ⟨by decide +kernel, a1, v1, ha1, l1, rfl⟩
        | 1, e =>
          cases Option.some.inj e
          exact ⟨by decide +kernel, a2, v2, ha2, l2, rfl⟩
        | 2, e =>
          cases Option.some.inj e
          exact ⟨by decide +kernel, a3, v3, ha3, l3, rfl⟩
        | j + 3, e => simp at e
      have m2 : LamAt (lamW 2) ["one", "other", "third"] [v1, v2, v3] [(a1, v1), (a2, v2), (a3, v3)] x2.1 (lay [(a1, v1), (a2, v2), (a3, v3)] H') := by
        obtain ⟨e1, e2⟩ := hx 1 x2 rfl
        refine ⟨_, _, _, liv 2 x2 e1 e2, cap 2 _ _ _ h2 rfl fun j y e => ?_⟩
        match j, e with
        | 0, e =>
          cases Option.some.inj e
          exact ⟨by decide +kernel, a1, v1, ha1, l1, rfl⟩
        | 1, e =>
          cases Option.some.inj e
          exact ⟨by decide +kernel, a2, v2, ha2, l2, rfl⟩
        | 2, e =>
          cases Option.some.inj e
          exact ⟨by decide +kernel, a3, v3, ha3, l3, rfl⟩
        | j + 3, e => simp at e
      have m3 : LamAt (lamW 3) ["one", "other", "third"] [v1, v2, v3] [(a1, v1), (a2, v2), (a3, v3)] x3.1 (lay [(a1, v1), (a2, v2), (a3, v3)] H') := by
        obtain ⟨e1, e2⟩ := hx 2 x3 rfl
        refine ⟨_, _, _, liv 3 x3 e1 e2, cap 3 _ _ _ h3 rfl fun j y e => ?_⟩
        match j, e with
        | 0, e =>
          cases Option.some.inj e
          exact ⟨by decide +kernel, a1, v1, ha1, l1, rfl⟩
        | 1, e =>
          cases Option.some.inj e
          exact ⟨by decide +kernel, a2, v2, ha2, l2, rfl⟩
        | 2, e =>
          cases Option.some.inj e
          exact ⟨by decide +kernel, a3, v3, ha3, l3, rfl⟩
        | j + 3, e => simp at e
      have m4 : LamAt (lamW 4) ["one", "other", "third"] [v1, v2, v3] [(a1, v1), (a2, v2), (a3, v3)] x4.1 (lay [(a1, v1), (a2, v2), (a3, v3)] H') := by
        obtain ⟨e1, e2⟩ := hx 3 x4 rfl
        refine ⟨_, _, _, liv 4 x4 e1 e2, cap 4 _ _ _ h4 rfl fun j y e => ?_⟩
        match j, e with
        | 0, e =>
          cases Option.some.inj e
          exact ⟨by decide +kernel, a1, v1, ha1, l1, rfl⟩
        | 1, e =>
          cases Option.some.inj e
          exact ⟨by decide +kernel, a2, v2, ha2, l2, rfl⟩
        | 2, e =>
          cases Option.some.inj e
          exact ⟨by decide +kernel, a3, v3, ha3, l3, rfl⟩
        | j + 3, e => simp at e
      refine ce_lay (X := X) (l := [(a1, v1), (a2, v2), (a3, v3)]) (fun _ => rfl) J rfl rfl (fun b y e => ?_) rv (q lst x1.1 x2.1 x3.1 x4.1 [(a1, v1), (a2, v2), (a3, v3)] _ (fun b o e n => up _ _ (ex b o e n)) (T1.ext up) (up _ _ el) sl m1 m2 m3 m4)
      rcases three_of e with ⟨rfl, rfl⟩ | ⟨rfl, rfl⟩ | ⟨rfl, rfl⟩
      · exact ⟨"one", 0, ha1, rfl, rfl, kA⟩
      · exact ⟨"other", 1, ha2, rfl, rfl, kB⟩
      · exact ⟨"third", 2, ha3, rfl, rfl, kC⟩
end
end RH
set_option Elab.async false
set_option linter.all false
set_option maxRecDepth 100000
set_option maxHeartbeats 2000000
namespace RH
open PySem PySem.Spec PyProof.Rows L2
open NdefX (NScope CellsAt Caps slotAt slotAt_of cells_of startF ncx)
open LamX (Tabs TabS TabB ExtN CodeO codeO_ne)
/-! ### the lambda of _law_lefts -/
abbrev lamF (i : Nat) : Expr := argOf ((defBody st__law_lefts).getD i (.Pass ⟨0, 0, 0, 0⟩))
theorem nsF1 : NScope ["one", "other", "third", "fourth", "fifth", "sixth"] [] ["one", "other", "third", "fourth", "fifth", "sixth"] (lamS (lamF 1)) := NdefX.nscope_by (by decide +kernel)
section
variable {P : Program} {w : World} {K : PySem.W.Frag} {mg : Str → Option Value} {base : Heap}
theorem lokF1 {sp : Sp} (M : CalX P w K mg base 8 "habits_left" sp) (q : Str) (cl : List (Str × Addr)) (c f : Addr) : LOk P w K mg base (L2.CX P w) 10 f ⟨q, lamP (lamF 1), lamB (lamF 1), lamS (lamF 1), cl, c⟩ [] ["one", "other", "third", "fourth", "fifth", "sixth"] (spW sp id) := by
  refine lok_of nsF1 (fun pm ctv us hl => ?_) (fun ws vs H Q E hq => ?_) (fun A outer s H vs ws Q E hr hwl hsp => ?_)
  · match us, hl with
    | [], _ => rfl
  · obtain ⟨us, _, rfl, _⟩ := hq
    rfl
  · obtain ⟨us, rfl, rfl, hsp⟩ := hsp
    rw [List.length_map] at hwl
    match us, hwl, hsp with
    | [u1, u2, u3, u4, u5, u6], _, hsp => exact ⟨_, pcX M passN hr (pa_cons (pv 0) (pa_cons (pv 1) (pa_cons (pv 2) (pa_cons (pv 3) (pa_cons (pv 4) (pa_cons (pv 5) pa_nil)))))), _, rfl, _, rfl, _, rfl, _, rfl, _, rfl, _, rfl, hsp⟩
def spLefts (T : List (Addr × Str)) : Sp := fun vs H Q _ => ∃ (v1 v2 v3 v4 v5 v6 : V), vs = [v1, v2, v3, v4, v5, v6] ∧ Tabs T H ∧ ∀ (lst f1 : Addr) (l : CL) (H' : Hp), ExtN H H' → Tabs T H' → H' lst = some (.lst [.ref f1]) → Stand l H' → LamAt (lamF 1) ["one", "other", "third", "fourth", "fifth", "sixth"] [v1, v2, v3, v4, v5, v6] l f1 H' → Q (.ref lst) H'
theorem mem_lk : ∀ {l : CL} {b : Addr} {y : V}, l.lookup b = some y → (b, y) ∈ l
  | [], _, _, h => by cases h
  | (a, v) :: l, b, y, h => by
    rw [List.lookup_cons] at h
    split at h
    · rename_i e
      have e : b = a := by simpa using e
      rw [e, ← Option.some.inj h]
      exact List.mem_cons_self ..
    · exact List.mem_cons_of_mem _ (mem_lk h)
theorem six_of {a1 a2 a3 a4 a5 a6 : Addr} {v1 v2 v3 v4 v5 v6 : V} {b : Addr} {y : V} (h : ([(a1, v1), (a2, v2), (a3, v3), (a4, v4), (a5, v5), (a6, v6)] : CL).lookup b = some y) : (b = a1 ∧ y = v1) ∨ (b = a2 ∧ y = v2) ∨ (b = a3 ∧ y = v3) ∨ (b = a4 ∧ y = v4) ∨ (b = a5 ∧ y = v5) ∨ (b = a6 ∧ y = v6) := by
  have := mem_lk h
  simpa using this
theorem ok_lefts {c P1 : Addr} {T : List (Addr × Str)} (hmT : (P1, lamQ "_law_lefts") ∈ T) (huT0 : ∀ p ∈ T, p.1 = P1 → p.2 = lamQ "_law_lefts") (F : DfC K mg "_law_lefts" st__law_lefts ["one", "other", "third", "fourth", "fifth", "sixth"] c) (TB : TabB base mg c P1) : Cal P w K mg base 1 "_law_lefts" (spLefts T) := by
  obtain ⟨f, oc, od, kV, doc, pm, an, ct, osl, lk, hcd, kp, g, b⟩ := F.ex
  refine ⟨f, _, _, fnR_of lk hcd sc__law_lefts (fun vs H Q E h => ?_) (fun A outer s H vs Q E hr h => ?_), g, kp, b⟩
  · obtain ⟨v1, v2, v3, v4, v5, v6, rfl, _⟩ := h
    rfl
  · obtain ⟨v1, v2, v3, v4, v5, v6, rfl, hT, q⟩ := h
    let X : Cx := cxOf CX0 P w K mg base ["one", "other", "third", "fourth", "fifth", "sixth", "works"] "_law_lefts" (defScope st__law_lefts) f (.ref c) A outer s H E
    have h1 : ∀ y ∈ (lamS (lamF 1)).names, y.2 = .free → X.env.scope.names.lookup y.1 = some .cell ∨ X.env.scope.names.lookup y.1 = some .free := by
      have : ∀ y ∈ (lamS (lamF 1)).names, y.2 = .free → (defScope st__law_lefts).names.lookup y.1 = some .cell ∨ (defScope st__law_lefts).names.lookup y.1 = some .free := by decide +kernel
      exact this
    let mk : Nat → Addr → LF := fun i c' => ⟨X.env.qual ++ "<lambda>", lamP (lamF i), lamB (lamF i), lamS (lamF i), cloFrom X.env.cells (lamS (lamF i)).names [], c'⟩
    have huT : ∀ p ∈ T, p.1 = P1 → p.2 = X.env.qual ++ "<lambda>" := fun p hp e => huT0 p hp e
    refine ⟨fun r σ' H' => ∃ lst fcs, r = .ref lst ∧ σ' = [some v1, some v2, some v3, some v4, some v5, some v6, some (.ref lst)] ∧ fcs.length = 1 ∧ WSt mk T H lst fcs H', _, psr_cons (ps_set (i := 6) sc__law_lefts.nd rfl (.inl rfl) (pe_lst pa_nil))
      (psr_cons (ps_expr (pe_bm PySem.F.plainAttrs_list PySem.F.slot_list_append PySem.F.type_list_append mt_append (pv 6) (pa_cons (pe_lam (T := T) (params := lamP (lamF 1)) (body := lamB (lamF 1)) (scope := lamS (lamF 1)) (pos := lamO (lamF 1)) TB rfl (by exact hmT) huT rfl h1) pa_nil)))
      (psr_ret (pv 6))), ?_, fun s' σ' H' r ur J rv hR => ?_⟩
    · refine ⟨Nat.zero_le _, fun lst hl => ?_⟩
      have W0 : WSt mk T H lst [] (upd H lst (.lst [])) := ⟨extN_upd (ExtN.refl H) hl, hT.ext fun bb o e => same_new hl bb o e, hl, upd_same, fun i x hi => by simp at hi⟩
      refine ⟨_, rfl, .inl ⟨rfl, _, lstAt W0.2.2.2.1⟩, W0.2.1, fun f1 c1 G1 x1 nn1 t1 nf1 a1 b1 => ?_⟩
      obtain ⟨l1, W1⟩ := W0.step (f := f1) (c := c1) x1 t1 a1 b1
      refine ⟨lst, _, _, rfl, rfl, l1, by show 0 < sizeLine; decide +kernel, ?_⟩
      exact ⟨_, rfl, lst, _, rfl, rfl, rfl, W1⟩
    · obtain ⟨lst, fcs, rfl, rfl, hl5, ex, T1, _, el, hx⟩ := hR
      match fcs, hl5, el, hx with
      | [x1], _, el, hx =>
      have k1 : (defScope st__law_lefts).names.lookup ("one" : Str) = some NameKind.cell := by decide +kernel
      have k2 : (defScope st__law_lefts).names.lookup ("other" : Str) = some NameKind.cell := by decide +kernel
      have k3 : (defScope st__law_lefts).names.lookup ("third" : Str) = some NameKind.cell := by decide +kernel
      have k4 : (defScope st__law_lefts).names.lookup ("fourth" : Str) = some NameKind.cell := by decide +kernel
      have k5 : (defScope st__law_lefts).names.lookup ("fifth" : Str) = some NameKind.cell := by decide +kernel
      have k6 : (defScope st__law_lefts).names.lookup ("sixth" : Str) = some NameKind.cell := by decide +kernel
      have only : ∀ y ∈ (defScope st__law_lefts).names, y.2 = NameKind.cell → y.1 = ("one" : Str) ∨ y.1 = ("other" : Str) ∨ y.1 = ("third" : Str) ∨ y.1 = ("fourth" : Str) ∨ y.1 = ("fifth" : Str) ∨ y.1 = ("sixth" : Str) := by decide +kernel
      obtain ⟨a1, ha1⟩ := J.ok.has "one" (.inl k1)
      obtain ⟨a2, ha2⟩ := J.ok.has "other" (.inl k2)
      obtain ⟨a3, ha3⟩ := J.ok.has "third" (.inl k3)
      obtain ⟨a4, ha4⟩ := J.ok.has "fourth" (.inl k4)
      obtain ⟨a5, ha5⟩ := J.ok.has "fifth" (.inl k5)
      obtain ⟨a6, ha6⟩ := J.ok.has "sixth" (.inl k6)
      have n12 : a1 ≠ a2 := fun z => by
        have := J.ok.inj "one" "other" a1 ha1 (by rw [z]; exact ha2)
        exact absurd this (by decide)
      have n13 : a1 ≠ a3 := fun z => by
        have := J.ok.inj "one" "third" a1 ha1 (by rw [z]; exact ha3)
        exact absurd this (by decide)
      have n14 : a1 ≠ a4 := fun z => by
        have := J.ok.inj "one" "fourth" a1 ha1 (by rw [z]; exact ha4)
        exact absurd this (by decide)
      have n15 : a1 ≠ a5 := fun z => by
        have := J.ok.inj "one" "fifth" a1 ha1 (by rw [z]; exact ha5)
        exact absurd this (by decide)
      have n16 : a1 ≠ a6 := fun z => by
        have := J.ok.inj "one" "sixth" a1 ha1 (by rw [z]; exact ha6)
        exact absurd this (by decide)
      have n23 : a2 ≠ a3 := fun z => by
        have := J.ok.inj "other" "third" a2 ha2 (by rw [z]; exact ha3)
        exact absurd this (by decide)
      have n24 : a2 ≠ a4 := fun z => by
        have := J.ok.inj "other" "fourth" a2 ha2 (by rw [z]; exact ha4)
        exact absurd this (by decide)
      have n25 : a2 ≠ a5 := fun z => by
        have := J.ok.inj "other" "fifth" a2 ha2 (by rw [z]; exact ha5)
        exact absurd this (by decide)
      have n26 : a2 ≠ a6 := fun z => by
        have := J.ok.inj "other" "sixth" a2 ha2 (by rw [z]; exact ha6)
        exact absurd this (by decide)
      have n34 : a3 ≠ a4 := fun z => by
        have := J.ok.inj "third" "fourth" a3 ha3 (by rw [z]; exact ha4)
        exact absurd this (by decide)
      have n35 : a3 ≠ a5 := fun z => by
        have := J.ok.inj "third" "fifth" a3 ha3 (by rw [z]; exact ha5)
        exact absurd this (by decide)
      have n36 : a3 ≠ a6 := fun z => by
        have := J.ok.inj "third" "sixth" a3 ha3 (by rw [z]; exact ha6)
        exact absurd this (by decide)
      have n45 : a4 ≠ a5 := fun z => by
        have := J.ok.inj "fourth" "fifth" a4 ha4 (by rw [z]; exact ha5)
        exact absurd this (by decide)
      have n46 : a4 ≠ a6 := fun z => by
        have := J.ok.inj "fourth" "sixth" a4 ha4 (by rw [z]; exact ha6)
        exact absurd this (by decide)
      have n56 : a5 ≠ a6 := fun z => by
        have := J.ok.inj "fifth" "sixth" a5 ha5 (by rw [z]; exact ha6)
        exact absurd this (by decide)
      have l1 : ([(a1, v1), (a2, v2), (a3, v3), (a4, v4), (a5, v5), (a6, v6)] : CL).lookup a1 = some v1 := by
        rw [List.lookup_cons]
        simp
      have l2 : ([(a1, v1), (a2, v2), (a3, v3), (a4, v4), (a5, v5), (a6, v6)] : CL).lookup a2 = some v2 := by
        rw [List.lookup_cons]
        rw [show (a2 == a1) = false from by simpa using Ne.symm n12, List.lookup_cons]
        simp
      have l3 : ([(a1, v1), (a2, v2), (a3, v3), (a4, v4), (a5, v5), (a6, v6)] : CL).lookup a3 = some v3 := by
        rw [List.lookup_cons]
        rw [show (a3 == a1) = false from by simpa using Ne.symm n13, List.lookup_cons]
        rw [show (a3 == a2) = false from by simpa using Ne.symm n23, List.lookup_cons]
        simp
      have l4 : ([(a1, v1), (a2, v2), (a3, v3), (a4, v4), (a5, v5), (a6, v6)] : CL).lookup a4 = some v4 := by
        rw [List.lookup_cons]
        rw [show (a4 == a1) = false from by simpa using Ne.symm n14, List.lookup_cons]
        rw [show (a4 == a2) = false from by simpa using Ne.symm n24, List.lookup_cons]
        rw [show (a4 == a3) = false from by simpa using Ne.symm n34, List.lookup_cons]
        simp
      have l5 : ([(a1, v1), (a2, v2), (a3, v3), (a4, v4), (a5, v5), (a6, v6)] : CL).lookup a5 = some v5 := by
        rw [List.lookup_cons]
        rw [show (a5 == a1) = false from by simpa using Ne.symm n15, List.lookup_cons]
        rw [show (a5 == a2) = false from by simpa using Ne.symm n25, List.lookup_cons]
        rw [show (a5 == a3) = false from by simpa using Ne.symm n35, List.lookup_cons]
        rw [show (a5 == a4) = false from by simpa using Ne.symm n45, List.lookup_cons]
        simp
      have l6 : ([(a1, v1), (a2, v2), (a3, v3), (a4, v4), (a5, v5), (a6, v6)] : CL).lookup a6 = some v6 := by
        rw [List.lookup_cons]
        rw [show (a6 == a1) = false from by simpa using Ne.symm n16, List.lookup_cons]
        rw [show (a6 == a2) = false from by simpa using Ne.symm n26, List.lookup_cons]
        rw [show (a6 == a3) = false from by simpa using Ne.symm n36, List.lookup_cons]
        rw [show (a6 == a4) = false from by simpa using Ne.symm n46, List.lookup_cons]
        rw [show (a6 == a5) = false from by simpa using Ne.symm n56, List.lookup_cons]
        simp
      have up : ∀ b o, H' b = some o → lay [(a1, v1), (a2, v2), (a3, v3), (a4, v4), (a5, v5), (a6, v6)] H' b = some o := fun b o e => by
        cases z : ([(a1, v1), (a2, v2), (a3, v3), (a4, v4), (a5, v5), (a6, v6)] : CL).lookup b with
        | none => exact (lay_no z).trans e
        | some y =>
          exfalso
          rcases six_of z with ⟨rfl, _⟩ | ⟨rfl, _⟩ | ⟨rfl, _⟩ | ⟨rfl, _⟩ | ⟨rfl, _⟩ | ⟨rfl, _⟩
          · rw [J.freeC "one" _ ha1] at e
            cases e
          · rw [J.freeC "other" _ ha2] at e
            cases e
          · rw [J.freeC "third" _ ha3] at e
            cases e
          · rw [J.freeC "fourth" _ ha4] at e
            cases e
          · rw [J.freeC "fifth" _ ha5] at e
            cases e
          · rw [J.freeC "sixth" _ ha6] at e
            cases e
      have cap : ∀ (i : Nat) (fr : List Str) (ws : List V) (c' : Addr), (∀ y ∈ (lamS (lamF i)).names, y.2 = .free → X.env.scope.names.lookup y.1 = some .cell ∨ X.env.scope.names.lookup y.1 = some .free) → ws.length = fr.length →
          (∀ (j : Nat) (y : Str), fr[j]? = some y → (y, NameKind.free) ∈ (lamS (lamF i)).names ∧ ∃ (a : Addr) (v : V), X.env.cells.lookup y = some a ∧ ([(a1, v1), (a2, v2), (a3, v3), (a4, v4), (a5, v5), (a6, v6)] : CL).lookup a = some v ∧ ws[j]? = some v) → Cap (mk i c') fr ws [(a1, v1), (a2, v2), (a3, v3), (a4, v4), (a5, v5), (a6, v6)] := fun i fr ws c' hf hl hj => by
        have hfm : ∀ y ∈ (lamS (lamF i)).names, y.2 = .free → ∃ c, X.env.cells.lookup y.1 = some c := fun y hy e => (hf y hy e).elim (fun z => J.ok.has _ (.inl z)) fun z => J.ok.has _ (.inr z)
        refine ⟨hl, fun y c e => ?_, fun x y c ex1 ey1 => J.ok.inj x y c (NdefX.clo_cm hfm ex1) (NdefX.clo_cm hfm ey1), fun j y e => ?_⟩
        · have h1 := NdefX.clo_cm hfm e
          have h2 : (PySem.cellsFrom (s.heap.objs.size + 1) (defScope st__law_lefts).names []).lookup y = some c := h1
          rcases cells_kind _ _ _ h2 with z | z
          · rcases only _ z rfl with w1 | w1 | w1 | w1 | w1 | w1
            · have w1 : y = ("one" : Str) := w1
              subst w1
              have := ha1.symm.trans h1
              rw [← Option.some.inj this]
              exact ⟨_, l1⟩
            · have w1 : y = ("other" : Str) := w1
              subst w1
              have := ha2.symm.trans h1
              rw [← Option.some.inj this]
              exact ⟨_, l2⟩
            · have w1 : y = ("third" : Str) := w1
              subst w1
              have := ha3.symm.trans h1
              rw [← Option.some.inj this]
              exact ⟨_, l3⟩
            · have w1 : y = ("fourth" : Str) := w1
              subst w1
              have := ha4.symm.trans h1
              rw [← Option.some.inj this]
              exact ⟨_, l4⟩
            · have w1 : y = ("fifth" : Str) := w1
              subst w1
              have := ha5.symm.trans h1
              rw [← Option.some.inj this]
              exact ⟨_, l5⟩
            · have w1 : y = ("sixth" : Str) := w1
              subst w1
              have := ha6.symm.trans h1
              rw [← Option.some.inj this]
              exact ⟨_, l6⟩
          · cases z
        · obtain ⟨m, a, v, e1, e2, e3⟩ := hj j y e
          exact ⟨a, NdefX.clo_has hfm m e1, fun v' ev => by
            rw [e3] at ev
            rw [← Option.some.inj ev]
            exact e2⟩
      have sl : Stand [(a1, v1), (a2, v2), (a3, v3), (a4, v4), (a5, v5), (a6, v6)] (lay [(a1, v1), (a2, v2), (a3, v3), (a4, v4), (a5, v5), (a6, v6)] H') := Stand.lay _ _
      have liv : ∀ (i : Nat) (x : Addr × Addr), H' x.1 = some (FnL x.1 (mk i x.2)) → H' x.2 = some (CodeO x.2 (mk i x.2).qual) → LiveK x.1 (mk i x.2) [(a1, v1), (a2, v2), (a3, v3), (a4, v4), (a5, v5), (a6, v6)] (lay [(a1, v1), (a2, v2), (a3, v3), (a4, v4), (a5, v5), (a6, v6)] H') := fun i x e1 e2 => ⟨up _ _ e1, up _ _ e2, sl⟩
      have m1 : LamAt (lamF 1) ["one", "other", "third", "fourth", "fifth", "sixth"] [v1, v2, v3, v4, v5, v6] [(a1, v1), (a2, v2), (a3, v3), (a4, v4), (a5, v5), (a6, v6)] x1.1 (lay [(a1, v1), (a2, v2), (a3, v3), (a4, v4), (a5, v5), (a6, v6)] H') := by
        obtain ⟨e1, e2⟩ := hx 0 x1 rfl
        refine ⟨_, _, _, liv 1 x1 e1 e2, cap 1 _ _ _ h1 rfl fun j y e => ?_⟩
        match j, e with
        | 0, e =>
          cases Option.some.inj e
          exact ⟨by decide +kernel, a1, v1, ha1, l1, rfl⟩
        | 1, e =>
          cases Option.some.inj e
          exact ⟨by decide +kernel, a2, v2, ha2, l2, rfl⟩
        | 2, e =>
          cases Option.some.inj e
          exact ⟨by decide +kernel, a3, v3, ha3, l3, rfl⟩
        | 3, e =>
          cases Option.some.inj e
          exact ⟨by decide +kernel, a4, v4, ha4, l4, rfl⟩
        | 4, e =>
          cases Option.some.inj e
          exact ⟨by decide +kernel, a5, v5, ha5, l5, rfl⟩
        | 5, e =>
          cases Option.some.inj e
          exact ⟨by decide +kernel, a6, v6, ha6, l6, rfl⟩
        | j + 6, e => simp at e
      refine ce_lay (X := X) (l := [(a1, v1), (a2, v2), (a3, v3), (a4, v4), (a5, v5), (a6, v6)]) (fun _ => rfl) J rfl rfl (fun b y e => ?_) rv (q lst x1.1 [(a1, v1), (a2, v2), (a3, v3), (a4, v4), (a5, v5), (a6, v6)] _ (fun b o e n => up _ _ (ex b o e n)) (T1.ext up) (up _ _ el) sl m1)
      rcases six_of e with ⟨rfl, rfl⟩ | ⟨rfl, rfl⟩ | ⟨rfl, rfl⟩ | ⟨rfl, rfl⟩ | ⟨rfl, rfl⟩ | ⟨rfl, rfl⟩
      · exact ⟨"one", 0, ha1, rfl, rfl, k1⟩
      · exact ⟨"other", 1, ha2, rfl, rfl, k2⟩
      · exact ⟨"third", 2, ha3, rfl, rfl, k3⟩
      · exact ⟨"fourth", 3, ha4, rfl, rfl, k4⟩
      · exact ⟨"fifth", 4, ha5, rfl, rfl, k5⟩
      · exact ⟨"sixth", 5, ha6, rfl, rfl, k6⟩
end
end RH
set_option Elab.async false
set_option linter.all false
set_option maxRecDepth 100000
set_option maxHeartbeats 2000000
namespace RH
open PySem PySem.Spec PyProof.Rows L2
open NdefX (NScope CellsAt Caps slotAt slotAt_of cells_of startF ncx)
open LamX (Tabs TabS TabB ExtN CodeO codeO_ne)
/-! ### the lambdas are ready -/
theorem era_tups {K : PySem.W.Frag} {l : CL} {H : Hp} (s : Stand l H) : Tups K H (era l H) := fun a xs hs => by
  rcases hs with hs | hs
  · exact .inl (s.rd hs)
  · exact .inr hs
theorem era_keep {l : CL} {H : Hp} (s : Stand l H) {b : Addr} {o : HO} (e : H b = some o) (ne : ∀ v, o ≠ CellO b v) : era l H b = some o := by
  rcases s.cases e with ⟨v, _, z⟩ | ⟨_, z⟩
  · exact absurd z (ne v)
  · exact z
theorem lay_same {l : CL} {H H' : Hp} (s : Stand l H) (e : Same (era l H) H') : Same H (lay l H') := fun b o h => by
  rcases s.cases h with ⟨v, q, z⟩ | ⟨q, z⟩
  · rw [lay_in q, z]
  · rw [lay_no q]
    exact e b o z
theorem era_lst {K : PySem.W.Frag} {l : CL} {H : Hp} (s : Stand l H) {a : Addr} {xs : List V} (h : SqL K H a xs) : SqL K (era l H) a xs := by
  rcases h with (h | ⟨o, h⟩) | h
  · exact .inl (.inl (era_keep s h (fun v z => by unfold CellO at z; cases z)))
  · exact .inl (.inr ⟨o, era_keep s h (fun v z => by unfold CellO at z; cases z)⟩)
  · exact .inr h
section
variable {P : Program} {w : World} {K : PySem.W.Frag} {mg : Str → Option Value} {base : Heap} {C Cb Cl Cp Cw Cn : Addr}
section
variable {l : CL} {H : Hp} {v v1 v2 v3 : V} {wo : Option (List V)}
theorem Sw.era (s : Stand l H) (h : Sw K H v) : Sw K (era l H) v := by
  cases h with
  | int i => exact .int i
  | bl b => exact .bl b
  | non => exact .non
  | str z => exact .str z
  | tup h => exact .tup (era_tups s _ _ h)
  | lst h => exact .lst (era_lst s h)
theorem Tk.era (s : Stand l H) (h : Tk K H v wo) : Tk K (era l H) v wo := by
  cases h with
  | int i => exact .int i
  | bl b => exact .bl b
  | non => exact .non
  | str z => exact .str z
  | tup h => exact .tup (era_tups s _ _ h)
  | lst h => exact .lst (era_lst s h)
  | dct h => exact .dct (era_keep s h (fun v z => by unfold CellO at z; cases z))
theorem Wd.era (s : Stand l H) (h : Wd K H v wo) : Wd K (era l H) v wo := ⟨h.t.era s, fun xs z x hm => (h.s xs z x hm).era s, h.l⟩
theorem Hk.era {ho : Option (List (Option (List V)))} (s : Stand l H) (h : Hk K H v ho) : Hk K (era l H) v ho := by
  cases h with
  | tup h hx => exact .tup (era_tups s _ _ h) (hx.imp fun v d z => z.era s)
  | no h => exact .no (h.era s)
theorem Hs.era {ho : Option (List HO1)} (s : Stand l H) (h : Hs K H v ho) : Hs K (era l H) v ho := by
  cases h with
  | tup h hx => exact .tup (era_tups s _ _ h) (hx.imp fun v d z => z.era s)
  | no h => exact .no (h.era s)
end
section
variable {H : Hp} {cl : CL} {f : Addr} {lam : Expr} {fr : List Str} {us : List V} {sp : Sp} {g : List V → List V}
/-- the lambda will end with BadHabits(pl) -/
def okB (Cb : Addr) (pl : V) (H : Hp) : Hp → VK → XK → Prop := fun H' _ E => H' = H ∧ bhE Cb pl H E
/-- the lambda will end with the error C -/
def okN (C : Addr) (H : Hp) : Hp → VK → XK → Prop := fun H' _ E => H' = H ∧ noE C H E
theorem rdyB {pl : V} (L : ∀ (q : Str) (cl : List (Str × Addr)) (c f : Addr), LOk P w K mg base (L2.CX P w) 10 f ⟨q, lamP lam, lamB lam, lamS lam, cl, c⟩ [] fr (spW sp g)) (La : LamAt lam fr us cl f H) (hsp : ∀ Q E, bhE Cb pl (era cl H) E → sp (g us) (era cl H) Q E) :
    Ready P w K mg base 10 f H (okB Cb pl H) := by
  obtain ⟨q, cl', c, live, cap⟩ := La.ex
  refine ⟨_, _, _, _, _, L q cl' c f, cap, live, fun Q E hE => ⟨us, rfl, rfl, hsp _ _ fun d H' s e gone => ?_⟩⟩
  refine hE.2 d (lay cl H') (lay_same live.st s) ?_
  have : cl.lookup d = none := by
    cases q : cl.lookup d with
    | none => rfl
    | some y =>
      rw [gone d y q] at e
      cases e
  rw [lay_no this]
  exact e
theorem rdyN (L : ∀ (q : Str) (cl : List (Str × Addr)) (c f : Addr), LOk P w K mg base (L2.CX P w) 10 f ⟨q, lamP lam, lamB lam, lamS lam, cl, c⟩ [] fr (spW sp g)) (La : LamAt lam fr us cl f H) (hsp : ∀ Q E, noE C (era cl H) E → sp (g us) (era cl H) Q E) :
    Ready P w K mg base 10 f H (okN C H) := by
  obtain ⟨q, cl', c, live, cap⟩ := La.ex
  exact ⟨_, _, _, _, _, L q cl' c f, cap, live, fun Q E hE => ⟨us, rfl, rfl, hsp _ _ fun H' s gone => hE.2 (lay cl H') (lay_same live.st s)⟩⟩
end
section
variable {Ch Cp Ca : Addr} {H : Hp} {cl : CL} {v1 v2 v3 pl : V} {ho1 ho2 : HO1}
theorem TI.era {v : V} {ns : List Int} (s : Stand cl H) (h : TI K H v ns) : TI K (era cl H) v ns := h.on (era_tups s)
theorem two_h (s : Stand cl H) (h1 : Hk K H v1 ho1) (h2 : Hk K H v2 ho2) (hp : hsBad (some [ho1, ho2]) = some pl) {E : XK} (e : bhE Ch pl (era cl H) E) : badTwo K Ch Cp (era cl H) v1 v2 v3 E := ⟨ho1, ho2, h1.era s, h2.era s, .inl ⟨pl, hp, e⟩⟩
theorem two_l {w3 : Option (List V)} (s : Stand cl H) (h1 : Hk K H v1 ho1) (h2 : Hk K H v2 ho2) (hp : hsBad (some [ho1, ho2]) = none) (hw : Wd K H v3 w3) (hl : lotW (lenH ho1) w3 = false) {E : XK} (e : noE Cp (era cl H) E) : badTwo K Ch Cp (era cl H) v1 v2 v3 E := ⟨ho1, ho2, h1.era s, h2.era s, .inr ⟨hp, w3, hw.era s, hl, e⟩⟩
end
end
end RH
set_option Elab.async false
set_option linter.all false
set_option maxRecDepth 100000
set_option maxHeartbeats 2000000
namespace RH
open PySem PySem.Spec PyProof.Rows L2
open NdefX (NScope CellsAt Caps slotAt slotAt_of cells_of startF ncx)
open LamX (Tabs TabS TabB ExtN CodeO codeO_ne)
/-! ### what an error tells -/
/-- the word of an error's class among five -/
def wordAt : Nat → Str
  | 0 => "habits"
  | 1 => "place"
  | _ => "answer"
structure Knd (K : PySem.W.Frag) (mg : Str → Option Value) (E : Addr) (b : Nat) : Prop where
  few : b < 3
  ex : ExcC K E
  sup : ∃ S, mg "ShelfError" = some (.ref S) ∧ PySem.W.exmOne K (.ref E) (.ref S) = some true
  k0 : ∃ c, mg "BadHabits" = some (.ref c) ∧ PySem.W.kitOne K (.ref E) (.ref c) = some (decide (b = 0))
  k1 : ∃ c, mg "BadPlace" = some (.ref c) ∧ PySem.W.kitOne K (.ref E) (.ref c) = some (decide (b = 1))
  k2 : ∃ c, mg "BadAnswer" = some (.ref c) ∧ PySem.W.kitOne K (.ref E) (.ref c) = some (decide (b = 2))
/-- the classes that the law names -/
structure Five (mg : Str → Option Value) (S c0 c1 c2 : Addr) : Prop where
  s : mg "ShelfError" = some (.ref S)
  h0 : mg "BadHabits" = some (.ref c0)
  h1 : mg "BadPlace" = some (.ref c1)
  h2 : mg "BadAnswer" = some (.ref c2)
theorem run_ex {X : Cx} {st : List Stmt} {pins : List (Addr × Obj)} {s : Shared} {σ : L2.St} {H : Hp} {D : Ends} (I : Inv X pins σ H s) (h : ∃ t, PSs X st t ∧ t D σ H) : wpAny (model X.prog X.w) X.A (execs st X.env) (SP X pins D) X.xe s := let ⟨_, ht, hq⟩ := h; ht.run pins s σ H D I hq
def RS (K : PySem.W.Frag) (mg : Str → Option Value) (a : Addr) (cls : Value) (d : Option Addr) : TS := fun D σ H => ∃ (v : V) (E : Addr) (b : Nat), σ = [some v, some .non, some (.ref a), none, none] ∧ cls = .ref E ∧ Knd K mg E b ∧
  ((b ≠ 0 ∧ d = none ∧ ∀ H3 k1 k2, Same H H3 → D.nx [some v, some (.str (wordAt b)), some (.ref a), some (.ref k1), some (.ref k2)] H3) ∨
    (b = 0 ∧ mg "BadHabits" = some (.ref E) ∧ ∃ (dd : Addr) (pl : V), d = some dd ∧ H dd = some (.xd [("index", pl)]) ∧ ∀ H3 k1 k2 t, Same H H3 → H3 t = some (.tup [.str "habits", pl]) → D.nx [some v, some (.ref t), some (.ref a), some (.ref k1), some (.ref k2)] H3))
section
variable {P : Program} {w : World} {K : PySem.W.Frag} {mg : Str → Option Value} {base : Heap}
/-- a lambda that ends with an error: what is told of it -/
def spRefused (P : Program) (w : World) (K : PySem.W.Frag) (mg : Str → Option Value) (base : Heap) : Sp := fun vs H Q _ => ∃ (f E : Addr) (b : Nat), vs = [.ref f] ∧ Knd K mg E b ∧
  ((b ≠ 0 ∧ Ready P w K mg base 10 f H (okN E H) ∧ ∀ H3, Same H H3 → Q (.str (wordAt b)) H3) ∨ (b = 0 ∧ mg "BadHabits" = some (.ref E) ∧ ∃ pl, Ready P w K mg base 10 f H (okB E pl H) ∧ ∀ H3 t, Same H H3 → H3 t = some (.tup [.str "habits", pl]) → Q (.ref t) H3))
theorem ok_refused {S c0 c1 c2 : Addr} (F : Df K mg "_law_refused" st__law_refused ["work"]) (B : Bu mg) (Fv : Five mg S c0 c1 c2) (ex0 : ExcC K c0) (no0 : PySem.W.findIn K (.ref c0) "index" = some none) : Cal P w K mg base 11 "_law_refused" (spRefused P w K mg base) := by
  refine mkCal F sc__law_refused (fun vs H Q E h => ?_) (fun f cdv A outer s H vs Q E hr h => ?_)
  · obtain ⟨f, Er, b, rfl, _⟩ := h
    rfl
  · obtain ⟨fw, E0, b0, rfl, Kn0, q⟩ := h
    refine ⟨_, pss_cons (ps_set (i := 1) sc__law_refused.nd rfl (.inl rfl) pe_non)
      (pss_cons (ps_try_as (i := 2) (c := .ref S) (tb := fun W => tDrop (tCall0K P w K mg base 10 0 (WE W))) (ts := fun a cls d => RS K mg a cls d) (Wout := fun _ _ _ _ => False) rfl rfl sc__law_refused.nd rfl rfl ⟨rfl, by decide, .inl Fv.s⟩ takes0
        (fun W pn xe tk _ => by exact pss_one (ps_expr (pe_call0K hr (by decide) (fun σ => passAt tk σ) rfl (.inl rfl))))
        (fun a oe cls d pn hz hf => ⟨fun pins s2 σ H2 D I h2 => ?_⟩))
      (pss_one (ps_ret (pv 1)))), ?_⟩
    · obtain ⟨v, Er, b, rfl, rfl, Kn, q2⟩ := h2
      refine run_ex I ⟨_, pss_cons (ps_set (i := 3) sc__law_refused.nd rfl (.inl rfl) (pe_lst pa_nil))
          (pss_cons (ps_expr (pe_bm PySem.F.plainAttrs_list PySem.F.slot_list_append PySem.F.type_list_append mt_append (pv 3) (pa_cons (pe_callB (call_isY (X := (cxOf CX0 P w K mg base ["work", "found", "e", "kinds", "names"] "_law_refused" (defScope st__law_refused) f cdv A outer s H E).nox) (a := a) (pn := pn) hz hf) (by rfl) B.isi (by decide +kernel) (pa_cons (pv 2) (pa_cons (pe_glob (v := .ref c0) (by rfl) Fv.h0 (by rfl)) pa_nil))) pa_nil)))
          (pss_cons (ps_expr (pe_bm PySem.F.plainAttrs_list PySem.F.slot_list_append PySem.F.type_list_append mt_append (pv 3) (pa_cons (pe_callB (call_isY (X := (cxOf CX0 P w K mg base ["work", "found", "e", "kinds", "names"] "_law_refused" (defScope st__law_refused) f cdv A outer s H E).nox) (a := a) (pn := pn) hz hf) (by rfl) B.isi (by decide +kernel) (pa_cons (pv 2) (pa_cons (pe_glob (v := .ref c1) (by rfl) Fv.h1 (by rfl)) pa_nil))) pa_nil)))
          (pss_cons (ps_expr (pe_bm PySem.F.plainAttrs_list PySem.F.slot_list_append PySem.F.type_list_append mt_append (pv 3) (pa_cons (pe_callB (call_isY (X := (cxOf CX0 P w K mg base ["work", "found", "e", "kinds", "names"] "_law_refused" (defScope st__law_refused) f cdv A outer s H E).nox) (a := a) (pn := pn) hz hf) (by rfl) B.isi (by decide +kernel) (pa_cons (pv 2) (pa_cons (pe_glob (v := .ref c2) (by rfl) Fv.h2 (by rfl)) pa_nil))) pa_nil)))
          (pss_cons (ps_set (i := 4) sc__law_refused.nd rfl (.inl rfl) (pe_lst (pa_cons pe_str (pa_cons pe_str (pa_cons pe_str pa_nil)))))
          (pss_cons (ps_set (i := 1) sc__law_refused.nd rfl (.inl rfl) (pe_ifExp (pt_cmpR op_eq (pe_bm PySem.F.plainAttrs_list PySem.F.slot_list_count PySem.F.type_list_count mt_countF (pv 3) (pa_cons pe_bl pa_nil)) pe_int (nomark _))
            (pe_ix ix_list (pv 4) (pe_bm PySem.F.plainAttrs_list PySem.F.slot_list_index PySem.F.type_list_index mt_index (pv 3) (pa_cons pe_bl pa_nil)) (fun _ _ => rfl)) pe_str))
          (pss_one (ps_set (i := 1) sc__law_refused.nd rfl (.inl rfl) (pe_ifExp (pt_cmpR op_eq (pv 1) pe_str (nomark _)) (pe_tup (pa_cons pe_str (pa_cons (pe_xf (X := (cxOf CX0 P w K mg base ["work", "found", "e", "kinds", "names"] "_law_refused" (defScope st__law_refused) f cdv A outer s H E).nox) (a := a) (pn := pn) ⟨ex0.hg, ex0.hk, ex0.hs, ex0.hd⟩ no0 hz hf (pv 2)) pa_nil))) (pv 1))))))))), ?_⟩
      obtain ⟨few, ex, _, ⟨e0, m0, k0⟩, ⟨e1, m1, k1⟩, ⟨e2, m2, k2⟩⟩ := Kn
      obtain rfl : e0 = c0 := Value.ref.inj (Option.some.inj (m0.symm.trans Fv.h0))
      obtain rfl : e1 = c1 := Value.ref.inj (Option.some.inj (m1.symm.trans Fv.h1))
      obtain rfl : e2 = c2 := Value.ref.inj (Option.some.inj (m2.symm.trans Fv.h2))
      have dk : d = none ∨ ∃ (dd : Addr) (fs : List (Str × V)), d = some dd ∧ H2 dd = some (.xd fs) := by
        rcases q2 with ⟨_, e, _⟩ | ⟨_, _, dd, pl, e, e2, _⟩
        · exact .inl e
        · exact .inr ⟨dd, _, e, e2⟩
      refine ⟨Nat.zero_le _, fun kl hkl => ?_⟩
      have dks : ∀ H' : Hp, (∀ bb, bb ≠ kl → H' bb = H2 bb) → (d = none ∨ ∃ (dd : Addr) (fs : List (Str × V)), d = some dd ∧ H' dd = some (.xd fs)) := fun H' hh => by
        rcases dk with e | ⟨dd, fs, e, e2⟩
        · exact .inl e
        · exact .inr ⟨dd, fs, e, (hh dd (ne_of_none e2 hkl)).trans e2⟩
      refine ⟨_, rfl, .inl ⟨rfl, _, lstAt upd_same⟩, _, rfl, Er, e0, _, rfl, dks _ (fun bb nb => by rw [upd_ne nb]), ex, rfl, k0, kl, _, _, rfl, rfl, upd_same, by show 0 < sizeLine; decide +kernel, ?_⟩
      refine ⟨_, rfl, .inl ⟨rfl, _, lstAt upd_same⟩, _, rfl, Er, e1, _, rfl, dks _ (fun bb nb => by rw [upd_ne nb]; rw [upd_ne nb]), ex, rfl, k1, kl, _, _, rfl, rfl, upd_same, by show 1 < sizeLine; decide +kernel, ?_⟩
      refine ⟨_, rfl, .inl ⟨rfl, _, lstAt upd_same⟩, _, rfl, Er, e2, _, rfl, dks _ (fun bb nb => by rw [upd_ne nb]; rw [upd_ne nb]; rw [upd_ne nb]), ex, rfl, k2, kl, _, _, rfl, rfl, upd_same, by show 2 < sizeLine; decide +kernel, ?_⟩
      refine ⟨by decide +kernel, fun nl hnl => ?_⟩
      have sn : Same H2 _ := fun bb o e => same_new (o := .lst [.str "habits", .str "place", .str "answer"]) hnl bb o (by
        have nb : bb ≠ kl := ne_of_none e hkl
        rw [upd_ne nb, upd_ne nb, upd_ne nb, upd_ne nb]
        exact e)
      have nkn : kl ≠ nl := ne_of_none upd_same hnl
      refine ⟨_, rfl, .inl ⟨rfl, _, lstAt (by rw [upd_ne nkn]; exact upd_same)⟩, kl, _, .bl true, rfl, rfl, lstAt (by rw [upd_ne nkn]; exact upd_same), rfl, rfl, rfl, _, rfl, ?_⟩
      have two : b = 0 ∨ b = 1 ∨ b = 2 := by omega
      rcases two with rfl | rfl | rfl
      · refine ifT (by decide +kernel) ⟨_, rfl, _, rfl, .inl ⟨rfl, _, lstAt (by rw [upd_ne nkn]; exact upd_same)⟩, kl, _, .bl true, 0, .bl true, rfl, rfl, lstAt (by rw [upd_ne nkn]; exact upd_same), rfl, rfl, rfl, rfl, fun m z' hm hz' => ?_, nl, _, _, _, rfl, rfl, lstAt upd_same, rfl, ?_⟩
        · exact absurd hm (Nat.not_lt_zero _)
        · rcases q2 with ⟨z, _⟩ | ⟨_, mE, dd, pl, rfl, hd, q2⟩
          · exact absurd rfl z
          obtain rfl : Er = e0 := Value.ref.inj (Option.some.inj (mE.symm.trans m0))
          refine ⟨_, rfl, rfl, _, rfl, ifT (by decide +kernel) ⟨_, rfl, rfl, rfl, dd, _, pl, rfl, sn _ _ hd, rfl, by show 2 ≤ sizeLine; decide +kernel, fun t ht => ?_⟩⟩
          exact q2 _ kl nl t (sn.trans (same_new ht)) upd_same
      · refine ifT (by decide +kernel) ⟨_, rfl, _, rfl, .inl ⟨rfl, _, lstAt (by rw [upd_ne nkn]; exact upd_same)⟩, kl, _, .bl true, 1, .bl true, rfl, rfl, lstAt (by rw [upd_ne nkn]; exact upd_same), rfl, rfl, rfl, rfl, fun m z' hm hz' => ?_, nl, _, _, _, rfl, rfl, lstAt upd_same, rfl, ?_⟩
        · match m, hm with
          | 0, _ => cases Option.some.inj hz'; rfl
        · rcases q2 with ⟨_, _, q2⟩ | ⟨z, _⟩
          · exact ⟨_, rfl, rfl, _, rfl, ifF (by decide +kernel) ⟨_, rfl, q2 _ kl nl sn⟩⟩
          · exact absurd z (by decide)
      · refine ifT (by decide +kernel) ⟨_, rfl, _, rfl, .inl ⟨rfl, _, lstAt (by rw [upd_ne nkn]; exact upd_same)⟩, kl, _, .bl true, 2, .bl true, rfl, rfl, lstAt (by rw [upd_ne nkn]; exact upd_same), rfl, rfl, rfl, rfl, fun m z' hm hz' => ?_, nl, _, _, _, rfl, rfl, lstAt upd_same, rfl, ?_⟩
        · match m, hm with
          | 0, _ => cases Option.some.inj hz'; rfl
          | 1, _ => cases Option.some.inj hz'; rfl
        · rcases q2 with ⟨_, _, q2⟩ | ⟨z, _⟩
          · exact ⟨_, rfl, rfl, _, rfl, ifF (by decide +kernel) ⟨_, rfl, q2 _ kl nl sn⟩⟩
          · exact absurd z (by decide)
    · obtain ⟨S', gS, hS⟩ := Kn0.sup
      obtain rfl : S' = S := Value.ref.inj (Option.some.inj (gS.symm.trans Fv.s))
      rcases q with ⟨nb, R, q⟩ | ⟨rfl, mE, pl, R, q⟩
      · exact ⟨fw, _, rfl, R, rfl, fun H2 s2 => ⟨true, hS, fun _ a ha => ⟨.ref fw, E0, b0, rfl, rfl, Kn0, .inl ⟨nb, rfl, fun H3 k1 k2 s3 => ⟨_, rfl, q H3 (s2.trans s3)⟩⟩⟩, fun z => nomatch z⟩⟩
      · exact ⟨fw, _, rfl, R, rfl, fun d H2 s2 hd => ⟨true, hS, fun _ a ha => ⟨.ref fw, E0, 0, rfl, rfl, Kn0, .inr ⟨rfl, mE, d, pl, rfl, hd, fun H3 k1 k2 t s3 ht => ⟨_, rfl, q H3 t (s2.trans s3) ht⟩⟩⟩, fun z => nomatch z⟩⟩
end
end RH
set_option Elab.async false
set_option linter.all false
set_option maxRecDepth 100000
set_option maxHeartbeats 2000000
namespace RH
open PySem PySem.Spec PyProof.Rows L2
open LamX (Tabs TabS TabB ExtN CodeO codeO_ne)
theorem cl_listOf {X : Cx} (K : PySem.W.Frag) (h : X.K = K := by rfl) : CallR X (.type "list") (fun xs H Q => ∃ p ys, xs = [.ref p] ∧ (SqL K H p ys ∨ SqT K H p ys) ∧ ∀ l, H l = none → Q (.ref l) (upd H l (.lst ys))) := by
  subst h
  exact call_list_of
theorem Each.app {α : Type} {R : V → α → Prop} : ∀ {xs ys : List V} {ds es : List α}, Each R xs ds → Each R ys es → Each R (xs ++ ys) (ds ++ es)
  | _, _, _, _, .nil, h => h
  | _, _, _, _, .cons k t, h => .cons k (t.app h)
theorem Each.take {α : Type} {R : V → α → Prop} : ∀ {xs : List V} {ds : List α} (k : Nat), Each R xs ds → Each R (xs.take k) (ds.take k)
  | _, _, 0, _ => .nil
  | _, _, _ + 1, .nil => .nil
  | _, _, k + 1, .cons h t => .cons h (t.take k)
theorem Each.drop {α : Type} {R : V → α → Prop} : ∀ {xs : List V} {ds : List α} (k : Nat), Each R xs ds → Each R (xs.drop k) (ds.drop k)
  | _, _, 0, h => h
  | _, _, _ + 1, .nil => .nil
  | _, _, k + 1, .cons _ t => t.drop k
theorem lay_yes {n : Nat} {L : List Int} (h : L.Perm (rg n)) : isLay n L = true := by
  unfold isLay
  exact List.isPerm_iff.mpr h
theorem perm_len {n : Nat} {L : List Int} (h : L.Perm (rg n)) : L.length = n := by
  have := h.length_eq
  rw [this]
  unfold rg
  rw [List.length_map, List.length_range]
/-! ### what the law holds -/
section
variable {K : PySem.W.Frag} {H H' : Hp} {n : Nat} {v pl : V}
theorem lst_but {p a : Addr} {xs : List V} (B : But p H H') (R' : Row K H' p) (h : SqL K H a xs) : ∃ ys, SqL K H' a ys := by
  by_cases e : a = p
  · subst e
    obtain ⟨rs, hrs⟩ := R'.lst
    exact ⟨rs, lstAt hrs⟩
  · rcases h with (h | ⟨o, h⟩) | h
    · exact ⟨xs, .inl (.inl (B _ _ h e))⟩
    · exact ⟨xs, .inl (.inr ⟨o, B _ _ h e⟩)⟩
    · exact ⟨xs, .inr h⟩
theorem Sw.but {p : Addr} (B : But p H H') (R : Row K H p) (R' : Row K H' p) (h : Sw K H v) : Sw K H' v := by
  cases h with
  | int i => exact .int i
  | bl bb => exact .bl bb
  | non => exact .non
  | str z => exact .str z
  | tup h => exact .tup ((R.fix B).tups _ _ h)
  | lst h =>
    obtain ⟨ys, h⟩ := lst_but B R' h
    exact .lst h
theorem Tk.but {p : Addr} {wo : Option (List V)} (B : But p H H') (R : Row K H p) (R' : Row K H' p) (h : Tk K H v wo) : Tk K H' v wo := by
  cases h with
  | int i => exact .int i
  | bl bb => exact .bl bb
  | non => exact .non
  | str z => exact .str z
  | tup h => exact .tup ((R.fix B).tups _ _ h)
  | lst h =>
    obtain ⟨ys, h⟩ := lst_but B R' h
    exact .lst h
  | dct h =>
    obtain ⟨rs, hrs⟩ := R.lst
    exact .dct (B _ _ h (ne_of h hrs (fun z => nomatch z)))
theorem Wd.but {p : Addr} {wo : Option (List V)} (B : But p H H') (R : Row K H p) (R' : Row K H' p) (h : Wd K H v wo) : Wd K H' v wo := ⟨h.t.but B R R', fun xs z x hm => (h.s xs z x hm).but B R R', h.l⟩
theorem Hk.but {p : Addr} {ho : Option (List (Option (List V)))} (B : But p H H') (R : Row K H p) (R' : Row K H' p) (h : Hk K H v ho) : Hk K H' v ho := by
  cases h with
  | tup h hx => exact .tup ((R.fix B).tups _ _ h) (hx.imp fun v d z => z.but B R R')
  | no h => exact .no (h.but B R R')
theorem Hs.but {p : Addr} {ho : Option (List HO1)} (B : But p H H') (R : Row K H p) (R' : Row K H' p) (h : Hs K H v ho) : Hs K H' v ho := by
  cases h with
  | tup h hx => exact .tup ((R.fix B).tups _ _ h) (hx.imp fun v d z => z.but B R R')
  | no h => exact .no (h.but B R R')
theorem wd_ints {a : Addr} {ns : List Int} (h : SqT K H a (ns.map V.int)) (hl : ns.length < 64) : Wd K H (.ref a) (some (ns.map V.int)) :=
  ⟨.tup h, fun xs z x hm => by cases z; obtain ⟨i, _, rfl⟩ := List.mem_map.mp hm; exact .int i, fun xs z => by cases z; rwa [List.length_map]⟩
theorem lay_ok {ns : List Int} (h : ns.Perm (rg n)) : layW n (some (ns.map V.int)) = true := by
  have e1 : ((ns.map V.int).map valI) = ns := by
    rw [List.map_map]
    exact List.map_id' ns
  show ((ns.map V.int).all _ && isLay n ((ns.map V.int).map valI)) = true
  rw [e1, lay_yes h, Bool.and_true, List.all_eq_true]
  intro v hv
  obtain ⟨i, hi, rfl⟩ := List.mem_map.mp hv
  have := rg_mem.mp (h.mem_iff.mp hi)
  exact inV2_yes0 this.1 this.2
theorem hk_of {h : List (List Int)} (hT : TII K H v h) (hb : Hb n h) : Hk K H v (some (h.map fun ns => some (ns.map V.int))) := by
  obtain ⟨a, xs, rfl, hS, hE⟩ := hT
  refine .tup hS ?_
  have hp := hb.perm
  have hi := hb.hi
  clear hS hb
  induction hE with
  | nil => exact .nil
  | @cons x ns xs h hx hE ih =>
    obtain ⟨b, rfl, hB⟩ := hx
    refine .cons (wd_ints hB ?_) (ih fun ns hm => hp ns (List.mem_cons_of_mem _ hm))
    rw [perm_len (hp ns (List.mem_cons_self ..))]
    omega
end
theorem extN_tups {K : PySem.W.Frag} {H H' : Hp} (e : ExtN H H') : Tups K H H' := fun a xs hs => by
  rcases hs with (hs | ⟨o, hs⟩) | hs
  · exact .inl (.inl (e _ _ hs (fun ps z => nomatch z)))
  · exact .inl (.inr ⟨o, e _ _ hs (fun ps z => nomatch z)⟩)
  · exact .inr hs
theorem Fix.tabs {T : List (Addr × Str)} {H H' : Hp} (f : Fix H H') (t : Tabs T H) : Tabs T H' := fun p hp => by
  obtain ⟨ps, h1, h2, h3⟩ := t p hp
  refine ⟨ps, f _ _ h1 (fun xs z => nomatch z), h2, fun pos cv hc => ?_⟩
  obtain ⟨c, e1, e2⟩ := h3 pos cv hc
  exact ⟨c, e1, f _ _ e2 (fun xs z => by unfold CodeO at z; cases z)⟩
section
variable {K : PySem.W.Frag} {H H' : Hp} {n : Nat} {v v1 v2 pl : V}
theorem Row.ext {p : Addr} (e : ExtN H H') (h : Row K H p) : Row K H' p := by
  obtain ⟨a, ns, i, r, c, h⟩ := h
  refine ⟨a, ns, i, r, c, e _ _ h.at_ (fun ps z => nomatch z), ?_, h.pos⟩
  rcases h.fz with ⟨o, z⟩ | z
  · exact .inl ⟨o, e _ _ z (fun ps z => nomatch z)⟩
  · exact .inr z
theorem Sw.ext (e : ExtN H H') (h : Sw K H v) : Sw K H' v := by
  cases h with
  | int i => exact .int i
  | bl bb => exact .bl bb
  | non => exact .non
  | str z => exact .str z
  | tup h => exact .tup (extN_tups e _ _ h)
  | @lst a xs h =>
    refine .lst (xs := xs) ?_
    rcases h with (h | ⟨o, h⟩) | h
    · exact .inl (.inl (e _ _ h (fun ps z => nomatch z)))
    · exact .inl (.inr ⟨o, e _ _ h (fun ps z => nomatch z)⟩)
    · exact .inr h
theorem Tk.ext {wo : Option (List V)} (e : ExtN H H') (h : Tk K H v wo) : Tk K H' v wo := by
  cases h with
  | int i => exact .int i
  | bl bb => exact .bl bb
  | non => exact .non
  | str z => exact .str z
  | tup h => exact .tup (extN_tups e _ _ h)
  | dct h => exact .dct (e _ _ h (fun ps z => nomatch z))
  | @lst a xs h =>
    refine .lst (xs := xs) ?_
    rcases h with (h | ⟨o, h⟩) | h
    · exact .inl (.inl (e _ _ h (fun ps z => nomatch z)))
    · exact .inl (.inr ⟨o, e _ _ h (fun ps z => nomatch z)⟩)
    · exact .inr h
theorem Wd.ext {wo : Option (List V)} (e : ExtN H H') (h : Wd K H v wo) : Wd K H' v wo := ⟨h.t.ext e, fun xs z x hm => (h.s xs z x hm).ext e, h.l⟩
theorem Hk.ext {ho : Option (List (Option (List V)))} (e : ExtN H H') (h : Hk K H v ho) : Hk K H' v ho := by
  cases h with
  | tup h hx => exact .tup (extN_tups e _ _ h) (hx.imp fun v d z => z.ext e)
  | no h => exact .no (h.ext e)
theorem Hs.ext {ho : Option (List HO1)} (e : ExtN H H') (h : Hs K H v ho) : Hs K H' v ho := by
  cases h with
  | tup h hx => exact .tup (extN_tups e _ _ h) (hx.imp fun v d z => z.ext e)
  | no h => exact .no (h.ext e)
theorem same_ext (e : Same H H') : ExtN H H' := fun b o q _ => e b o q
theorem inV2_n : inV2 0 ((n : Int) - 1) (.int (n : Int)) = false := by
  show (decide ((0 : Int) ≤ (n : Int)) && decide ((n : Int) ≤ (n : Int) - 1)) = false
  rw [decide_eq_false (p := (n : Int) ≤ (n : Int) - 1) (by omega), Bool.and_false]
theorem hab_ok {h : List (List Int)} (hb : Hb n h) : habW (some (h.map fun ns => some (ns.map V.int))) = true := by
  unfold habW
  dsimp only
  rw [List.length_map, hb.len, decide_eq_true hb.lo, decide_eq_true hb.hi]
  show (List.all _ _) = true
  rw [List.all_eq_true]
  · intro wo hm
    obtain ⟨ns, hn, rfl⟩ := List.mem_map.mp hm
    exact lay_ok (hb.perm ns hn)
theorem len_ok {h : List (List Int)} (hb : Hb n h) : lenH (some (h.map fun ns => some (ns.map V.int))) = n := by
  show (h.map _).length = n
  rw [List.length_map, hb.len]
/-- the row and the habit -/
structure St (K : PySem.W.Frag) (T : List (Addr × Str)) (H : Hp) (p : Addr) (vH : V) (n : Nat) (h : List (List Int)) : Prop where
  row : Row K H p
  hT : TII K H vH h
  hb : Hb n h
  n4 : n ≤ 4
  tb : Tabs T H
variable {T : List (Addr × Str)} {p : Addr} {vH : V} {h : List (List Int)}
theorem St.ext (S : St K T H p vH n h) (e : ExtN H H') (t : Tabs T H') : St K T H' p vH n h := ⟨S.row.ext e, S.hT.on (extN_tups e), S.hb, S.n4, t⟩
theorem St.same (S : St K T H p vH n h) (e : Same H H') : St K T H' p vH n h := S.ext (same_ext e) (S.tb.ext fun b o q => e b o q)
theorem St.but (S : St K T H p vH n h) (e : But p H H') (r : Row K H' p) : St K T H' p vH n h := ⟨r, S.hT.on (S.row.fix e).tups, S.hb, S.n4, (S.row.fix e).tabs S.tb⟩
theorem St.hk (S : St K T H p vH n h) : ∃ ho : HO1, Hk K H vH ho ∧ habW ho = true ∧ lenH ho = n := ⟨_, hk_of S.hT S.hb, hab_ok S.hb, len_ok S.hb⟩
theorem St.neq (S : St K T H p vH n h) {l : Addr} (hl : H l = none) : l ≠ p := by
  obtain ⟨rs, hrs⟩ := S.row.lst
  exact (ne_of_none hrs hl).symm
end
end RH
set_option Elab.async false
set_option linter.all false
set_option maxRecDepth 100000
set_option maxHeartbeats 2000000
namespace RH
open PySem PySem.Spec PyProof.Rows L2
open NdefX (NScope CellsAt Caps slotAt slotAt_of cells_of startF ncx)
open LamX (Tabs TabS TabB ExtN CodeO codeO_ne)
/-! ### what is none -/
theorem catT_ok {K : PySem.W.Frag} {H : Hp} {a b : Addr} {xs ys : List V} {Q : VK} (ha : SqT K H a xs) (hb : SqT K H b ys) (hl : xs.length + ys.length ≤ 1000) (q : ∀ r H', Same H H' → SqT K H' r (xs ++ ys) → Q (.ref r) H') : rCatA K (.ref a) (.ref b) H Q := by
  refine ⟨a, b, xs, ys, rfl, rfl, ha, hb, Nat.le_of_lt (small1000 hl), fun e => ?_, fun _ e => ?_, fun _ _ p hp => q p _ (same_new hp) (tupAt upd_same)⟩
  · subst e
    exact q b H (Same.refl H) hb
  · subst e
    exact q a H (Same.refl H) (by rw [List.append_nil]; exact ha)
theorem bad_fst {ho1 ho2 : HO1} (h : habW ho1 = false) : hsBad (some [ho1, ho2]) = some (.int 0) := by
  unfold hsBad
  dsimp only
  rw [if_pos (by rfl)]
  have : [ho1, ho2].findIdx? (badI (lenH ho1)) = some 0 := by
    rw [List.findIdx?_cons]
    have : badI (lenH ho1) ho1 = true := by
      unfold badI
      rw [h]
      rfl
    rw [this]
    rfl
  have e : ([ho1, ho2] : List HO1).headD none = ho1 := rfl
  rw [e, this]
  rfl
theorem bad_snd {ho1 ho2 : HO1} (h1 : habW ho1 = true) (h : badI (lenH ho1) ho2 = true) : hsBad (some [ho1, ho2]) = some (.int 1) := by
  unfold hsBad
  dsimp only
  rw [if_pos (by rfl)]
  have : [ho1, ho2].findIdx? (badI (lenH ho1)) = some 1 := by
    rw [List.findIdx?_cons]
    have : badI (lenH ho1) ho1 = false := by
      unfold badI
      rw [h1, decide_eq_true rfl]
      rfl
    rw [this, List.findIdx?_cons, h]
    rfl
  have e : ([ho1, ho2] : List HO1).headD none = ho1 := rfl
  rw [e, this]
  rfl
theorem both_good {ho : HO1} (h1 : habW ho = true) : hsBad (some [ho, ho]) = none := by
  unfold hsBad
  dsimp only
  rw [if_pos (by rfl)]
  have : [ho, ho].findIdx? (badI (lenH ho)) = none := by
    rw [List.findIdx?_eq_none_iff]
    intro x hx
    have : x = ho := by simpa using hx
    rw [this]
    unfold badI
    rw [h1, decide_eq_true rfl]
    rfl
  have e : ([ho, ho] : List HO1).headD none = ho := rfl
  rw [e, this]
  rfl
theorem bad_no {n : Nat} {ho : HO1} (h : habW ho = false) : badI n ho = true := by
  unfold badI
  rw [h]
  rfl
theorem bad_len {n : Nat} {ho : HO1} (h : lenH ho ≠ n) : badI n ho = true := by
  unfold badI
  rw [decide_eq_false h, Bool.or_comm]
  rfl
section
variable {K : PySem.W.Frag} {H H' : Hp} {n : Nat} {v pl : V}
theorem each_wd {xs : List V} {h : List (List Int)} (hE : Each (TI K H) xs h) (hb : Hb n h) : Each (Wd K H) xs (h.map fun ns => some (ns.map V.int)) := by
  have hp := hb.perm
  have hi := hb.hi
  clear hb
  induction hE with
  | nil => exact .nil
  | @cons x ns xs h hx hE ih =>
    obtain ⟨b, rfl, hB⟩ := hx
    refine .cons (wd_ints hB ?_) (ih fun ns hm => hp ns (List.mem_cons_of_mem _ hm))
    rw [perm_len (hp ns (List.mem_cons_self ..))]
    omega
/-- no habit -/
def NoHb (K : PySem.W.Frag) (H : Hp) (v : V) : Prop := ∃ ho : HO1, Hk K H v ho ∧ habW ho = false
theorem NoHb.ext (e : ExtN H H') (h : NoHb K H v) : NoHb K H' v := by
  obtain ⟨ho, a, b⟩ := h
  exact ⟨ho, a.ext e, b⟩
theorem NoHb.on (e : Same H H') (h : NoHb K H v) : NoHb K H' v := h.ext (same_ext e)
theorem NoHb.but {p : Addr} (B : But p H H') (R : Row K H p) (R' : Row K H' p) (h : NoHb K H v) : NoHb K H' v := by
  obtain ⟨ho, a, b⟩ := h
  exact ⟨ho, a.but B R R', b⟩
theorem NoHb.no (h : Tk K H v none) : NoHb K H v := ⟨none, .no h, rfl⟩
theorem NoHb.last {r : Addr} {xs : List V} {h : List (List Int)} (hE : Each (TI K H) xs h) (hb : Hb n h) (hr : SqT K H r (xs.drop 1 ++ [.non])) : NoHb K H (.ref r) := by
  refine ⟨some (((h.map fun ns => some (ns.map V.int)).drop 1) ++ [none]), .tup hr (((each_wd hE hb).drop 1).app (.cons ⟨.non, (fun _ z => nomatch z), (fun _ z => nomatch z)⟩ .nil)), ?_⟩
  unfold habW
  dsimp only
  rw [List.all_append]
  have : ∀ m, List.all [(none : Option (List V))] (layW m) = false := fun m => rfl
  rw [this, Bool.and_false, Bool.and_false]
theorem NoHb.one {r a : Addr} {xs : List V} {h : List (List Int)} (hr : SqT K H r [.ref a]) (hS : SqT K H a xs) (hE : Each (TI K H) xs h) (hb : Hb n h) : NoHb K H (.ref r) := by
  refine ⟨some [some xs], .tup hr (.cons ⟨.tup hS, fun xs' z x hm => ?_, fun xs' z => ?_⟩ .nil), rfl⟩
  · cases z
    obtain ⟨i, hi⟩ := List.mem_iff_getElem?.mp hm
    obtain ⟨ns, _, b, rfl, hB⟩ := hE.at hi
    exact .tup hB
  · cases z
    have := hE.len
    have := hb.len
    have := hb.hi
    omega
/-- no lot -/
def NoT (K : PySem.W.Frag) (H : Hp) (n : Nat) (v : V) : Prop := ∃ wo, Wd K H v wo ∧ lotW n wo = false
theorem NoT.ext (e : ExtN H H') (h : NoT K H n v) : NoT K H' n v := by
  obtain ⟨ho, a, b⟩ := h
  exact ⟨ho, a.ext e, b⟩
theorem NoT.on (e : Same H H') (h : NoT K H n v) : NoT K H' n v := h.ext (same_ext e)
theorem NoT.but {p : Addr} (B : But p H H') (R : Row K H p) (R' : Row K H' p) (h : NoT K H n v) : NoT K H' n v := by
  obtain ⟨ho, a, b⟩ := h
  exact ⟨ho, a.but B R R', b⟩
theorem NoT.no (h : Tk K H v none) : NoT K H n v := ⟨none, ⟨h, (fun _ z => nomatch z), (fun _ z => nomatch z)⟩, rfl⟩
theorem wd_sw {a : Addr} {xs : List V} (h : SqT K H a xs) (hs : ∀ x ∈ xs, Sw K H x) (hl : xs.length < 64) : Wd K H (.ref a) (some xs) := ⟨.tup h, fun ys z x hm => by cases z; exact hs x hm, fun ys z => by cases z; exact hl⟩
theorem wd_one {a : Addr} {x : V} (h : SqT K H a [x]) (hs : Sw K H x) : Wd K H (.ref a) (some [x]) := wd_sw h (fun y hy => by rw [List.mem_singleton.mp hy]; exact hs) (by show 1 < 64; decide)
theorem NoT.one {a : Addr} {x : V} (h : SqT K H a [x]) (hs : Sw K H x) (bad : inV2 0 ((n : Int) - 1) x = false) : NoT K H n (.ref a) := by
  refine ⟨some [x], wd_one h hs, ?_⟩
  have : plsW n (some [x]) = false := by
    show ([x].all (inV2 0 ((n : Int) - 1))) = false
    rw [List.all_cons, bad, Bool.false_and]
  unfold lotW
  rw [this, Bool.and_false, Bool.false_and]
theorem NoT.two {a : Addr} {i j : Int} (h : SqT K H a [.int i, .int j]) (bad : risI [i, j] = false) : NoT K H n (.ref a) := by
  refine ⟨some [.int i, .int j], wd_ints (ns := [i, j]) h (by show 2 < 64; decide), ?_⟩
  show (_ && risI [i, j]) = false
  rw [bad, Bool.and_false]
theorem NoT.nil {a : Addr} (h : SqT K H a []) : NoT K H n (.ref a) := ⟨some [], wd_sw h (fun y hy => by cases hy) (by decide), rfl⟩
/-- no place of (0,), no word of (0,), no answer -/
def NoS (K : PySem.W.Frag) (H : Hp) (n : Nat) (v : V) : Prop := Sw K H v ∧ ofl (n : Int) [0] v = false
theorem NoS.ext (e : ExtN H H') (h : NoS K H n v) : NoS K H' n v := ⟨h.1.ext e, h.2⟩
theorem NoS.on (e : Same H H') (h : NoS K H n v) : NoS K H' n v := h.ext (same_ext e)
theorem NoS.but {p : Addr} (B : But p H H') (R : Row K H p) (R' : Row K H' p) (h : NoS K H n v) : NoS K H' n v := ⟨h.1.but B R R', h.2⟩
theorem NoS.big : NoS K H n (.int (n : Int)) := by
  refine ⟨.int _, ?_⟩
  show (decide ((0 : Int) ≤ (n : Int)) && decide ((n : Int) ≤ (n : Int) - 1) && decide ((n : Int) ∈ ([0] : List Int))) = false
  rw [decide_eq_false (p := (n : Int) ≤ (n : Int) - 1) (by omega), Bool.and_false, Bool.false_and]
theorem NoS.int {i : Int} (h : i ≠ 0) : NoS K H n (.int i) := by
  refine ⟨.int _, ?_⟩
  show (decide (0 ≤ i) && decide (i ≤ (n : Int) - 1) && decide (i ∈ ([0] : List Int))) = false
  rw [decide_eq_false (p := i ∈ ([0] : List Int)) (by simpa using h), Bool.and_false]
def NoWd (K : PySem.W.Frag) (H : Hp) (n : Nat) (v : V) : Prop := ∃ wo, Wd K H v wo ∧ (plsW (n : Int) wo && wlB [0] wo) = false
theorem NoWd.ext (e : ExtN H H') (h : NoWd K H n v) : NoWd K H' n v := by
  obtain ⟨ho, a, b⟩ := h
  exact ⟨ho, a.ext e, b⟩
theorem NoWd.on (e : Same H H') (h : NoWd K H n v) : NoWd K H' n v := h.ext (same_ext e)
theorem NoWd.but {p : Addr} (B : But p H H') (R : Row K H p) (R' : Row K H' p) (h : NoWd K H n v) : NoWd K H' n v := by
  obtain ⟨ho, a, b⟩ := h
  exact ⟨ho, a.but B R R', b⟩
theorem NoWd.no (h : Tk K H v none) : NoWd K H n v := ⟨none, ⟨h, (fun _ z => nomatch z), (fun _ z => nomatch z)⟩, rfl⟩
theorem NoWd.one {a : Addr} {x : V} (h : SqT K H a [x]) (hs : Sw K H x) (bad : inV2 0 ((n : Int) - 1) x = false ∨ valI x ≠ 0) : NoWd K H n (.ref a) := by
  refine ⟨some [x], wd_one h hs, ?_⟩
  rcases bad with bad | bad
  · have : plsW n (some [x]) = false := by
      show ([x].all (inV2 0 ((n : Int) - 1))) = false
      rw [List.all_cons, bad, Bool.false_and]
    rw [this, Bool.false_and]
  · have : wlB [0] (some [x]) = false := by
      show ([x].all fun v => decide (valI v ∈ ([0] : List Int))) = false
      rw [List.all_cons, decide_eq_false (by simpa using bad), Bool.false_and]
    rw [this, Bool.and_false]
def NoA (K : PySem.W.Frag) (H : Hp) (v : V) : Prop := Sw K H v ∧ isB v = false
theorem NoA.ext (e : ExtN H H') (h : NoA K H v) : NoA K H' v := ⟨h.1.ext e, h.2⟩
theorem NoA.on (e : Same H H') (h : NoA K H v) : NoA K H' v := h.ext (same_ext e)
theorem NoA.but {p : Addr} (B : But p H H') (R : Row K H p) (R' : Row K H' p) (h : NoA K H v) : NoA K H' v := ⟨h.1.but B R R', h.2⟩
theorem lot0 (h2 : 2 ≤ n) (h4 : n ≤ 4) : lotW n (some [.int 0]) = true := by
  have : n = 2 ∨ n = 3 ∨ n = 4 := by omega
  rcases this with rfl | rfl | rfl <;> decide +kernel
theorem ofl0 (h2 : 2 ≤ n) : ofl (n : Int) [0] (.int 0) = true := by
  show (decide ((0 : Int) ≤ 0) && decide ((0 : Int) ≤ (n : Int) - 1) && decide ((0 : Int) ∈ ([0] : List Int))) = true
  rw [decide_eq_true (p := (0 : Int) ≤ (n : Int) - 1) (by omega)]
  rfl
theorem tst_pl {wo : Option (List V)} {r : V} (h : ofl (n : Int) [0] v = false) : tstW (n : Int) [0] v wo r = false := by
  unfold tstW
  rw [h, Bool.false_and, Bool.false_and, Bool.false_and]
theorem tst_rd {wo : Option (List V)} {a : V} (h : ofl (n : Int) [0] v = false) : tstW (n : Int) [0] a wo v = false := by
  unfold tstW
  rw [h, Bool.and_false, Bool.false_and, Bool.false_and]
theorem tst_wd {wo : Option (List V)} {a r : V} (h : (plsW (n : Int) wo && wlB [0] wo) = false) : tstW (n : Int) [0] a wo r = false := by
  unfold tstW
  rw [Bool.and_assoc, h, Bool.and_false]
theorem tst_ok (h2 : 2 ≤ n) : tstW (n : Int) [0] (.int 0) (some []) (.int 0) = true := by
  unfold tstW
  rw [ofl0 h2]
  rfl
end
section
variable {K : PySem.W.Frag} {Ch Cp Ca : Addr} {H : Hp} {cl : CL} {v lv pl wv rd mk p : V} {ho : Option (List HO1)} {h0 : HO1} {w2 wo : Option (List V)} {ns : List Int} {Q : VK} {E : XK}
theorem lf_h (s : Stand cl H) (h : Hs K H v ho) (hp : hsBad ho = some p) (e : bhE Ch p (era cl H) E) : spLeftX K Ch Cp Ca [v, lv, pl, wv, rd, mk] (era cl H) Q E := ⟨v, lv, pl, wv, rd, mk, rfl, .inl ⟨ho, p, h.era s, hp, e⟩⟩
theorem lf_l (s : Stand cl H) (h : Hs K H v (some [h0])) (hb : habW h0 = true) (hw : Wd K H lv w2) (hl : lotW (lenH h0) w2 = false) (e : noE Cp (era cl H) E) : spLeftX K Ch Cp Ca [v, lv, pl, wv, rd, mk] (era cl H) Q E := ⟨v, lv, pl, wv, rd, mk, rfl, .inr ⟨h0, h.era s, hb, .inl ⟨w2, hw.era s, hl, e⟩⟩⟩
theorem lf_t (s : Stand cl H) (h : Hs K H v (some [h0])) (hb : habW h0 = true) (hw : Wd K H lv w2) (hl : lotW (lenH h0) w2 = true) (hT : TI K H lv ns) (h1 : Sw K H pl) (h2 : Sw K H rd) (h3 : Wd K H wv wo) (bad : tstW (lenH h0) ns pl wo rd = false) (e : noE Cp (era cl H) E) : spLeftX K Ch Cp Ca [v, lv, pl, wv, rd, mk] (era cl H) Q E :=
  ⟨v, lv, pl, wv, rd, mk, rfl, .inr ⟨h0, h.era s, hb, .inr ⟨w2, ns, wo, hw.era s, hl, TI.era s hT, h1.era s, h2.era s, h3.era s, .inl ⟨bad, e⟩⟩⟩⟩
theorem lf_a (s : Stand cl H) (h : Hs K H v (some [h0])) (hb : habW h0 = true) (hw : Wd K H lv w2) (hl : lotW (lenH h0) w2 = true) (hT : TI K H lv ns) (h1 : Sw K H pl) (h2 : Sw K H rd) (h3 : Wd K H wv wo) (good : tstW (lenH h0) ns pl wo rd = true) (hm : Sw K H mk) (bad : isB mk = false) (e : noE Ca (era cl H) E) : spLeftX K Ch Cp Ca [v, lv, pl, wv, rd, mk] (era cl H) Q E :=
  ⟨v, lv, pl, wv, rd, mk, rfl, .inr ⟨h0, h.era s, hb, .inr ⟨w2, ns, wo, hw.era s, hl, TI.era s hT, h1.era s, h2.era s, h3.era s, .inr ⟨good, hm.era s, bad, e⟩⟩⟩⟩
/-- at a statement's end: what the names hold -/
def GS (K : PySem.W.Frag) (T : List (Addr × Str)) (a0 : Addr) (R : Addr → Nat → Hp → List (Option V) → Prop) (σ : L2.St) (H : Hp) : Prop := ∃ (p : Addr) (n : Nat) (vH : V) (h : List (List Int)) (y4 y5 y6 y7 y8 : Option V),
  σ = [some (.ref a0), some (.ref p), some (.int (n : Int)), some vH, y4, y5, y6, y7, y8, none] ∧ St K T H p vH n h ∧ R p n H [y4, y5, y6, y7, y8]
end
/-! ### lists of what is refused -/
section
variable {P : Program} {w : World} {K : PySem.W.Frag} {mg : Str → Option Value} {base : Heap} {Cb : Addr}
theorem dp_rep {H : Hp} {d : PyData} : ∀ {ys : List V}, (∀ y ∈ ys, Dp K H y d) → DpAll K H ys (List.replicate ys.length d)
  | [], _ => .nil
  | y :: ys, h => .cons (h y (List.mem_cons_self ..)) (dp_rep fun z hz => h z (List.mem_cons_of_mem _ hz))
theorem lc_ref {y0 y1 y2 y3 y4 y5 y6 y7 y8 : Option V} {H1 : Hp} {D lst : Addr} {xs : List V} {Qd : Hp → Prop} (G : Hp → V → Prop) (mono : ∀ H H' v, Fix H H' → G H v → G H' v) (hl : SqL K H1 lst xs) (hm : xs.length ≤ 1000) (hD : H1 D = none)
    (each : ∀ (i : Nat) (x : V) (H' : Hp), xs[i]? = some x → Same H1 H' → ∀ (Q : VK) (Ex : XK), (∀ H3 y, Same H' H3 → G H3 y → Q y H3) → spRefused P w K mg base [x] H' Q Ex) (fin : ∀ H' ys, Same H1 H' → H' D = some (.lst ys) → ys.length = xs.length → (∀ y ∈ ys, G H' y) → Qd H') :
    ∃ W : Nat → Nat → Hp → Prop, (∃ m, W 0 m (upd H1 D (.lst []))) ∧ ∀ i m H, W i m H → ((Itl K lst).stop i H ∧ Qd H) ∨ ((Itl K lst).go i H ∧ ∃ Nx : Hp → Prop, (∀ H', Nx H' → ∃ m', m' < m ∧ W (i + 1) m' H') ∧
      ∀ x H', (Itl K lst).yld i H x H' → gName 9 x (wipe [y0, y1, y2, y3, y4, y5, y6, y7, y8, none] ([9] : List Nat)) H' fun σ2 H2 => wipe σ2 ([9] : List Nat) = wipe [y0, y1, y2, y3, y4, y5, y6, y7, y8, none] ([9] : List Nat) ∧
        tYes σ2 H2 fun b H3 => if b = true then (tCall (spRefused P w K mg base) [] E0 (tCons (tVar 9) tNil)) σ2 H3 fun y H4 => ∃ acc, H4 D = some (.lst acc) ∧ acc.length < sizeLine ∧ Nx (upd H4 D (.lst (acc ++ [y]))) else Nx H3) := by
  refine lc_list (xs := xs) (fun i H' => Same H1 H' ∧ ∃ ys, H' D = some (.lst ys) ∧ ys.length = i ∧ i ≤ xs.length ∧ ∀ y ∈ ys, G H' y) ⟨same_new hD, [], upd_same, rfl, Nat.zero_le _, fun y hy => by cases hy⟩ (fun i H' _ h' => h'.1.seq hl) (fun i x H' hx h' => ?_) (fun H' h' => ?_)
  · obtain ⟨sm, ys, eD, len, _, all⟩ := h'
    have hi := (List.getElem?_eq_some_iff.mp hx).1
    refine ⟨rfl, _, rfl, ?_⟩
    have r := each i x H' hx sm (fun y H4 => ∃ acc, H4 D = some (.lst acc) ∧ acc.length < sizeLine ∧ Same H1 (upd H4 D (.lst (acc ++ [y]))) ∧ ∃ ys, upd H4 D (.lst (acc ++ [y])) D = some (.lst ys) ∧ ys.length = i + 1 ∧ i + 1 ≤ xs.length ∧ ∀ z ∈ ys, G (upd H4 D (.lst (acc ++ [y]))) z) E0 ?_
    · exact r
    refine (fun H3 y s3 g => ⟨ys, s3 _ _ eD, small1000 (by omega), ?_, ys ++ [y], upd_same, by rw [List.length_append, len]; rfl, by omega, fun z hz => ?_⟩)
    · intro b o e
      rw [upd_ne (ne_of_none e hD)]
      exact s3 _ _ (sm _ _ e)
    · have fx : Fix H3 (upd H3 D (.lst (ys ++ [y]))) := Fix.lst (s3 _ _ eD)
      rcases List.mem_append.mp hz with hz | hz
      · exact mono _ _ _ ((Fix.same s3).trans fx) (all z hz)
      · rw [List.mem_singleton.mp hz]
        exact mono _ _ _ fx g
  · obtain ⟨sm, ys, eD, len, _, all⟩ := h'
    exact fin H' ys sm eD len all
theorem LamAt.same {lam : Expr} {fr : List Str} {ws : List V} {l : CL} {f : Addr} {H H' : Hp} (L : LamAt lam fr ws l f H) (e : Same H H') : LamAt lam fr ws l f H' := by
  obtain ⟨q, cl, c, live, cap⟩ := L.ex
  exact ⟨q, cl, c, live.same e, cap⟩
/-- a refused lambda tells the word of its error -/
theorem ref_word {H' : Hp} {f E : Addr} {b : Nat} {z : Str} {Q : VK} {Ex : XK} (hz : wordAt b = z) (hb : b ≠ 0) (k : Knd K mg E b) (r : Ready P w K mg base 10 f H' (okN E H')) (hq : ∀ H3 y, Same H' H3 → y = .str z → Q y H3) : spRefused P w K mg base [.ref f] H' Q Ex :=
  ⟨f, E, b, rfl, k, .inl ⟨hb, r, fun H3 s => by rw [hz]; exact hq H3 _ s rfl⟩⟩
/-- a list of the same words -/
theorem word_data (m : Nat) (z : Str) (h : SeqAt.shaped (.list (List.replicate m (.str z))) = true ∧ PyData.eqv (.list (List.replicate m (.str z))) (.list (List.replicate m (.str z))) = true) {H : Hp} {D l2 : Addr} {ys zs : List V} (eD : SqL K H D ys) (len : ys.length = m) (all : ∀ y ∈ ys, y = .str z) (el : SqL K H l2 zs) (len2 : zs.length = m) (all2 : ∀ y ∈ zs, y = .str z) :
    ∃ d, Dp K H (.ref D) d ∧ Dp K H (.ref l2) d ∧ SeqAt.shaped d = true ∧ PyData.eqv d d = true := by
  refine ⟨.list (List.replicate m (.str z)), .lst eD ?_, .lst el ?_, h.1, h.2⟩
  · have := dp_rep (K := K) (H := H) (d := .str z) (ys := ys) fun y hy => by rw [all y hy]; exact .str z
    rwa [len] at this
  · have := dp_rep (K := K) (H := H) (d := .str z) (ys := zs) fun y hy => by rw [all2 y hy]; exact .str z
    rwa [len2] at this
/-- a list of the same pairs -/
theorem pair_data {i : Int} (hi : i = 0 ∨ i = 1) {H : Hp} {D l2 : Addr} {ys zs : List V} (eD : SqL K H D ys) (len : ys.length = 4) (all : ∀ y ∈ ys, ∃ t, y = .ref t ∧ SqT K H t [.str "habits", .int i]) (el : SqL K H l2 zs) (len2 : zs.length = 4) (all2 : ∀ y ∈ zs, ∃ t, y = .ref t ∧ SqT K H t [.str "habits", .int i]) :
    ∃ d, Dp K H (.ref D) d ∧ Dp K H (.ref l2) d ∧ SeqAt.shaped d = true ∧ PyData.eqv d d = true := by
  have dpt : ∀ {t : Addr}, SqT K H t [.str "habits", .int i] → Dp K H (.ref t) (.tuple [.str "habits", .int i]) := fun z => .tup z (.cons (.str _) (.cons (.int _) .nil))
  have a1 := dp_rep (K := K) (H := H) (d := .tuple [.str "habits", .int i]) (ys := ys) fun y hy => (show Dp K H y _ from by
    obtain ⟨t', rfl, z⟩ := all y hy
    exact dpt z)
  have a2 := dp_rep (K := K) (H := H) (d := .tuple [.str "habits", .int i]) (ys := zs) fun y hy => (show Dp K H y _ from by
    obtain ⟨t', rfl, z⟩ := all2 y hy
    exact dpt z)
  rw [len] at a1
  rw [len2] at a2
  refine ⟨.list (List.replicate 4 (.tuple [.str "habits", .int i])), .lst eD a1, .lst el a2, ?_, ?_⟩
  · rcases hi with rfl | rfl <;> decide +kernel
  · rcases hi with rfl | rfl <;> decide +kernel
end
end RH
set_option Elab.async false
set_option linter.all false
set_option maxRecDepth 100000
set_option maxHeartbeats 2000000
namespace RH
open PySem PySem.Spec PyProof.Rows L2
open NdefX (NScope CellsAt Caps slotAt slotAt_of cells_of startF ncx)
open LamX (Tabs TabS TabB ExtN CodeO codeO_ne)
/-- a statement's way on, as the reading tells it -/
theorem ps_cutR {X : Cx} {st : Stmt} {t : TS} (h : PS X st t) : PS X st (fun D σ H => ∃ G : L2.St → Hp → Prop, (∀ σ' H', G σ' H' → D.nx σ' H') ∧ t { D with nx := G } σ H) := by
  refine ⟨fun pins s σ H D I hw => ?_⟩
  obtain ⟨G, hG, hw⟩ := hw
  refine thn (h.run pins s σ H { D with nx := G } I hw) fun fl s1 q => ?_
  cases fl with
  | next =>
    obtain ⟨σ', H', I', q⟩ := q
    exact ⟨σ', H', I', hG _ _ q⟩
  | ret v => exact q
  | brk => exact q
  | cont => exact q
section
variable {P : Program} {w : World} {K : PySem.W.Frag} {mg : Str → Option Value} {base : Heap} {Ch Cp Ca : Addr}
abbrev NL16 : List Str := ["script", "row", "places", "habit", "bad", "lot", "spot", "word", "answer", "work"]
def tabsL (P1 P2 : Addr) : List (Addr × Str) := [(P1, lamQ "_law_works"), (P2, lamQ "_law_lefts")]
def spLaw (K : PySem.W.Frag) (T : List (Addr × Str)) : Sp := fun vs H Q _ => ∃ (a : Addr) (ns : List Int), vs = [.ref a] ∧ Fz K H a (ns.map V.int) ∧ Tabs T H ∧ ∀ H', Q (.bl true) H'
theorem ok_law {P1 P2 : Addr} {f : Addr} {fd : FuncData} (F : Fun K "law" "law" st_law f fd) (B : Bu mg) (CT : Cal P w K mg base 1 "_law_taken" (spTaken K)) (CPk : Cal P w K mg base 2 "_law_pick" (spPick K)) (CH : Cal P w K mg base 3 "_law_habit" (spHabit K))
    (CW : Cal P w K mg base 1 "_law_works" (spWorks (tabsL P1 P2))) (CF : Cal P w K mg base 1 "_law_lefts" (spLefts (tabsL P1 P2))) (CR : Cal P w K mg base 11 "_law_refused" (spRefused P w K mg base))
    (M1 : CalX P w K mg base 9 "test" (spTwo3 K Ch Cp)) (M2 : CalX P w K mg base 9 "shows_test" (spTwo4 K Ch Cp)) (M3 : CalX P w K mg base 9 "alike_paper" (spTwo3 K Ch Cp)) (M4 : CalX P w K mg base 9 "shows_alike" (spTwo4 K Ch Cp)) (ML : CalX P w K mg base 8 "habits_left" (spLeftX K Ch Cp Ca))
    (gB : mg "BadHabits" = some (.ref Ch)) (K0 : Knd K mg Ch 0) (K1 : Knd K mg Cp 1) (K2 : Knd K mg Ca 2) : FnOk P w K mg base CX0 12 f fd ["script"] (spLaw K (tabsL P1 P2)) := by
  refine F.ok sc_law (fun vs H Q E h => ?_) (fun cdv A outer s H vs Q E hr h => ?_)
  · obtain ⟨a, ns, rfl, _⟩ := h
    rfl
  · obtain ⟨a, scr, rfl, hZ, hTb, q⟩ := h
    refine ⟨_, PSs.nox (pss_cons (ps_set (i := 1) sc_law.nd rfl (.inl rfl) (pe_lst (pa_cons (pv 0) (pa_cons pe_int (pa_cons pe_int (pa_cons pe_int pa_nil))))))
      (pss_cons (ps_set (i := 2) sc_law.nd rfl (.inl rfl) (pe_op op_add pe_int (pc CT hr (pa_cons (pv 1) (pa_cons pe_int pa_nil)))))
      (pss_cons (ps_set (i := 3) sc_law.nd rfl (.inl rfl) (pc CH hr (pa_cons (pv 1) (pa_cons (pv 2) pa_nil))))
      (pss_cons (ps_cutR (ps_set (i := 4) sc_law.nd rfl (.inl rfl) (pc CPk hr (pa_cons (pv 1) (pa_cons (pe_lst (pa_cons pe_non (pa_cons (pe_callTy (cl_listOf K) (by rfl) B.list (by decide +kernel) (pa_cons (pv 3) pa_nil)) (pa_cons (pe_op op_catA (pe_slice sl_tupA (pv 3) (po_some pe_int) po_none) (pe_tup (pa_cons pe_non pa_nil))) (pa_cons pe_dnewK (pa_cons pe_int (pa_cons pe_str (pa_cons (pe_tup (pa_cons (pv 3) pa_nil)) pa_nil)))))))) pa_nil)))))
      (pss_cons (ps_cutR (ps_if (pt_cmpR (op_neD hr.units) (pe_lc (own := [("work", 9)]) (g := gName 9) (tt := tYes) rfl sc_law.nd (pi_list (pc CW hr (pa_cons (pv 4) (pa_cons pe_non (pa_cons pe_non pa_nil))))) (blkOk_by (N := NL16) (sc := defScope st_law) (by decide +kernel)) (fun _ _ _ _ _ => pg_name (i := 9) sc_law.nd rfl (Or.inl rfl)) (fun _ _ _ _ _ => pts_nil) (fun _ _ _ _ _ => (pc CR hr (pa_cons (pv 9) pa_nil))))
          (pe_op op_rep (pe_lst (pa_cons (pe_tup (pa_cons pe_str (pa_cons pe_int pa_nil))) pa_nil)) pe_int) (nomark _)) (pss_one (ps_ret pe_bl)) pss_nil))
      (pss_cons (ps_cutR (ps_if (pt_cmpR (op_neD hr.units) (pe_lc (own := [("work", 9)]) (g := gName 9) (tt := tYes) rfl sc_law.nd (pi_list (pc CW hr (pa_cons (pv 3) (pa_cons (pv 4) (pa_cons pe_non pa_nil))))) (blkOk_by (N := NL16) (sc := defScope st_law) (by decide +kernel)) (fun _ _ _ _ _ => pg_name (i := 9) sc_law.nd rfl (Or.inl rfl)) (fun _ _ _ _ _ => pts_nil) (fun _ _ _ _ _ => (pc CR hr (pa_cons (pv 9) pa_nil))))
          (pe_op op_rep (pe_lst (pa_cons (pe_tup (pa_cons pe_str (pa_cons pe_int pa_nil))) pa_nil)) pe_int) (nomark _)) (pss_one (ps_ret pe_bl)) pss_nil))
      (pss_cons (ps_cutR (ps_if (pt_cmpR (op_neD hr.units) (pe_lc (own := [("work", 9)]) (g := gName 9) (tt := tYes) rfl sc_law.nd (pi_list (pc CW hr (pa_cons (pv 3) (pa_cons (pc CH hr (pa_cons (pv 1) (pa_cons (pe_op op_add (pv 2) pe_int) pa_nil))) (pa_cons pe_non pa_nil))))) (blkOk_by (N := NL16) (sc := defScope st_law) (by decide +kernel)) (fun _ _ _ _ _ => pg_name (i := 9) sc_law.nd rfl (Or.inl rfl)) (fun _ _ _ _ _ => pts_nil) (fun _ _ _ _ _ => (pc CR hr (pa_cons (pv 9) pa_nil))))
          (pe_op op_rep (pe_lst (pa_cons (pe_tup (pa_cons pe_str (pa_cons pe_int pa_nil))) pa_nil)) pe_int) (nomark _)) (pss_one (ps_ret pe_bl)) pss_nil))
      (pss_cons (ps_cutR (ps_set (i := 5) sc_law.nd rfl (.inl rfl) (pc CPk hr (pa_cons (pv 1) (pa_cons (pe_lst (pa_cons pe_non (pa_cons (pe_tup pa_nil) (pa_cons (pe_lst (pa_cons pe_int pa_nil)) (pa_cons (pe_tup (pa_cons (pv 2) pa_nil)) (pa_cons (pe_tup (pa_cons pe_int (pa_cons pe_int pa_nil))) (pa_cons (pe_tup (pa_cons pe_int (pa_cons pe_int pa_nil))) (pa_cons (pe_tup (pa_cons pe_bl pa_nil)) (pa_cons (pe_tup (pa_cons pe_str pa_nil)) (pa_cons pe_int (pa_cons pe_dnewK (pa_cons (pe_tup (pa_cons (pe_op op_sub pe_int pe_int) pa_nil)) pa_nil)))))))))))) pa_nil)))))
      (pss_cons (ps_cutR (ps_if (pt_cmpR (op_neD hr.units) (pe_lc (own := [("work", 9)]) (g := gName 9) (tt := tYes) rfl sc_law.nd (pi_list (pc CW hr (pa_cons (pv 3) (pa_cons (pv 3) (pa_cons (pv 5) pa_nil))))) (blkOk_by (N := NL16) (sc := defScope st_law) (by decide +kernel)) (fun _ _ _ _ _ => pg_name (i := 9) sc_law.nd rfl (Or.inl rfl)) (fun _ _ _ _ _ => pts_nil) (fun _ _ _ _ _ => (pc CR hr (pa_cons (pv 9) pa_nil))))
          (pe_op op_rep (pe_lst (pa_cons pe_str pa_nil)) pe_int) (nomark _)) (pss_one (ps_ret pe_bl)) pss_nil))
      (pss_cons (ps_cutR (ps_if (pt_cmpR (op_neD hr.units) (pc CR hr (pa_cons (pe_ix ix_list (pc CF hr (pa_cons pe_non (pa_cons pe_non (pa_cons pe_non (pa_cons pe_non (pa_cons pe_non (pa_cons pe_non pa_nil))))))) pe_int (fun _ _ => rfl)) pa_nil)) (pe_tup (pa_cons pe_str (pa_cons pe_non pa_nil))) (nomark _)) (pss_one (ps_ret pe_bl)) pss_nil))
      (pss_cons (ps_cutR (ps_if (pt_cmpR op_ne (pc CR hr (pa_cons (pe_ix ix_list (pc CF hr (pa_cons (pe_tup (pa_cons (pv 3) pa_nil)) (pa_cons (pv 5) (pa_cons pe_non (pa_cons pe_non (pa_cons pe_non (pa_cons pe_non pa_nil))))))) pe_int (fun _ _ => rfl)) pa_nil)) pe_str (nomark _)) (pss_one (ps_ret pe_bl)) pss_nil))
      (pss_cons (ps_cutR (ps_set (i := 6) sc_law.nd rfl (.inl rfl) (pc CPk hr (pa_cons (pv 1) (pa_cons (pe_lst (pa_cons pe_non (pa_cons pe_bl (pa_cons (pv 2) (pa_cons pe_str (pa_cons (pe_op op_sub pe_int pe_int) (pa_cons pe_int pa_nil))))))) pa_nil)))))
      (pss_cons (ps_cutR (ps_if (pt_cmpR op_ne (pc CR hr (pa_cons (pe_ix ix_list (pc CF hr (pa_cons (pe_tup (pa_cons (pv 3) pa_nil)) (pa_cons (pe_tup (pa_cons pe_int pa_nil)) (pa_cons (pv 6) (pa_cons (pe_tup pa_nil) (pa_cons pe_int (pa_cons pe_bl pa_nil))))))) pe_int (fun _ _ => rfl)) pa_nil)) pe_str (nomark _)) (pss_one (ps_ret pe_bl)) pss_nil))
      (pss_cons (ps_cutR (ps_set (i := 7) sc_law.nd rfl (.inl rfl) (pc CPk hr (pa_cons (pv 1) (pa_cons (pe_lst (pa_cons pe_non (pa_cons (pe_lst (pa_cons pe_int pa_nil)) (pa_cons (pe_tup (pa_cons pe_int pa_nil)) (pa_cons (pe_tup (pa_cons pe_bl pa_nil)) (pa_cons pe_int pa_nil)))))) pa_nil)))))
      (pss_cons (ps_cutR (ps_if (pt_cmpR op_ne (pc CR hr (pa_cons (pe_ix ix_list (pc CF hr (pa_cons (pe_tup (pa_cons (pv 3) pa_nil)) (pa_cons (pe_tup (pa_cons pe_int pa_nil)) (pa_cons pe_int (pa_cons (pv 7) (pa_cons pe_int (pa_cons pe_bl pa_nil))))))) pe_int (fun _ _ => rfl)) pa_nil)) pe_str (nomark _)) (pss_one (ps_ret pe_bl)) pss_nil))
      (pss_cons (ps_cutR (ps_if (pt_cmpR op_ne (pc CR hr (pa_cons (pe_ix ix_list (pc CF hr (pa_cons (pe_tup (pa_cons (pv 3) pa_nil)) (pa_cons (pe_tup (pa_cons pe_int pa_nil)) (pa_cons pe_int (pa_cons (pe_tup pa_nil) (pa_cons (pv 6) (pa_cons pe_non pa_nil))))))) pe_int (fun _ _ => rfl)) pa_nil)) pe_str (nomark _)) (pss_one (ps_ret pe_bl)) pss_nil))
      (pss_cons (ps_cutR (ps_set (i := 8) sc_law.nd rfl (.inl rfl) (pc CPk hr (pa_cons (pv 1) (pa_cons (pe_lst (pa_cons pe_non (pa_cons pe_int (pa_cons pe_int (pa_cons pe_str (pa_cons (pe_tup pa_nil) pa_nil)))))) pa_nil)))))
      (pss_one (ps_ret (pe_cmpR op_eq (pc CR hr (pa_cons (pe_ix ix_list (pc CF hr (pa_cons (pe_tup (pa_cons (pv 3) pa_nil)) (pa_cons (pe_tup (pa_cons pe_int pa_nil)) (pa_cons pe_int (pa_cons (pe_tup pa_nil) (pa_cons pe_int (pa_cons (pv 8) pa_nil))))))) pe_int (fun _ _ => rfl)) pa_nil)) pe_str (nomark _))))))))))))))))))))), ?_⟩
    -- row, places, habit
    refine ⟨_, rfl, by show 4 ≤ sizeLine; decide, fun p hp => ?_⟩
    have hR1 : Row K (upd H p (.lst [.ref a, .int 0, .int 5016, .int 0])) p := ⟨a, scr, 0, 5016, 0, upd_same, hZ.on (Fix.same (same_new hp)), Int.le_refl _⟩
    have tb1 : Tabs (tabsL P1 P2) (upd H p (.lst [.ref a, .int 0, .int 5016, .int 0])) := hTb.ext fun b o e => same_new hp b o e
    refine ⟨_, rfl, p, 3, rfl, hR1, by decide, by decide, fun k H2 k0 k1 hB2 hR2 => ⟨2, k, rfl, rfl, ?_⟩⟩
    obtain ⟨n, hn⟩ : ∃ n : Nat, 2 + k = (n : Int) := ⟨(2 + k).toNat, by omega⟩
    show gName 2 (V.int (2 + k)) _ _ _
    rw [hn]
    have n2 : 2 ≤ n := by omega
    have n4 : n ≤ 4 := by omega
    have tb2 := (hR1.fix hB2).tabs tb1
    refine ⟨_, rfl, _, rfl, p, n, rfl, hR2, n2, by omega, fun H3 vH h hb hB3 hR3 hT3 => ?_⟩
    have S3 : St K (tabsL P1 P2) H3 p vH n h := ⟨hR3, hT3, hb, n4, (hR2.fix hB3).tabs tb2⟩
    -- what is no habit
    refine ⟨GS K (tabsL P1 P2) a (fun p n H ys => ∃ v, ys[0]? = some (some v) ∧ NoHb K H v), fun σ4 H4 g4 => ?_, ?_⟩
    case refine_2 =>
      obtain ⟨ah, xs, rfl, hS, hE⟩ := S3.hT
      have hxl : xs.length = n := hE.len.trans hb.len
      refine ⟨_, rfl, _, rfl, ah, xs, rfl, .inr hS, fun l1 hl1 => ⟨_, rfl, 1, rfl, ?_⟩⟩
      have s1 := same_new (o := .lst xs) hl1
      unfold tNoPart
      dsimp only
      refine slT_from 1 1 rfl (onT s1 hS) fun b1 H5 s2 h2 => ⟨by show 1 ≤ sizeLine; decide, fun t1 ht1 => ?_⟩
      have s3 := same_new (o := .tup [.non]) ht1
      refine catT_ok (onT s3 h2) (tupAt upd_same) (by rw [List.length_drop, List.length_singleton]; omega) fun r1 H6 s4 h4 => ?_
      intro d hd
      have s5 := same_new (o := .dK []) hd
      refine ⟨_, rfl, by show 1 ≤ sizeLine; decide, fun t2 ht2 => ⟨by show 7 ≤ sizeLine; decide, fun lo hlo => ?_⟩⟩
      have s6 := same_new (o := .tup [.ref ah]) ht2
      have s7 := same_new (o := .lst [.non, .ref l1, .ref r1, .ref d, .int 5, .str "habit", .ref t2]) hlo
      have s27 := s2.trans (s3.trans (s4.trans (s5.trans (s6.trans s7))))
      have s47 := s5.trans (s6.trans s7)
      have sB := s1.trans (s2.trans (s3.trans (s4.trans (s5.trans s6))))
      have sF := s1.trans s27
      have S7 := S3.same sF
      refine ⟨p, lo, _, rfl, S7.row, upd_same, (S3.same sB).neq hlo, by show 0 < 7; decide, by show 7 ≤ 1000; decide, fun iw wx H2 hwx hB2 hR2 => ?_⟩
      have hE' := hE.imp fun _ _ z => z.on (Same.tups sF)
      have nb : ∀ v ∈ [V.non, .ref l1, .ref r1, .ref d, .int 5, .str "habit", .ref t2], NoHb K _ v := fun v hv => by
        rcases List.mem_cons.mp hv with rfl | hv
        · exact .no .non
        rcases List.mem_cons.mp hv with rfl | hv
        · exact .no (.lst (lstAt (s27 _ _ upd_same)))
        rcases List.mem_cons.mp hv with rfl | hv
        · exact .last hE' hb (onT s47 h4)
        rcases List.mem_cons.mp hv with rfl | hv
        · exact .no (.dct ((s6.trans s7) _ _ upd_same))
        rcases List.mem_cons.mp hv with rfl | hv
        · exact .no (.int _)
        rcases List.mem_cons.mp hv with rfl | hv
        · exact .no (.str _)
        rw [List.mem_singleton.mp hv]
        exact .one (tupAt (s7 _ _ upd_same)) (onT sF hS) hE' hb
      exact ⟨p, n, _, h, _, _, _, _, _, rfl, S7.but hB2 hR2, wx, rfl, (nb wx (List.mem_of_getElem? hwx)).but hB2 S7.row hR2⟩
    clear S3 hT3 hR3 hB3 hR2 hB2 tb2 tb1 hR1 hn k0 k1 n2 n4 hb
    obtain ⟨p, n, vH, h, y4, y5, y6, y7, y8, rfl, S4, v, e4, nh⟩ := g4
    obtain rfl : y4 = some v := Option.some.inj e4
    refine ⟨GS K (tabsL P1 P2) a (fun p n H ys => ∃ v, ys[0]? = some (some v) ∧ NoHb K H v), fun σ5 H5 g5 => ?_, ?_⟩
    case refine_2 =>
      refine ⟨_, rfl, v, .non, .non, rfl, S4.tb, fun lst f1 f2 f3 f4 cl H1 ext tb1 hl st m1 m2 m3 m4 => ?_⟩
      have S1 := S4.ext ext tb1
      have nh1 := nh.ext ext
      refine ⟨lst, rfl, ⟨_, lstAt hl⟩, fun D hD => ?_⟩
      refine lc_ref (fun H v => ∃ t, v = .ref t ∧ SqT K H t [.str "habits", .int 0]) (fun H H' v f ⟨t, e, z⟩ => ⟨t, e, f.tups _ _ z⟩) (lstAt hl) (by show 4 ≤ 1000; decide) hD (fun i x H' hx sm Q Ex hq => ?_) (fun H' ys sm eD len all => ?_)
      · have st2 := st.same sm
        obtain ⟨ho, hk1, hb1⟩ := nh1.on sm
        match i, hx with
        | 0, hx =>
          cases Option.some.inj hx
          exact ⟨f1, Ch, 0, rfl, K0, .inr ⟨rfl, gB, .int 0, rdyB (lokW1 M1) (m1.same sm) (fun Q E e => ⟨v, .non, .non, rfl, two_h st2 hk1 (.no .non) (bad_fst hb1) e⟩), fun H3 t s3 ht => hq H3 _ s3 ⟨t, rfl, tupAt ht⟩⟩⟩
        | 1, hx =>
          cases Option.some.inj hx
          exact ⟨f2, Ch, 0, rfl, K0, .inr ⟨rfl, gB, .int 0, rdyB (lokW2 M2) (m2.same sm) (fun Q E e => ⟨v, .non, .non, .non, rfl, two_h st2 hk1 (.no .non) (bad_fst hb1) e⟩), fun H3 t s3 ht => hq H3 _ s3 ⟨t, rfl, tupAt ht⟩⟩⟩
        | 2, hx =>
          cases Option.some.inj hx
          exact ⟨f3, Ch, 0, rfl, K0, .inr ⟨rfl, gB, .int 0, rdyB (lokW3 M3) (m3.same sm) (fun Q E e => ⟨v, .non, .non, rfl, two_h st2 hk1 (.no .non) (bad_fst hb1) e⟩), fun H3 t s3 ht => hq H3 _ s3 ⟨t, rfl, tupAt ht⟩⟩⟩
        | 3, hx =>
          cases Option.some.inj hx
          exact ⟨f4, Ch, 0, rfl, K0, .inr ⟨rfl, gB, .int 0, rdyB (lokW4 M4) (m4.same sm) (fun Q E e => ⟨v, .non, .non, .non, rfl, two_h st2 hk1 (.no .non) (bad_fst hb1) e⟩), fun H3 t s3 ht => hq H3 _ s3 ⟨t, rfl, tupAt ht⟩⟩⟩
        | i + 4, hx => simp at hx
      · have S2 := S1.same sm
        refine ⟨by show 2 ≤ sizeLine; decide, fun t ht => ⟨by show 1 ≤ sizeLine; decide, fun l hl' => ?_⟩⟩
        have s3 := same_new (o := .tup [.str "habits", .int 0]) ht
        have s4 := same_new (o := .lst [.ref t]) hl'
        refine ⟨l, 4, [.ref t], rfl, rfl, upd_same, by decide, by decide, by show 1 * 4 ≤ sizeLine; decide +kernel, fun l2 hl2 => ?_⟩
        have s5 := same_new (o := .lst (List.replicate ((4 : Int)).toNat [V.ref t]).flatten) hl2
        have s35 := s3.trans (s4.trans s5)
        have ht2 := tupAt (K := K) ((s4.trans s5) _ _ (upd_same (a := t)))
        obtain ⟨d, d1, d2, sh, ee⟩ := pair_data (K := K) (i := 0) (.inl rfl) (lstAt (s35 _ _ eD)) len (fun y hy => (show ∃ t, y = .ref t ∧ SqT K _ t [.str "habits", .int 0] from by
          obtain ⟨t', e, z⟩ := all y hy
          exact ⟨t', e, onT s35 z⟩)) (zs := [V.ref t, V.ref t, V.ref t, V.ref t]) (lstAt (upd_same (a := l2))) rfl (fun y hy => ⟨t, by simpa using hy, ht2⟩)
        refine ⟨d, d, d1, d2, sh, sh, _, rfl, ifF (by rw [ee]; rfl) ?_⟩
        exact ⟨p, n, _, h, _, _, _, _, _, rfl, S2.same s35, v, rfl, (nh1.on sm).on s35⟩
    clear S4 nh e4
    obtain ⟨p, n, vH, h, y4, y5, y6, y7, y8, rfl, S5, v, e5, nh⟩ := g5
    obtain rfl : y4 = some v := Option.some.inj e5
    refine ⟨GS K (tabsL P1 P2) a (fun _ _ _ _ => True), fun σ6 H6 g6 => ?_, ?_⟩
    case refine_2 =>
      refine ⟨_, rfl, _, rfl, vH, v, .non, rfl, S5.tb, fun lst f1 f2 f3 f4 cl H1 ext tb1 hl st m1 m2 m3 m4 => ?_⟩
      have S1 := S5.ext ext tb1
      have nh1 := nh.ext ext
      refine ⟨lst, rfl, ⟨_, lstAt hl⟩, fun D hD => ?_⟩
      refine lc_ref (fun H v => ∃ t, v = .ref t ∧ SqT K H t [.str "habits", .int 1]) (fun H H' v f ⟨t, e, z⟩ => ⟨t, e, f.tups _ _ z⟩) (lstAt hl) (by show 4 ≤ 1000; decide) hD (fun i x H' hx sm Q Ex hq => ?_) (fun H' ys sm eD len all => ?_)
      · have st2 := st.same sm
        obtain ⟨ho, hk1, hb1⟩ := nh1.on sm
        obtain ⟨hh, hkh, hbh, hln⟩ := (S1.same sm).hk
        match i, hx with
        | 0, hx =>
          cases Option.some.inj hx
          exact ⟨f1, Ch, 0, rfl, K0, .inr ⟨rfl, gB, .int 1, rdyB (lokW1 M1) (m1.same sm) (fun Q E e => ⟨vH, v, .non, rfl, two_h st2 hkh hk1 (bad_snd hbh (bad_no hb1)) e⟩), fun H3 t s3 ht => hq H3 _ s3 ⟨t, rfl, tupAt ht⟩⟩⟩
        | 1, hx =>
          cases Option.some.inj hx
          exact ⟨f2, Ch, 0, rfl, K0, .inr ⟨rfl, gB, .int 1, rdyB (lokW2 M2) (m2.same sm) (fun Q E e => ⟨vH, v, .non, .non, rfl, two_h st2 hkh hk1 (bad_snd hbh (bad_no hb1)) e⟩), fun H3 t s3 ht => hq H3 _ s3 ⟨t, rfl, tupAt ht⟩⟩⟩
        | 2, hx =>
          cases Option.some.inj hx
          exact ⟨f3, Ch, 0, rfl, K0, .inr ⟨rfl, gB, .int 1, rdyB (lokW3 M3) (m3.same sm) (fun Q E e => ⟨vH, v, .non, rfl, two_h st2 hkh hk1 (bad_snd hbh (bad_no hb1)) e⟩), fun H3 t s3 ht => hq H3 _ s3 ⟨t, rfl, tupAt ht⟩⟩⟩
        | 3, hx =>
          cases Option.some.inj hx
          exact ⟨f4, Ch, 0, rfl, K0, .inr ⟨rfl, gB, .int 1, rdyB (lokW4 M4) (m4.same sm) (fun Q E e => ⟨vH, v, .non, .non, rfl, two_h st2 hkh hk1 (bad_snd hbh (bad_no hb1)) e⟩), fun H3 t s3 ht => hq H3 _ s3 ⟨t, rfl, tupAt ht⟩⟩⟩
        | i + 4, hx => simp at hx
      · have S2 := S1.same sm
        refine ⟨by show 2 ≤ sizeLine; decide, fun t ht => ⟨by show 1 ≤ sizeLine; decide, fun l hl' => ?_⟩⟩
        have s3 := same_new (o := .tup [.str "habits", .int 1]) ht
        have s4 := same_new (o := .lst [.ref t]) hl'
        refine ⟨l, 4, [.ref t], rfl, rfl, upd_same, by decide, by decide, by show 1 * 4 ≤ sizeLine; decide +kernel, fun l2 hl2 => ?_⟩
        have s5 := same_new (o := .lst (List.replicate ((4 : Int)).toNat [V.ref t]).flatten) hl2
        have s35 := s3.trans (s4.trans s5)
        have ht2 := tupAt (K := K) ((s4.trans s5) _ _ (upd_same (a := t)))
        obtain ⟨d, d1, d2, sh, ee⟩ := pair_data (K := K) (i := 1) (.inr rfl) (lstAt (s35 _ _ eD)) len (fun y hy => (show ∃ t, y = .ref t ∧ SqT K _ t [.str "habits", .int 1] from by
          obtain ⟨t', e, z⟩ := all y hy
          exact ⟨t', e, onT s35 z⟩)) (zs := [V.ref t, V.ref t, V.ref t, V.ref t]) (lstAt (upd_same (a := l2))) rfl (fun y hy => ⟨t, by simpa using hy, ht2⟩)
        refine ⟨d, d, d1, d2, sh, sh, _, rfl, ifF (by rw [ee]; rfl) ?_⟩
        exact ⟨p, n, _, h, _, _, _, _, _, rfl, S2.same s35, True.intro⟩
    clear S5 nh e5
    obtain ⟨p, n, vH, h, y4, y5, y6, y7, y8, rfl, S6, _⟩ := g6
    have n2 := S6.hb.lo
    have n4 := S6.n4
    refine ⟨GS K (tabsL P1 P2) a (fun _ _ _ _ => True), fun σ7 H7 g7 => ?_, ?_⟩
    case refine_2 =>
      refine ⟨_, rfl, _, rfl, _, rfl, (n : Int), 1, rfl, rfl, p, n + 1, by rw [Int.natCast_add]; rfl, S6.row, by omega, by omega, fun H3 v2 h2 hb2 hB3 hR3 hT3 => ?_⟩
      have S3 := S6.but hB3 hR3
      refine ⟨vH, v2, .non, rfl, S3.tb, fun lst f1 f2 f3 f4 cl H1 ext tb1 hl st m1 m2 m3 m4 => ?_⟩
      have S1 := S3.ext ext tb1
      have nh1 := (hk_of hT3 hb2).ext ext
      have nl1 := len_ok hb2
      refine ⟨lst, rfl, ⟨_, lstAt hl⟩, fun D hD => ?_⟩
      refine lc_ref (fun H v => ∃ t, v = .ref t ∧ SqT K H t [.str "habits", .int 1]) (fun H H' v f ⟨t, e, z⟩ => ⟨t, e, f.tups _ _ z⟩) (lstAt hl) (by show 4 ≤ 1000; decide) hD (fun i x H' hx sm Q Ex hq => ?_) (fun H' ys sm eD len all => ?_)
      · have st2 := st.same sm
        have hk1 := nh1.on sm
        obtain ⟨hh, hkh, hbh, hln⟩ := (S1.same sm).hk
        have bl := bad_len (n := lenH hh) (by rw [nl1, hln]; omega)
        match i, hx with
        | 0, hx =>
          cases Option.some.inj hx
          exact ⟨f1, Ch, 0, rfl, K0, .inr ⟨rfl, gB, .int 1, rdyB (lokW1 M1) (m1.same sm) (fun Q E e => ⟨vH, v2, .non, rfl, two_h st2 hkh hk1 (bad_snd hbh bl) e⟩), fun H3 t s3 ht => hq H3 _ s3 ⟨t, rfl, tupAt ht⟩⟩⟩
        | 1, hx =>
          cases Option.some.inj hx
          exact ⟨f2, Ch, 0, rfl, K0, .inr ⟨rfl, gB, .int 1, rdyB (lokW2 M2) (m2.same sm) (fun Q E e => ⟨vH, v2, .non, .non, rfl, two_h st2 hkh hk1 (bad_snd hbh bl) e⟩), fun H3 t s3 ht => hq H3 _ s3 ⟨t, rfl, tupAt ht⟩⟩⟩
        | 2, hx =>
          cases Option.some.inj hx
          exact ⟨f3, Ch, 0, rfl, K0, .inr ⟨rfl, gB, .int 1, rdyB (lokW3 M3) (m3.same sm) (fun Q E e => ⟨vH, v2, .non, rfl, two_h st2 hkh hk1 (bad_snd hbh bl) e⟩), fun H3 t s3 ht => hq H3 _ s3 ⟨t, rfl, tupAt ht⟩⟩⟩
        | 3, hx =>
          cases Option.some.inj hx
          exact ⟨f4, Ch, 0, rfl, K0, .inr ⟨rfl, gB, .int 1, rdyB (lokW4 M4) (m4.same sm) (fun Q E e => ⟨vH, v2, .non, .non, rfl, two_h st2 hkh hk1 (bad_snd hbh bl) e⟩), fun H3 t s3 ht => hq H3 _ s3 ⟨t, rfl, tupAt ht⟩⟩⟩
        | i + 4, hx => simp at hx
      · have S2 := S1.same sm
        refine ⟨by show 2 ≤ sizeLine; decide, fun t ht => ⟨by show 1 ≤ sizeLine; decide, fun l hl' => ?_⟩⟩
        have s3 := same_new (o := .tup [.str "habits", .int 1]) ht
        have s4 := same_new (o := .lst [.ref t]) hl'
        refine ⟨l, 4, [.ref t], rfl, rfl, upd_same, by decide, by decide, by show 1 * 4 ≤ sizeLine; decide +kernel, fun l2 hl2 => ?_⟩
        have s5 := same_new (o := .lst (List.replicate ((4 : Int)).toNat [V.ref t]).flatten) hl2
        have s35 := s3.trans (s4.trans s5)
        have ht2 := tupAt (K := K) ((s4.trans s5) _ _ (upd_same (a := t)))
        obtain ⟨d, d1, d2, sh, ee⟩ := pair_data (K := K) (i := 1) (.inr rfl) (lstAt (s35 _ _ eD)) len (fun y hy => (show ∃ t, y = .ref t ∧ SqT K _ t [.str "habits", .int 1] from by
          obtain ⟨t', e, z⟩ := all y hy
          exact ⟨t', e, onT s35 z⟩)) (zs := [V.ref t, V.ref t, V.ref t, V.ref t]) (lstAt (upd_same (a := l2))) rfl (fun y hy => ⟨t, by simpa using hy, ht2⟩)
        refine ⟨d, d, d1, d2, sh, sh, _, rfl, ifF (by rw [ee]; rfl) ?_⟩
        exact ⟨p, n, _, h, _, _, _, _, _, rfl, S2.same s35, True.intro⟩
    clear S6 n2 n4
    obtain ⟨p, n, vH, h, y4, y5, y6, y7, y8, rfl, S7, _⟩ := g7
    have n2 := S7.hb.lo
    have n4 := S7.n4
    -- no lot
    refine ⟨GS K (tabsL P1 P2) a (fun p n H ys => ∃ v, ys[1]? = some (some v) ∧ NoT K H n v), fun σ8 H8 g8 => ?_, ?_⟩
    case refine_2 =>
      refine ⟨_, rfl, Nat.zero_le _, fun t1 ht1 => ⟨by show 1 ≤ sizeLine; decide, fun l1 hl1 => ⟨_, rfl, by show 1 ≤ sizeLine; decide, fun t2 ht2 => ⟨by show 2 ≤ sizeLine; decide, fun t3 ht3 => ⟨by show 2 ≤ sizeLine; decide, fun t4 ht4 => ⟨by show 1 ≤ sizeLine; decide, fun t5 ht5 => ⟨by show 1 ≤ sizeLine; decide, fun t6 ht6 => ?_⟩⟩⟩⟩⟩⟩⟩
      have s1 := same_new (o := .tup []) ht1
      have s2 := same_new (o := .lst [.int 0]) hl1
      have s3 := same_new (o := .tup [.int (n : Int)]) ht2
      have s4 := same_new (o := .tup [.int 1, .int 0]) ht3
      have s5 := same_new (o := .tup [.int 0, .int 0]) ht4
      have s6 := same_new (o := .tup [.bl true]) ht5
      have s7 := same_new (o := .tup [.str "0"]) ht6
      intro d hd
      have s8 := same_new (o := .dK []) hd
      refine ⟨0, 1, rfl, rfl, by show 1 ≤ sizeLine; decide, fun t7 ht7 => ⟨by show 11 ≤ sizeLine; decide, fun lo hlo => ?_⟩⟩
      have s9 := same_new (o := .tup [.int (0 - 1)]) ht7
      have s10 := same_new (o := .lst [.non, .ref t1, .ref l1, .ref t2, .ref t3, .ref t4, .ref t5, .ref t6, .int 0, .ref d, .ref t7]) hlo
      have s710 := s8.trans (s9.trans s10)
      have s410 := s5.trans (s6.trans (s7.trans s710))
      have sB := s1.trans (s2.trans (s3.trans (s4.trans (s5.trans (s6.trans (s7.trans (s8.trans s9)))))))
      have S3 := S7.same (sB.trans s10)
      refine ⟨p, lo, _, rfl, S3.row, upd_same, (S7.same sB).neq hlo, by show 0 < 11; decide, by show 11 ≤ 1000; decide, fun iw wx H2 hwx hB2 hR2 => ?_⟩
      have np : ∀ v ∈ [V.non, .ref t1, .ref l1, .ref t2, .ref t3, .ref t4, .ref t5, .ref t6, .int 0, .ref d, .ref t7], NoT K _ n v := fun v hv => by
        rcases List.mem_cons.mp hv with rfl | hv
        · exact .no .non
        rcases List.mem_cons.mp hv with rfl | hv
        · exact .nil (tupAt ((s2.trans (s3.trans (s4.trans s410))) _ _ upd_same))
        rcases List.mem_cons.mp hv with rfl | hv
        · exact .no (.lst (lstAt ((s3.trans (s4.trans s410)) _ _ upd_same)))
        rcases List.mem_cons.mp hv with rfl | hv
        · exact .one (tupAt ((s4.trans s410) _ _ upd_same)) (.int _) inV2_n
        rcases List.mem_cons.mp hv with rfl | hv
        · exact .two (tupAt (s410 _ _ upd_same)) rfl
        rcases List.mem_cons.mp hv with rfl | hv
        · exact .two (tupAt ((s6.trans (s7.trans s710)) _ _ upd_same)) rfl
        rcases List.mem_cons.mp hv with rfl | hv
        · exact .one (tupAt ((s7.trans s710) _ _ upd_same)) (.bl _) rfl
        rcases List.mem_cons.mp hv with rfl | hv
        · exact .one (tupAt (s710 _ _ upd_same)) (.str _) rfl
        rcases List.mem_cons.mp hv with rfl | hv
        · exact .no (.int _)
        rcases List.mem_cons.mp hv with rfl | hv
        · exact .no (.dct ((s9.trans s10) _ _ upd_same))
        rw [List.mem_singleton.mp hv]
        exact .one (tupAt (s10 _ _ upd_same)) (.int _) (by show (decide ((0 : Int) ≤ 0 - 1) && decide ((0 - 1 : Int) ≤ (n : Int) - 1)) = false; rfl)
      exact ⟨p, n, _, h, _, _, _, _, _, rfl, S3.but hB2 hR2, wx, rfl, (np wx (List.mem_of_getElem? hwx)).but hB2 S3.row hR2⟩
    clear S7 n2 n4
    obtain ⟨p, n, vH, h, y4, y5, y6, y7, y8, rfl, S8, v, e8, nt⟩ := g8
    obtain rfl : y5 = some v := Option.some.inj e8
    refine ⟨GS K (tabsL P1 P2) a (fun p n H ys => ∃ v, ys[1]? = some (some v) ∧ NoT K H n v), fun σ9 H9 g9 => ?_, ?_⟩
    case refine_2 =>
      refine ⟨_, rfl, _, rfl, _, rfl, vH, vH, v, rfl, S8.tb, fun lst f1 f2 f3 f4 cl H1 ext tb1 hl st m1 m2 m3 m4 => ?_⟩
      have S1 := S8.ext ext tb1
      have nt1 := nt.ext ext
      refine ⟨lst, rfl, ⟨_, lstAt hl⟩, fun D hD => ?_⟩
      refine lc_ref (fun _ v => v = .str "place") (fun H H' v f z => z) (lstAt hl) (by show 4 ≤ 1000; decide) hD (fun i x H' hx sm Q Ex hq => ?_) (fun H' ys sm eD len all => ?_)
      · have st2 := st.same sm
        obtain ⟨hh, hkh, hbh, hln⟩ := (S1.same sm).hk
        obtain ⟨wo, hw, hbad⟩ := nt1.on sm
        have hbad : lotW (lenH hh) wo = false := by rw [hln]; exact hbad
        match i, hx with
        | 0, hx =>
          cases Option.some.inj hx
          exact ref_word (b := 1) rfl (by decide) K1 (rdyN (lokW1 M1) (m1.same sm) (fun Q E e => ⟨vH, vH, v, rfl, two_l st2 hkh hkh (both_good hbh) hw hbad e⟩)) hq
        | 1, hx =>
          cases Option.some.inj hx
          exact ref_word (b := 1) rfl (by decide) K1 (rdyN (lokW2 M2) (m2.same sm) (fun Q E e => ⟨vH, vH, v, .non, rfl, two_l st2 hkh hkh (both_good hbh) hw hbad e⟩)) hq
        | 2, hx =>
          cases Option.some.inj hx
          exact ref_word (b := 1) rfl (by decide) K1 (rdyN (lokW3 M3) (m3.same sm) (fun Q E e => ⟨vH, vH, v, rfl, two_l st2 hkh hkh (both_good hbh) hw hbad e⟩)) hq
        | 3, hx =>
          cases Option.some.inj hx
          exact ref_word (b := 1) rfl (by decide) K1 (rdyN (lokW4 M4) (m4.same sm) (fun Q E e => ⟨vH, vH, v, .non, rfl, two_l st2 hkh hkh (both_good hbh) hw hbad e⟩)) hq
        | i + 4, hx => simp at hx
      · have S2 := S1.same sm
        refine ⟨by show 1 ≤ sizeLine; decide, fun l hl' => ?_⟩
        have s4 := same_new (o := .lst [.str "place"]) hl'
        refine ⟨l, 4, [.str "place"], rfl, rfl, upd_same, by decide, by decide, by show 1 * 4 ≤ sizeLine; decide +kernel, fun l2 hl2 => ?_⟩
        have s5 := same_new (o := .lst (List.replicate ((4 : Int)).toNat [V.str "place"]).flatten) hl2
        have s35 := s4.trans s5
        obtain ⟨d, d1, d2, sh, ee⟩ := word_data (K := K) 4 "place" ⟨by decide +kernel, by decide +kernel⟩ (lstAt (s35 _ _ eD)) len all (zs := [V.str "place", V.str "place", V.str "place", V.str "place"]) (lstAt (upd_same (a := l2))) rfl (fun y hy => by simpa using hy)
        refine ⟨d, d, d1, d2, sh, sh, _, rfl, ifF (by rw [ee]; rfl) ?_⟩
        exact ⟨p, n, _, h, _, _, _, _, _, rfl, S2.same s35, v, rfl, (nt1.on sm).on s35⟩
    clear S8 nt e8
    obtain ⟨p, n, vH, h, y4, y5, y6, y7, y8, rfl, S9, v, e9, nt⟩ := g9
    obtain rfl : y5 = some v := Option.some.inj e9
    refine ⟨GS K (tabsL P1 P2) a (fun p n H ys => ∃ v, ys[1]? = some (some v) ∧ NoT K H n v), fun σ10 H10 g10 => ?_, ?_⟩
    case refine_2 =>
      refine ⟨.non, .non, .non, .non, .non, .non, rfl, S9.tb, fun lst f1 cl H1 ext tb1 hl st m1 => ?_⟩
      have S1 := S9.ext ext tb1
      refine ⟨lst, _, 0, .ref f1, rfl, rfl, lstAt hl, rfl, ?_⟩
      refine ⟨f1, Ch, 0, rfl, K0, .inr ⟨rfl, gB, .non, rdyB (lokF1 ML) m1 (fun Q E e => lf_h st (.no .non) rfl e), fun H3 t s3 ht => ⟨by show 2 ≤ sizeLine; decide, fun t2 ht2 => ?_⟩⟩⟩
      have s4 := same_new (o := .tup [.str "habits", .non]) ht2
      refine ⟨.tuple [.str "habits", .none], .tuple [.str "habits", .none], .tup (tupAt (s4 _ _ ht)) (.cons (.str _) (.cons .non .nil)), .tup (tupAt (upd_same (a := t2))) (.cons (.str _) (.cons .non .nil)), by decide +kernel, by decide +kernel, _, rfl, ifF (by decide +kernel) ?_⟩
      exact ⟨p, n, _, h, _, _, _, _, _, rfl, (S1.same s3).same s4, v, rfl, ((nt.ext ext).on s3).on s4⟩
    clear S9 nt e9
    obtain ⟨p, n, vH, h, y4, y5, y6, y7, y8, rfl, S10, v, e10, nt⟩ := g10
    obtain rfl : y5 = some v := Option.some.inj e10
    refine ⟨GS K (tabsL P1 P2) a (fun _ _ _ _ => True), fun σ11 H11 g11 => ?_, ?_⟩
    case refine_2 =>
      have hs : ∃ hh : HO1, habW hh = true ∧ lenH hh = n ∧ Hk K _ vH hh := let ⟨hh, a, b, c⟩ := S10.hk; ⟨hh, b, c, a⟩
      obtain ⟨hh, hbh, hln, hkh⟩ := hs
      refine ⟨_, rfl, by show 1 ≤ sizeLine; decide, fun t1 ht1 => ⟨_, rfl, ?_⟩⟩
      have s1 := same_new (o := .tup [vH]) ht1
      have e1 := Same.refl (upd H10 t1 (.tup [vH]))
      refine ⟨.ref t1, v, .non, .non, .non, .non, rfl, (S10.same s1).tb, fun lst f1 cl H1 ext tb1 hl st m1 => ?_⟩
      have S1 := (S10.same s1).ext ext tb1
      refine ⟨lst, _, 0, .ref f1, rfl, rfl, lstAt hl, rfl, ?_⟩
      obtain ⟨wo, hw, hbad⟩ := nt
      have hbad : lotW (lenH hh) wo = false := by rw [hln]; exact hbad
      have hS : Hs K H1 (.ref t1) (some [hh]) := Hs.ext ext (.tup (tupAt (e1 _ _ upd_same)) (.cons (hkh.on s1) .nil))
      refine ⟨f1, Cp, 1, rfl, K1, .inl ⟨by decide, rdyN (lokF1 ML) m1 (fun Q E e => lf_l st hS hbh ((hw.on s1).ext ext) hbad e), fun H3 s3 => ?_⟩⟩
      exact ⟨rfl, _, rfl, ifF (by decide +kernel) ⟨p, n, _, h, _, _, _, _, _, rfl, S1.same s3, True.intro⟩⟩
    clear S10 nt e10
    obtain ⟨p, n, vH, h, y4, y5, y6, y7, y8, rfl, S11, _⟩ := g11
    -- no place
    refine ⟨GS K (tabsL P1 P2) a (fun p n H ys => ∃ v, ys[2]? = some (some v) ∧ NoS K H n v), fun σ12 H12 g12 => ?_, ?_⟩
    case refine_2 =>
      refine ⟨_, rfl, _, rfl, 0, 1, rfl, rfl, by show 6 ≤ sizeLine; decide, fun lo hlo => ?_⟩
      have s1 := same_new (o := .lst [.non, .bl true, .int (n : Int), .str "0", .int (0 - 1), .int 1]) hlo
      have S3 := S11.same s1
      refine ⟨p, lo, _, rfl, S3.row, upd_same, S11.neq hlo, by show 0 < 6; decide, by show 6 ≤ 1000; decide, fun iw wx H2 hwx hB2 hR2 => ?_⟩
      have np : ∀ v ∈ [V.non, .bl true, .int (n : Int), .str "0", .int (0 - 1), .int 1], NoS K H2 n v := fun v hv => by
        rcases List.mem_cons.mp hv with rfl | hv
        · exact ⟨.non, rfl⟩
        rcases List.mem_cons.mp hv with rfl | hv
        · exact ⟨.bl _, rfl⟩
        rcases List.mem_cons.mp hv with rfl | hv
        · exact .big
        rcases List.mem_cons.mp hv with rfl | hv
        · exact ⟨.str _, rfl⟩
        rcases List.mem_cons.mp hv with rfl | hv
        · exact .int (by decide)
        rw [List.mem_singleton.mp hv]
        exact .int (by decide)
      exact ⟨p, n, _, h, _, _, _, _, _, rfl, S3.but hB2 hR2, wx, rfl, np wx (List.mem_of_getElem? hwx)⟩
    clear S11
    obtain ⟨p, n, vH, h, y4, y5, y6, y7, y8, rfl, S12, v, e12, ns⟩ := g12
    obtain rfl : y6 = some v := Option.some.inj e12
    refine ⟨GS K (tabsL P1 P2) a (fun p n H ys => ∃ v, ys[2]? = some (some v) ∧ NoS K H n v), fun σ13 H13 g13 => ?_, ?_⟩
    case refine_2 =>
      have hs : ∃ hh : HO1, habW hh = true ∧ lenH hh = n ∧ Hk K _ vH hh := let ⟨hh, a, b, c⟩ := S12.hk; ⟨hh, b, c, a⟩
      obtain ⟨hh, hbh, hln, hkh⟩ := hs
      have n2 := S12.hb.lo
      have n4 := S12.n4
      refine ⟨_, rfl, by show 1 ≤ sizeLine; decide, fun t1 ht1 => ⟨by show 1 ≤ sizeLine; decide, fun t2 ht2 => ⟨_, rfl, Nat.zero_le _, fun t3 ht3 => ?_⟩⟩⟩
      have s1 := same_new (o := .tup [vH]) ht1
      have s2 := same_new (o := .tup [.int 0]) ht2
      have e2 := same_new (o := .tup []) ht3
      have e1 := s2.trans e2
      have s13 := s1.trans e1
      refine ⟨.ref t1, .ref t2, v, .ref t3, .int 0, .bl true, rfl, (S12.same s13).tb, fun lst f1 cl H1 ext tb1 hl st m1 => ?_⟩
      have S1 := (S12.same s13).ext ext tb1
      refine ⟨lst, _, 0, .ref f1, rfl, rfl, lstAt hl, rfl, ?_⟩
      have hS : Hs K H1 (.ref t1) (some [hh]) := Hs.ext ext (.tup (tupAt (e1 _ _ upd_same)) (.cons (hkh.on s13) .nil))
      refine ⟨f1, Cp, 1, rfl, K1, .inl ⟨by decide, rdyN (lokF1 ML) m1 (fun Q E e => lf_t st hS hbh (wd_ints (ns := [0]) ((extN_tups ext) _ _ (tupAt (e2 _ _ upd_same))) (by decide)) (by rw [hln]; exact lot0 n2 n4) ⟨t2, rfl, (extN_tups ext) _ _ (tupAt (e2 _ _ upd_same))⟩ ((ns.on s13).ext ext).1 (.int 0) (wd_ints (ns := []) ((extN_tups ext) _ _ (tupAt (upd_same (a := t3)))) (by decide)) (by rw [hln]; exact tst_pl ns.2) e), fun H3 s3 => ?_⟩⟩
      exact ⟨rfl, _, rfl, ifF (by decide +kernel) ⟨p, n, _, h, _, _, _, _, _, rfl, S1.same s3, v, rfl, ((ns.on s13).ext ext).on s3⟩⟩
    clear S12 ns e12
    obtain ⟨p, n, vH, h, y4, y5, y6, y7, y8, rfl, S13, v, e13, ns⟩ := g13
    obtain rfl : y6 = some v := Option.some.inj e13
    -- no word
    refine ⟨GS K (tabsL P1 P2) a (fun p n H ys => (∃ v, ys[2]? = some (some v) ∧ NoS K H n v) ∧ ∃ v, ys[3]? = some (some v) ∧ NoWd K H n v), fun σ14 H14 g14 => ?_, ?_⟩
    case refine_2 =>
      have n2 := S13.hb.lo
      refine ⟨_, rfl, by show 1 ≤ sizeLine; decide, fun l1 hl1 => ⟨by show 1 ≤ sizeLine; decide, fun t1 ht1 => ⟨by show 1 ≤ sizeLine; decide, fun t2 ht2 => ⟨by show 5 ≤ sizeLine; decide, fun lo hlo => ?_⟩⟩⟩⟩
      have s1 := same_new (o := .lst [.int 0]) hl1
      have s2 := same_new (o := .tup [.int 1]) ht1
      have s3 := same_new (o := .tup [.bl true]) ht2
      have s4 := same_new (o := .lst [.non, .ref l1, .ref t1, .ref t2, .int 0]) hlo
      have sB := s1.trans (s2.trans s3)
      have S3 := S13.same (sB.trans s4)
      refine ⟨p, lo, _, rfl, S3.row, upd_same, (S13.same sB).neq hlo, by show 0 < 5; decide, by show 5 ≤ 1000; decide, fun iw wx H2 hwx hB2 hR2 => ?_⟩
      have np : ∀ v ∈ [V.non, .ref l1, .ref t1, .ref t2, .int 0], NoWd K _ n v := fun v hv => by
        rcases List.mem_cons.mp hv with rfl | hv
        · exact .no .non
        rcases List.mem_cons.mp hv with rfl | hv
        · exact .no (.lst (lstAt ((s2.trans (s3.trans s4)) _ _ upd_same)))
        rcases List.mem_cons.mp hv with rfl | hv
        · exact .one (tupAt ((s3.trans s4) _ _ upd_same)) (.int _) (.inr (by decide))
        rcases List.mem_cons.mp hv with rfl | hv
        · exact .one (tupAt (s4 _ _ upd_same)) (.bl _) (.inl rfl)
        rw [List.mem_singleton.mp hv]
        exact .no (.int _)
      exact ⟨p, n, _, h, _, _, _, _, _, rfl, S3.but hB2 hR2, ⟨v, rfl, (ns.on (sB.trans s4)).but hB2 S3.row hR2⟩, wx, rfl, (np wx (List.mem_of_getElem? hwx)).but hB2 S3.row hR2⟩
    clear S13 ns e13
    obtain ⟨p, n, vH, h, y4, y5, y6, y7, y8, rfl, S14, ⟨v, e14, ns⟩, u, e14b, nw⟩ := g14
    obtain rfl : y6 = some v := Option.some.inj e14
    obtain rfl : y7 = some u := Option.some.inj e14b
    refine ⟨GS K (tabsL P1 P2) a (fun p n H ys => ∃ v, ys[2]? = some (some v) ∧ NoS K H n v), fun σ15 H15 g15 => ?_, ?_⟩
    case refine_2 =>
      have hs : ∃ hh : HO1, habW hh = true ∧ lenH hh = n ∧ Hk K _ vH hh := let ⟨hh, a, b, c⟩ := S14.hk; ⟨hh, b, c, a⟩
      obtain ⟨hh, hbh, hln, hkh⟩ := hs
      have n2 := S14.hb.lo
      have n4 := S14.n4
      obtain ⟨wo, hw, hbad⟩ := id nw
      refine ⟨_, rfl, by show 1 ≤ sizeLine; decide, fun t1 ht1 => ⟨by show 1 ≤ sizeLine; decide, fun t2 ht2 => ⟨_, rfl, ?_⟩⟩⟩
      have s1 := same_new (o := .tup [vH]) ht1
      have e1 := same_new (o := .tup [.int 0]) ht2
      have s13 := s1.trans e1
      refine ⟨.ref t1, .ref t2, .int 0, u, .int 0, .bl true, rfl, (S14.same s13).tb, fun lst f1 cl H1 ext tb1 hl st m1 => ?_⟩
      have S1 := (S14.same s13).ext ext tb1
      refine ⟨lst, _, 0, .ref f1, rfl, rfl, lstAt hl, rfl, ?_⟩
      have hS : Hs K H1 (.ref t1) (some [hh]) := Hs.ext ext (.tup (tupAt (e1 _ _ upd_same)) (.cons (hkh.on s13) .nil))
      refine ⟨f1, Cp, 1, rfl, K1, .inl ⟨by decide, rdyN (lokF1 ML) m1 (fun Q E e => lf_t st hS hbh (wd_ints (ns := [0]) ((extN_tups ext) _ _ (tupAt (upd_same (a := t2)))) (by decide)) (by rw [hln]; exact lot0 n2 n4) ⟨t2, rfl, (extN_tups ext) _ _ (tupAt (upd_same (a := t2)))⟩ (.int 0) (.int 0) ((hw.on s13).ext ext) (by rw [hln]; exact tst_wd hbad) e), fun H3 s3 => ?_⟩⟩
      exact ⟨rfl, _, rfl, ifF (by decide +kernel) ⟨p, n, _, h, _, _, _, _, _, rfl, S1.same s3, v, rfl, ((ns.on s13).ext ext).on s3⟩⟩
    clear S14 ns nw e14 e14b
    obtain ⟨p, n, vH, h, y4, y5, y6, y7, y8, rfl, S15, v, e15, ns⟩ := g15
    obtain rfl : y6 = some v := Option.some.inj e15
    refine ⟨GS K (tabsL P1 P2) a (fun _ _ _ _ => True), fun σ16 H16 g16 => ?_, ?_⟩
    case refine_2 =>
      have hs : ∃ hh : HO1, habW hh = true ∧ lenH hh = n ∧ Hk K _ vH hh := let ⟨hh, a, b, c⟩ := S15.hk; ⟨hh, b, c, a⟩
      obtain ⟨hh, hbh, hln, hkh⟩ := hs
      have n2 := S15.hb.lo
      have n4 := S15.n4
      refine ⟨_, rfl, by show 1 ≤ sizeLine; decide, fun t1 ht1 => ⟨by show 1 ≤ sizeLine; decide, fun t2 ht2 => ⟨Nat.zero_le _, fun t3 ht3 => ⟨_, rfl, ?_⟩⟩⟩⟩
      have s1 := same_new (o := .tup [vH]) ht1
      have s2 := same_new (o := .tup [.int 0]) ht2
      have e2 := same_new (o := .tup []) ht3
      have e1 := s2.trans e2
      have s13 := s1.trans e1
      refine ⟨.ref t1, .ref t2, .int 0, .ref t3, v, .non, rfl, (S15.same s13).tb, fun lst f1 cl H1 ext tb1 hl st m1 => ?_⟩
      have S1 := (S15.same s13).ext ext tb1
      refine ⟨lst, _, 0, .ref f1, rfl, rfl, lstAt hl, rfl, ?_⟩
      have hS : Hs K H1 (.ref t1) (some [hh]) := Hs.ext ext (.tup (tupAt (e1 _ _ upd_same)) (.cons (hkh.on s13) .nil))
      refine ⟨f1, Cp, 1, rfl, K1, .inl ⟨by decide, rdyN (lokF1 ML) m1 (fun Q E e => lf_t st hS hbh (wd_ints (ns := [0]) ((extN_tups ext) _ _ (tupAt (e2 _ _ upd_same))) (by decide)) (by rw [hln]; exact lot0 n2 n4) ⟨t2, rfl, (extN_tups ext) _ _ (tupAt (e2 _ _ upd_same))⟩ (.int 0) ((ns.on s13).ext ext).1 (wd_ints (ns := []) ((extN_tups ext) _ _ (tupAt (upd_same (a := t3)))) (by decide)) (by rw [hln]; exact tst_rd ns.2) e), fun H3 s3 => ?_⟩⟩
      exact ⟨rfl, _, rfl, ifF (by decide +kernel) ⟨p, n, _, h, _, _, _, _, _, rfl, S1.same s3, True.intro⟩⟩
    clear S15 ns e15
    obtain ⟨p, n, vH, h, y4, y5, y6, y7, y8, rfl, S16, _⟩ := g16
    -- no answer
    refine ⟨GS K (tabsL P1 P2) a (fun p n H ys => ∃ v, ys[4]? = some (some v) ∧ NoA K H v), fun σ17 H17 g17 => ?_, ?_⟩
    case refine_2 =>
      refine ⟨_, rfl, Nat.zero_le _, fun t1 ht1 => ⟨by show 5 ≤ sizeLine; decide, fun lo hlo => ?_⟩⟩
      have s1 := same_new (o := .tup []) ht1
      have s2 := same_new (o := .lst [.non, .int 0, .int 1, .str "True", .ref t1]) hlo
      have S3 := S16.same (s1.trans s2)
      refine ⟨p, lo, _, rfl, S3.row, upd_same, (S16.same s1).neq hlo, by show 0 < 5; decide, by show 5 ≤ 1000; decide, fun iw wx H2 hwx hB2 hR2 => ?_⟩
      have np : ∀ v ∈ [V.non, .int 0, .int 1, .str "True", .ref t1], NoA K _ v := fun v hv => by
        rcases List.mem_cons.mp hv with rfl | hv
        · exact ⟨.non, rfl⟩
        rcases List.mem_cons.mp hv with rfl | hv
        · exact ⟨.int _, rfl⟩
        rcases List.mem_cons.mp hv with rfl | hv
        · exact ⟨.int _, rfl⟩
        rcases List.mem_cons.mp hv with rfl | hv
        · exact ⟨.str _, rfl⟩
        rw [List.mem_singleton.mp hv]
        exact ⟨.tup (tupAt (s2 _ _ upd_same)), rfl⟩
      exact ⟨p, n, _, h, _, _, _, _, _, rfl, S3.but hB2 hR2, wx, rfl, (np wx (List.mem_of_getElem? hwx)).but hB2 S3.row hR2⟩
    clear S16
    obtain ⟨p, n, vH, h, y4, y5, y6, y7, y8, rfl, S17, v, e17, na⟩ := g17
    obtain rfl : y8 = some v := Option.some.inj e17
    ·
      have hs : ∃ hh : HO1, habW hh = true ∧ lenH hh = n ∧ Hk K _ vH hh := let ⟨hh, a, b, c⟩ := S17.hk; ⟨hh, b, c, a⟩
      obtain ⟨hh, hbh, hln, hkh⟩ := hs
      have n2 := S17.hb.lo
      have n4 := S17.n4
      refine ⟨_, rfl, by show 1 ≤ sizeLine; decide, fun t1 ht1 => ⟨by show 1 ≤ sizeLine; decide, fun t2 ht2 => ⟨Nat.zero_le _, fun t3 ht3 => ⟨_, rfl, ?_⟩⟩⟩⟩
      have s1 := same_new (o := .tup [vH]) ht1
      have s2 := same_new (o := .tup [.int 0]) ht2
      have e2 := same_new (o := .tup []) ht3
      have e1 := s2.trans e2
      have s13 := s1.trans e1
      refine ⟨.ref t1, .ref t2, .int 0, .ref t3, .int 0, v, rfl, (S17.same s13).tb, fun lst f1 cl H1 ext tb1 hl st m1 => ?_⟩
      have S1 := (S17.same s13).ext ext tb1
      refine ⟨lst, _, 0, .ref f1, rfl, rfl, lstAt hl, rfl, ?_⟩
      have hS : Hs K H1 (.ref t1) (some [hh]) := Hs.ext ext (.tup (tupAt (e1 _ _ upd_same)) (.cons (hkh.on s13) .nil))
      refine ⟨f1, Ca, 2, rfl, K2, .inl ⟨by decide, rdyN (lokF1 ML) m1 (fun Q E e => lf_a st hS hbh (wd_ints (ns := [0]) ((extN_tups ext) _ _ (tupAt (e2 _ _ upd_same))) (by decide)) (by rw [hln]; exact lot0 n2 n4) ⟨t2, rfl, (extN_tups ext) _ _ (tupAt (e2 _ _ upd_same))⟩ (.int 0) (.int 0) (wd_ints (ns := []) ((extN_tups ext) _ _ (tupAt (upd_same (a := t3)))) (by decide)) (by rw [hln]; exact tst_ok n2) ((na.on s13).ext ext).1 na.2 e), fun H3 s3 => ?_⟩⟩
      exact ⟨rfl, q _⟩
end
end RH
set_option Elab.async false
set_option linter.all false
set_option maxRecDepth 100000
set_option maxHeartbeats 2000000
namespace RH
open PySem PySem.Spec PyProof.Rows L2
open LamX (Tabs TabS TabB ExtN CodeO codeO_ne)
/-! ### what the top has left -/
theorem df_mk {K : PySem.W.Frag} {h : Heap} {mg : Str → Option Value} (X : K.In h) (G : h.Ns mainGlobals mg) {x : Str} {st : Stmt} {ps : List Str} {f : Addr} {od an : Option Addr} {sl : Array (Option Value)} {oc kV dc pm cd ct : Value}
    (a : PySem.W.nsIn K mainGlobals x = some (some (.ref f))) (l : K.lookup f = some ⟨oc, od, .func (PySem.W.fnOf x x (defArgs st) (defBody st) (defScope st) .none kV dc pm an cd ct), sl⟩) (c : PySem.W.codeIn K cd x = true) (k : PySem.W.keepIn K (.ref f) = true)
    (b : ∀ (kV doc pm : Value) (an : Option Addr) (cdv ct : Value) (us : List Value), us.length = ps.length → bindArgs (PySem.W.fnOf x x (defArgs st) (defBody st) (defScope st) .none kV doc pm an cdv ct) ⟨us, []⟩ = pure (ps.zip us)) : Df K mg x st ps := by
  have F := fun_mk (st := st) l c k
  exact ⟨f, _, F, PySem.W.mg_of X G a, F.binds b⟩
theorem dfc_mk {K : PySem.W.Frag} {h : Heap} {mg : Str → Option Value} (X : K.In h) (G : h.Ns mainGlobals mg) {x : Str} {st : Stmt} {ps : List Str} {f c : Addr} {od an : Option Addr} {sl : Array (Option Value)} {oc kV dc pm ct : Value}
    (a : PySem.W.nsIn K mainGlobals x = some (some (.ref f))) (l : K.lookup f = some ⟨oc, od, .func (PySem.W.fnOf x x (defArgs st) (defBody st) (defScope st) .none kV dc pm an (.ref c) ct), sl⟩) (cc : PySem.W.codeIn K (.ref c) x = true) (k : PySem.W.keepIn K (.ref f) = true)
    (b : ∀ (kV doc pm : Value) (an : Option Addr) (cdv ct : Value) (us : List Value), us.length = ps.length → bindArgs (PySem.W.fnOf x x (defArgs st) (defBody st) (defScope st) .none kV doc pm an cdv ct) ⟨us, []⟩ = pure (ps.zip us)) : DfC K mg x st ps c := by
  have F := fun_mk (st := st) l cc k
  exact ⟨f, oc, od, kV, dc, pm, an, ct, sl, l, cc, k, PySem.W.mg_of X G a, F.binds b⟩
/-- where a code object's table stands -/
def tabOf (o : Obj) : Option Value := match o.data with
  | .fields vs => vs.toList[11]?
  | _ => none
/-- a maker: its code object, its table -/
structure Mkr (K : PySem.W.Frag) (h : Heap) (mg : Str → Option Value) (x : Str) (st : Stmt) (ps : List Str) (c p : Addr) : Prop where
  df : DfC K mg x st ps c
  hd : PySem.W.CodeHd h c p
  no : K.lookup p = none
  tab : h.get? p = some (PySem.W.tabObj #[])
theorem mkr {K : PySem.W.Frag} {h : Heap} {mg : Str → Option Value} (X : K.In h) (G : h.Ns mainGlobals mg) {x : Str} {st : Stmt} {ps : List Str} {f c p : Addr} {od an : Option Addr} {sl : Array (Option Value)} {oc kV dc pm ct : Value} {o : Obj}
    (a : PySem.W.nsIn K mainGlobals x = some (some (.ref f))) (l : K.lookup f = some ⟨oc, od, .func (PySem.W.fnOf x x (defArgs st) (defBody st) (defScope st) .none kV dc pm an (.ref c) ct), sl⟩) (cc : PySem.W.codeIn K (.ref c) x = true) (k : PySem.W.keepIn K (.ref f) = true)
    (lc : K.lookup c = some o) (t : tabOf o = some (.ref p)) (d : ∀ K' : PySem.W.Frag, K'.lookup c = some o → PySem.W.codeHdIn K' c p = true) (e : K.lookup p = none) (g : h.get? p = some (PySem.W.tabObj #[]))
    (b : ∀ (kV doc pm : Value) (an : Option Addr) (cdv ct : Value) (us : List Value), us.length = ps.length → bindArgs (PySem.W.fnOf x x (defArgs st) (defBody st) (defScope st) .none kV doc pm an cdv ct) ⟨us, []⟩ = pure (ps.zip us)) :
    Mkr K h mg x st ps c p := ⟨dfc_mk X G a l cc k b, PySem.W.codeHd_of_K X (d K lc), e, g⟩
theorem two {A B : Addr → Addr → Prop} {c p c2 p2 : Addr} (a : A c p) (b : B c2 p2) (n : (p != p2) = true) : ∃ c p c2 p2, A c p ∧ B c2 p2 ∧ p ≠ p2 := ⟨c, p, c2, p2, a, b, fun z => by
  rw [z] at n
  simp at n⟩
theorem dfD_mk {K : PySem.W.Frag} {h : Heap} {mg : Str → Option Value} (X : K.In h) (G : h.Ns mainGlobals mg) {x : Str} {st : Stmt} {ps : List Str} {f T : Addr} {od an : Option Addr} {sl : Array (Option Value)} {oc kV dc pm cd ct : Value} {o : Obj} {its : List Value} {m n0 : Nat} {dvs : List V}
    (a : PySem.W.nsIn K mainGlobals x = some (some (.ref f))) (l : K.lookup f = some ⟨oc, od, .func (PySem.W.fnOf x x (defArgs st) (defBody st) (defScope st) (.ref T) kV dc pm an cd ct), sl⟩) (c : PySem.W.codeIn K cd x = true) (k : PySem.W.keepIn K (.ref f) = true)
    (lT : K.lookup T = some o) (oT : o.data = .seq its.toArray m) (hv : Vals dvs its) (hne : dvs ≠ []) (hn : n0 + (dvs.length - 0) = ps.length)
    (b : ∀ (T : Addr) (kV doc pm : Value) (an : Option Addr) (cdv ct : Value) (us its : List Value), us.length = n0 → its.length = dvs.length →
      ∃ k, bindArgs (PySem.W.fnOf x x (defArgs st) (defBody st) (defScope st) (.ref T) kV doc pm an cdv ct) ⟨us, []⟩ = seqItems? (.ref T) >>= k ∧ k (some its.toArray) = pure (ps.zip (us ++ its.drop 0))) : DfD K mg x st ps dvs := by
  have F : FunD K x x (defArgs st) (defBody st) (defScope st) dvs [] f _ := ⟨⟨oc, od, .ref T, kV, dc, pm, an, cd, ct, sl, rfl, l, c, .inr ⟨hne, T, o, its, m, rfl, lT, oT, hv⟩, .inl rfl⟩, k⟩
  obtain ⟨ds, h1, h2⟩ := F.binds1 n0 0 hne hn b
  exact ⟨f, _, F, PySem.W.mg_of X G a, ds, h1, h2⟩
/-- the written part that is meant -/
abbrev kOf {K : PySem.W.Frag} {h : Heap} (_ : K.In h) : PySem.W.Frag := K
theorem const_mk {K : PySem.W.Frag} {h : Heap} {mg : Str → Option Value} (X : K.In h) (G : h.Ns mainGlobals mg) {x : Str} {i : Int} {t : Tok} (a : PySem.W.nsIn K mainGlobals x = some (some (.int i t))) : ∃ t, mg x = some (.int i t) := ⟨t, PySem.W.mg_of X G a⟩
/-- what the end asks of the law -/
def spEnd (K : PySem.W.Frag) (T : List (Addr × Str)) : Sp := fun vs H Q _ => ∃ (a : Addr) (ns : List Int), vs = [.ref a] ∧ SqL K H a (ns.map V.int) ∧ Tabs T H ∧ ∀ H', Q (.bl true) H'
/-- a list that no one writes may be told by its very object -/
theorem frozen {P : Program} {w : World} {K : PySem.W.Frag} {mg : Str → Option Value} {base : Heap} {k : Nat} {f : Addr} {fd : FuncData} {T : List (Addr × Str)} (F : FnOk P w K mg base CX0 k f fd ["script"] (spLaw K T)) : FnOk P w K mg base CX0 k f fd ["script"] (spEnd K T) := by
  refine ⟨fun vs H Q E h => ?_, fun A outer s H args us vs Q E hr e0 hb r h => ?_⟩
  · obtain ⟨a, ns, rfl, _⟩ := h
    rfl
  obtain ⟨a, ns, rfl, hS, hT, q⟩ := h
  rcases hS with (hS | ⟨o, hS⟩) | hS
  · obtain ⟨z, its, n, rv, ho⟩ := (show ObjOk P w H s.heap a (.lst (ns.map V.int)) from e0.hok a _ hS)
    have hne : ∀ b, H b = none ↔ upd H a (.frz { cls := .type "list", data := .seq its.toArray n } (.lst (ns.map V.int))) b = none := fun b => by
      by_cases e : b = a
      · subst e
        rw [hS, upd_same]
        exact ⟨fun z => (nomatch z), fun z => (nomatch z)⟩
      · rw [upd_ne e]
    have ext : ∀ b u, H b = some u → (∀ xs, u ≠ .lst xs) → upd H a (.frz { cls := .type "list", data := .seq its.toArray n } (.lst (ns.map V.int))) b = some u := fun b u e nu => by
      rw [upd_ne (fun z => by subst z; rw [hS] at e; exact nu _ (Option.some.inj e).symm)]
      exact e
    have hok : HOk P w (upd H a (.frz { cls := .type "list", data := .seq its.toArray n } (.lst (ns.map V.int)))) s.heap := fun b u e => by
      by_cases eb : b = a
      · subst eb
        rw [upd_same] at e
        cases e
        exact ⟨ho, z, its, n, rv, ho⟩
      · rw [upd_ne eb] at e
        exact (e0.hok b u e).stay (fun c v _ h => h) (fun c h => ext _ _ h (fun xs z => nomatch z)) (fun c xs h => ext _ _ h (fun xs z => nomatch z))
    have e1 : Env0 P w K mg base A outer s (upd H a (.frz { cls := .type "list", data := .seq its.toArray n } (.lst (ns.map V.int)))) :=
      ⟨e0.frames, e0.mod, fun b o e => ⟨(e0.bs b o e).1, (hne b).mp (e0.bs b o e).2⟩, e0.bsz, e0.funs, fun b h => (hne b).mp (e0.frf b h), hok, e0.bare⟩
    have hT1 : Tabs T (upd H a (.frz { cls := .type "list", data := .seq its.toArray n } (.lst (ns.map V.int)))) := Fix.tabs (fun b u e nu => ext b u e nu) hT
    refine codeAny_mono (F.run A outer s _ args us [.ref a] Q E hr e1 hb r ⟨a, ns, rfl, .inl ⟨_, upd_same⟩, hT1, q⟩) fun rr s' h => ?_
    cases rr with
    | error e => exact h
    | ok fl =>
      cases fl with
      | ret u =>
        obtain ⟨v, H', os, bare, un, hok', r', q'⟩ := h
        refine ⟨v, H', os, bare, ⟨fun b o e n => un.keep b o e ((hne b).mp n), fun b o e n => un.slot b o e ((hne b).mp n), fun b o e n => un.free b o e ((hne b).mp n), un.there, fun b xs e => un.tups b xs (ext b _ e (fun ys z => nomatch z)), fun b o u e => un.frzs b o u (ext b _ e (fun ys z => nomatch z)), fun b ps e => un.tbls b ps (ext b _ e (fun ys z => nomatch z))⟩, hok', r', q'⟩
      | next => exact h
      | brk => exact h
      | cont => exact h
  · exact F.run A outer s H args us [.ref a] Q E hr e0 hb r ⟨a, ns, rfl, .inl ⟨o, hS⟩, hT, q⟩
  · exact F.run A outer s H args us [.ref a] Q E hr e0 hb r ⟨a, ns, rfl, .inr fun H' => .inr hS, hT, q⟩
/-- the code object's file is the law's -/
def fileV (P : Program) : Option Value → Bool
  | some (Value.str file _) => (P.main.file : Str) == file
  | _ => false
def fileOk (P : Program) (o : Obj) : Bool := match o.data with
  | Data.fields vs => fileV P vs[2]?
  | _ => false
theorem fileOk_ex {P : Program} {K : PySem.W.Frag} {c : Addr} {o : Obj} (l : K.lookup c = some o) (h : fileOk P o = true) : ∃ (ccl : Value) (cdd : Option Addr) (vs : Array Value) (ccs : Array (Option Value)) (file : Str) (tf : Tok), K.lookup c = some ⟨ccl, cdd, .fields vs, ccs⟩ ∧ vs[2]? = some (.str file tf) ∧ ((P.main.file : Str) == file) = true := by
  obtain ⟨a, b, d, e⟩ := o
  unfold fileOk at h
  dsimp only at h
  split at h
  · rename_i vs0 vs
    cases hv : vs[2]? with
    | none =>
      rw [hv] at h
      cases h
    | some u =>
      rw [hv] at h
      cases u <;> first | (cases h; done) | skip
      rename_i file tf
      exact ⟨a, b, vs, e, file, tf, l, hv, h⟩
  · cases h
/-- the errors, as the top has left them -/
theorem errs_mk {K : PySem.W.Frag} {h : Heap} {mg : Str → Option Value} (P : Program) (X : K.In h) (G : h.Ns mainGlobals mg) {S c0 c1 c2 : Addr} (aS : PySem.W.nsIn K mainGlobals "ShelfError" = some (some (.ref S)))
    (a0 : PySem.W.nsIn K mainGlobals "BadHabits" = some (some (.ref c0)))
    (a1 : PySem.W.nsIn K mainGlobals "BadPlace" = some (some (.ref c1)))
    (a2 : PySem.W.nsIn K mainGlobals "BadAnswer" = some (some (.ref c2)))
    (kp0 : PySem.W.keepIn K (.ref c0) = true) (b0 : PySem.W.subIn K (.ref c0) (.type "BaseException") = some true) (t0 : PySem.W.typeIn K (.ref c0) = some (.type "type"))
    (xg0 : PySem.W.findIn K (.ref c0) "__getattribute__" = some (some (.builtin "BaseException.__getattribute__"))) (xk0 : PySem.W.findIn K (.ref c0) "__getattr__" = some none) (xd0 : PySem.W.hasDictIn K c0 = true) (xa0 : PySem.W.findIn K (.ref c0) "__class__" = some (some (.builtin "object.__class__"))) (xm0 : PySem.W.mroIn K c0 (.type "object") = some true) (es0 : PySem.W.exmOne K (.ref c0) (.ref S) = some true)
    (o00 : PySem.W.kitOne K (.ref c0) (.ref c0) = some true)
    (o01 : PySem.W.kitOne K (.ref c0) (.ref c1) = some false)
    (o02 : PySem.W.kitOne K (.ref c0) (.ref c2) = some false)
    (q1 : PySem.W.excIn K c1 [.type "ValueError", .type "Exception", .type "BaseException", .type "object"] "ValueError.__new__" = true)
    (kp1 : PySem.W.keepIn K (.ref c1) = true) (b1 : PySem.W.subIn K (.ref c1) (.type "BaseException") = some true) (t1 : PySem.W.typeIn K (.ref c1) = some (.type "type"))
    (xg1 : PySem.W.findIn K (.ref c1) "__getattribute__" = some (some (.builtin "BaseException.__getattribute__"))) (xk1 : PySem.W.findIn K (.ref c1) "__getattr__" = some none) (xd1 : PySem.W.hasDictIn K c1 = true) (xa1 : PySem.W.findIn K (.ref c1) "__class__" = some (some (.builtin "object.__class__"))) (xm1 : PySem.W.mroIn K c1 (.type "object") = some true) (es1 : PySem.W.exmOne K (.ref c1) (.ref S) = some true)
    (o10 : PySem.W.kitOne K (.ref c1) (.ref c0) = some false)
    (o11 : PySem.W.kitOne K (.ref c1) (.ref c1) = some true)
    (o12 : PySem.W.kitOne K (.ref c1) (.ref c2) = some false)
    (q2 : PySem.W.excIn K c2 [.type "ValueError", .type "Exception", .type "BaseException", .type "object"] "ValueError.__new__" = true)
    (kp2 : PySem.W.keepIn K (.ref c2) = true) (b2 : PySem.W.subIn K (.ref c2) (.type "BaseException") = some true) (t2 : PySem.W.typeIn K (.ref c2) = some (.type "type"))
    (xg2 : PySem.W.findIn K (.ref c2) "__getattribute__" = some (some (.builtin "BaseException.__getattribute__"))) (xk2 : PySem.W.findIn K (.ref c2) "__getattr__" = some none) (xd2 : PySem.W.hasDictIn K c2 = true) (xa2 : PySem.W.findIn K (.ref c2) "__class__" = some (some (.builtin "object.__class__"))) (xm2 : PySem.W.mroIn K c2 (.type "object") = some true) (es2 : PySem.W.exmOne K (.ref c2) (.ref S) = some true)
    (o20 : PySem.W.kitOne K (.ref c2) (.ref c0) = some false)
    (o21 : PySem.W.kitOne K (.ref c2) (.ref c1) = some false)
    (o22 : PySem.W.kitOne K (.ref c2) (.ref c2) = some true)
    (xn : PySem.W.specialIn K (.builtin "object.__class__") "__get__" = some (some (.builtin "getset_descriptor.__get__"))) (xt : PySem.W.takesIn K (.builtin "object.__class__") = some true)
    {nm q : Str} {N : Addr} {bs bm : List Value} {sn : List Str} {sub : List Value} {ab : Bool} {col : Option Bool} {dd : Option Addr} {m0' m1' m2' m3' m5' : Option Value} {f cc cda : Addr} {oc kV dc pm ct ccl : Value} {od an cdd : Option Addr} {sl csl : Array (Option Value)} {oo : Obj}
    (yL : K.lookup c0 = some (excClassObj nm q c0 N bs bm true sn sub ab col dd m0' m1' m2' m3' m5' "ValueError.__new__")) (yR : PySem.HandSPX.refsVE bm = true) (ysa : PySem.W.findIn K (.ref c0) "__setattr__" = some (some (.builtin "object.__setattr__"))) (yno : PySem.W.findIn K (.ref c0) "index" = some none)
    (yi : PySem.W.findIn K (.ref c0) "__init__" = some (some (.ref f))) (yt : PySem.W.typeIn K (.ref f) = some (.type "function")) (yl : K.lookup f = some ⟨oc, od, .func (PySem.W.fnX "__init__" "BadHabits.__init__" (defArgs st_e_BadHabits) (defBody st_e_BadHabits) (defScope st_e_BadHabits) [("__class__", cc)] .none kV dc pm an (.ref cda) ct), sl⟩) (yc : PySem.W.codeIn K (.ref cda) "BadHabits.__init__" = true)
    (yo : K.lookup cda = some oo) (yf : fileOk P oo = true) (yk : K.lookup cc = some ⟨ccl, cdd, .cell (some (.ref c0)), csl⟩) (ym : PySem.W.mroIn K c0 (.ref c0) = some true) (ya : PySem.W.nsIn K cStatics "thirdparty.any" = some none)
    (ys : PySem.W.ks_superIn K c0 c0 "__init__" = some (some (.builtin "ValueError.__init__"))) (yv : PySem.W.subIn K (.ref c0) (.type "ValueError") = some true) (yg : PySem.W.nsIn K mainGlobals "super" = some none) (yp : (P.main.scope.names.lookup ("super" : Str)).isSome = false)
    : ∃ S c0 c1 c2, Five mg S c0 c1 c2 ∧ ExcC K c0 ∧ PySem.W.findIn K (.ref c0) "index" = some none ∧ (∀ w base, BhX P w K mg base c0 (spBI c0)) ∧ ExO K mg "BadPlace" c1 ∧ ExO K mg "BadAnswer" c2 ∧ Knd K mg c0 0 ∧ Knd K mg c1 1 ∧ Knd K mg c2 2 := by
  have mS := PySem.W.mg_of X G aS
  have m0 := PySem.W.mg_of X G a0
  have m1 := PySem.W.mg_of X G a1
  have m2 := PySem.W.mg_of X G a2
  have x0 : ExcC K c0 := ⟨xg0, xk0, b0, xd0, xa0, xn, xt, xm0⟩
  have x1 : ExcC K c1 := ⟨xg1, xk1, b1, xd1, xa1, xn, xt, xm1⟩
  have x2 : ExcC K c2 := ⟨xg2, xk2, b2, xd2, xa2, xn, xt, xm2⟩
  have ox : OexC K c0 := ⟨⟨_, _, _, _, _, _, _, _, _, _, _, _, _, _, _, yL, yR⟩, ysa, b0, t0, kp0⟩
  have M : SupC P K mg c0 "BadHabits.__init__" st_e_BadHabits f _ cc cda := ⟨ox, ⟨_, _, _, _, _, _, _, _, rfl, yl⟩, yc, fileOk_ex yo yf, ⟨_, _, _, yk⟩, ym, ya, ys, yv, PySem.W.mg_none_of X G yg, yp⟩
  have bh : ∀ w base, BhX P w K mg base c0 (spBI c0) := fun w base => ⟨ox, m0, f, _, ok_bh M yno, yi, yt, .all fun us hl => match us, hl with | [_, _], _ => rfl⟩
  exact ⟨S, c0, c1, c2, ⟨mS, m0, m1, m2⟩, x0, yno, bh, ⟨q1, m1, kp1, b1, t1⟩, ⟨q2, m2, kp2, b2, t2⟩,
    ⟨by decide, x0, ⟨S, mS, es0⟩, ⟨c0, m0, o00⟩, ⟨c1, m1, o01⟩, ⟨c2, m2, o02⟩⟩,
    ⟨by decide, x1, ⟨S, mS, es1⟩, ⟨c0, m0, o10⟩, ⟨c1, m1, o11⟩, ⟨c2, m2, o12⟩⟩,
    ⟨by decide, x2, ⟨S, mS, es2⟩, ⟨c0, m0, o20⟩, ⟨c1, m1, o21⟩, ⟨c2, m2, o22⟩⟩⟩
theorem top {P : Program} {w : World} {K : PySem.W.Frag} {mg : Str → Option Value} {fa : Addr} (hfa : mg "law" = some (.ref fa)) (B : Bu mg) (c2' : ∃ t, mg "FEWEST_PLACES" = some (.int 2 t)) (c5' : ∃ t, mg "MOST_PLACES" = some (.int 5 t))
    {k1 p1 k2 p2 : Addr} (hpp : p1 ≠ p2)
    {S c0 c1 c2 : Addr} (Fv : Five mg S c0 c1 c2) (x0 : ExcC K c0) (no0 : PySem.W.findIn K (.ref c0) "index" = some none) (bh : ∀ base, BhX P w K mg base c0 (spBI c0)) (Xp : ExO K mg "BadPlace" c1) (Xa : ExO K mg "BadAnswer" c2)
    (K0 : Knd K mg c0 0) (K1 : Knd K mg c1 1) (K2 : Knd K mg c2 2)
    (F_is_integer : Df K mg "is_integer" st_is_integer ["value"])
    (F_is_number : Df K mg "is_number" st_is_number ["value", "low", "high"])
    (F_is_row : Df K mg "is_row" st_is_row ["value", "low", "high"])
    (F_is_place : Df K mg "is_place" st_is_place ["value", "places"])
    (F_are_places : Df K mg "are_places" st_are_places ["value", "places"])
    (F_is_rising : Df K mg "is_rising" st_is_rising ["row"])
    (F_is_layout : Df K mg "is_layout" st_is_layout ["value", "places"])
    (F_is_habit : Df K mg "is_habit" st_is_habit ["value"])
    (F_check_habits : DfD K mg "check_habits" st_check_habits ["habits", "most"] [.int 3])
    (F_is_lot : Df K mg "is_lot" st_is_lot ["value", "places"])
    (F_check_lot : Df K mg "check_lot" st_check_lot ["lot", "places"])
    (F_test : Df K mg "test" st_test ["habit", "other", "lot"])
    (F_shows_test : Df K mg "shows_test" st_shows_test ["habit", "other", "lot", "value"])
    (F_alike_paper : Df K mg "alike_paper" st_alike_paper ["habit", "other", "lot"])
    (F_shows_alike : Df K mg "shows_alike" st_shows_alike ["habit", "other", "lot", "value"])
    (F_habits_left : Df K mg "habits_left" st_habits_left ["habits", "lot", "place", "word", "read", "is_marked"])
    (F_check_two : Df K mg "check_two" st_check_two ["habit", "other", "lot"])
    (F_is_of_lot : Df K mg "is_of_lot" st_is_of_lot ["value", "lot", "places"])
    (F_is_test : Df K mg "is_test" st_is_test ["place", "word", "read", "lot", "places"])
    (F__law_taken : Df K mg "_law_taken" st__law_taken ["row", "many"])
    (F__law_order : Df K mg "_law_order" st__law_order ["row", "many"])
    (F__law_habit : Df K mg "_law_habit" st__law_habit ["row", "places"])
    (F__law_pick : Df K mg "_law_pick" st__law_pick ["row", "things"])
    (F__law_refused : Df K mg "_law_refused" st__law_refused ["work"])
    (F__law_works : DfC K mg "_law_works" st__law_works ["one", "other", "third"] k1)
    (F__law_lefts : DfC K mg "_law_lefts" st__law_lefts ["one", "other", "third", "fourth", "fifth", "sixth"] k2)
    (F_law : Df K mg "law" st_law ["script"])
    : ∃ fd : FuncData, (∀ (s : Shared) (v : Value), BindsTo s fd ⟨[v], []⟩ [("script", v)]) ∧ ∀ base : Heap, TabB base mg k1 p1 → TabB base mg k2 p2 → FnOk P w K mg base CX0 12 fa fd ["script"] (spEnd K (tabsL p1 p2)) := by
  obtain ⟨f, fd, F, g, b⟩ := F_law.ex
  have e := hfa.symm.trans g
  cases e
  refine ⟨fd, fun s v => ?_, fun base T1 T2 => ?_⟩
  · obtain ⟨oc, od, kV, doc, pm, an, cdv, ct, osl, rfl, _⟩ := F.ex
    exact .of_eq rfl
  · have C1 := ok_is_integerW (P := P) (w := w) (K := K) (base := base) F_is_integer B
    have C2 := ok_is_numberW F_is_number C1
    have CR := ok_is_rowW (P := P) (w := w) (K := K) (base := base) F_is_row B
    have C3 := ok_is_placeW F_is_place C2
    have C4 := ok_are_placesW F_are_places B C3
    have C5 := ok_is_layoutW F_is_layout B C4
    have C6 := ok_is_habitW F_is_habit B c2' c5' CR C5
    have CRi := ok_is_rising (P := P) (w := w) (K := K) (base := base) F_is_rising B
    have CH := ok_check_habitsX F_check_habits B (bh base) CR C6
    have CL := ok_check_lotX F_check_lot Xp (ok_is_lotW F_is_lot CR C4 CRi)
    have C2t := ok_check_twoX F_check_two B CH CL
    have CI := ok_is_testW F_is_test B (ok_is_of_lotW F_is_of_lot C3) C4
    have ML := ok_leftX F_habits_left B Xp Xa CH CL CI
    have CT := ok_taken (P := P) (w := w) (K := K) (base := base) F__law_taken B
    have COd := ok_order F__law_order B CT
    have u1 : ∀ p ∈ tabsL p1 p2, p.1 = p1 → p.2 = lamQ "_law_works" := fun p hp e => by
      rcases List.mem_cons.mp hp with rfl | hp
      · rfl
      · rw [List.mem_singleton.mp hp] at e
        exact absurd e.symm hpp
    have u2 : ∀ p ∈ tabsL p1 p2, p.1 = p2 → p.2 = lamQ "_law_lefts" := fun p hp e => by
      rcases List.mem_cons.mp hp with rfl | hp
      · exact absurd e hpp
      · rw [List.mem_singleton.mp hp]
    exact frozen (ok_law F B CT (ok_pick F__law_pick B CT) (ok_habit F__law_habit B CT COd) (ok_works (List.Mem.head _) u1 F__law_works T1) (ok_lefts (List.Mem.tail _ (List.Mem.head _)) u2 F__law_lefts T2) (ok_refused F__law_refused B Fv x0 no0)
      (ok_testX F_test C2t) (ok_shows_testX F_shows_test C2t) (ok_alike_paperX F_alike_paper C2t) (ok_shows_alikeX F_shows_alike C2t) ML Fv.h0 K0 K1 K2)
end RH
set_option Elab.async false
set_option linter.all false
open PySem PySem.W PyProof.Rows
set_option maxRecDepth 100000 in
set_option maxHeartbeats 0 in
theorem PySem.Challenge.cw_restlesshelf_k16_apart_refused_holds : PySem.Challenge.rw_restlesshelf_k16_apart_refused.Holds := by
  w_on; o_law; k_head; (case hw => w_witness2)
  k_fill
  refine LamX.walk_ofTs (l := PySem.Challenge.rw_restlesshelf_k16_apart_refused) (n := 63) (k := 12) (x := "script") (CX := fun _ => L2.CX0) rfl (by decide) rfl ⟨rfl, by decide, by decide⟩ (fun w h Y => PySem.W.km_in_of Y) ?F (fun _ _ _ _ _ h => h)
  case F =>
    intro w mg fa h Y KX G hmg
    have TT := PySem.W.km_tabs_of Y
    have B : RH.Bu mg := by
      refine' RH.Bu.mk (PySem.W.mg_none_of KX G ?z0) (PySem.W.mg_none_of KX G ?z1) (PySem.W.mg_none_of KX G ?z2) (PySem.W.mg_none_of KX G ?z3) (PySem.W.mg_none_of KX G ?z4) (PySem.W.mg_none_of KX G ?z5) (PySem.W.mg_none_of KX G ?z6) (PySem.W.mg_none_of KX G ?z7) (PySem.W.mg_none_of KX G ?z8) (PySem.W.mg_none_of KX G ?z9) (PySem.W.mg_none_of KX G ?z10) (PySem.W.mg_none_of KX G ?z11) (PySem.W.mg_none_of KX G ?z12)
      (case z0 => k_is); (case z1 => k_is); (case z2 => k_is); (case z3 => k_is); (case z4 => k_is); (case z5 => k_is); (case z6 => k_is); (case z7 => k_is); (case z8 => k_is); (case z9 => k_is); (case z10 => k_is); (case z11 => k_is); (case z12 => k_is)
    have c_FEWEST_PLACES : ∃ t, mg "FEWEST_PLACES" = some (.int 2 t) := by
      refine' RH.const_mk KX G ?a
      (case a => k_is)
    have c_MOST_PLACES : ∃ t, mg "MOST_PLACES" = some (.int 5 t) := by
      refine' RH.const_mk KX G ?a
      (case a => k_is)
    have F_is_integer : RH.Df (RH.kOf KX) mg "is_integer" RH.st_is_integer ["value"] := by
      refine' RH.df_mk KX G ?a ?l ?c ?k (fun _ _ _ _ _ _ us hl => match us, hl with | [_], _ => rfl)
      (case a => k_is); (case l => k_is); (case c => k_is); (case k => k_is)
    have F_is_number : RH.Df (RH.kOf KX) mg "is_number" RH.st_is_number ["value", "low", "high"] := by
      refine' RH.df_mk KX G ?a ?l ?c ?k (fun _ _ _ _ _ _ us hl => match us, hl with | [_, _, _], _ => rfl)
      (case a => k_is); (case l => k_is); (case c => k_is); (case k => k_is)
    have F_is_row : RH.Df (RH.kOf KX) mg "is_row" RH.st_is_row ["value", "low", "high"] := by
      refine' RH.df_mk KX G ?a ?l ?c ?k (fun _ _ _ _ _ _ us hl => match us, hl with | [_, _, _], _ => rfl)
      (case a => k_is); (case l => k_is); (case c => k_is); (case k => k_is)
    have F_is_place : RH.Df (RH.kOf KX) mg "is_place" RH.st_is_place ["value", "places"] := by
      refine' RH.df_mk KX G ?a ?l ?c ?k (fun _ _ _ _ _ _ us hl => match us, hl with | [_, _], _ => rfl)
      (case a => k_is); (case l => k_is); (case c => k_is); (case k => k_is)
    have F_are_places : RH.Df (RH.kOf KX) mg "are_places" RH.st_are_places ["value", "places"] := by
      refine' RH.df_mk KX G ?a ?l ?c ?k (fun _ _ _ _ _ _ us hl => match us, hl with | [_, _], _ => rfl)
      (case a => k_is); (case l => k_is); (case c => k_is); (case k => k_is)
    have F_is_rising : RH.Df (RH.kOf KX) mg "is_rising" RH.st_is_rising ["row"] := by
      refine' RH.df_mk KX G ?a ?l ?c ?k (fun _ _ _ _ _ _ us hl => match us, hl with | [_], _ => rfl)
      (case a => k_is); (case l => k_is); (case c => k_is); (case k => k_is)
    have F_is_layout : RH.Df (RH.kOf KX) mg "is_layout" RH.st_is_layout ["value", "places"] := by
      refine' RH.df_mk KX G ?a ?l ?c ?k (fun _ _ _ _ _ _ us hl => match us, hl with | [_, _], _ => rfl)
      (case a => k_is); (case l => k_is); (case c => k_is); (case k => k_is)
    have F_is_habit : RH.Df (RH.kOf KX) mg "is_habit" RH.st_is_habit ["value"] := by
      refine' RH.df_mk KX G ?a ?l ?c ?k (fun _ _ _ _ _ _ us hl => match us, hl with | [_], _ => rfl)
      (case a => k_is); (case l => k_is); (case c => k_is); (case k => k_is)
    have F_check_habits : RH.DfD (RH.kOf KX) mg "check_habits" RH.st_check_habits ["habits", "most"] [.int 3] := by
      refine' RH.dfD_mk (n0 := 1) KX G ?a ?l ?c ?k ?lT ?oT ?hv (by simp) rfl (fun _ _ _ _ _ _ _ us its hl h2 => match us, its, hl, h2 with | [_], [_], _, _ => ⟨_, rfl, rfl⟩)
      (case a => k_is); (case l => k_is); (case c => k_is); (case k => k_is); (case lT => k_is); (case oT => exact rfl); (case hv => exact .cons ⟨_, rfl⟩ .nil)
    have F_is_lot : RH.Df (RH.kOf KX) mg "is_lot" RH.st_is_lot ["value", "places"] := by
      refine' RH.df_mk KX G ?a ?l ?c ?k (fun _ _ _ _ _ _ us hl => match us, hl with | [_, _], _ => rfl)
      (case a => k_is); (case l => k_is); (case c => k_is); (case k => k_is)
    have F_check_lot : RH.Df (RH.kOf KX) mg "check_lot" RH.st_check_lot ["lot", "places"] := by
      refine' RH.df_mk KX G ?a ?l ?c ?k (fun _ _ _ _ _ _ us hl => match us, hl with | [_, _], _ => rfl)
      (case a => k_is); (case l => k_is); (case c => k_is); (case k => k_is)
    have F_test : RH.Df (RH.kOf KX) mg "test" RH.st_test ["habit", "other", "lot"] := by
      refine' RH.df_mk KX G ?a ?l ?c ?k (fun _ _ _ _ _ _ us hl => match us, hl with | [_, _, _], _ => rfl)
      (case a => k_is); (case l => k_is); (case c => k_is); (case k => k_is)
    have F_shows_test : RH.Df (RH.kOf KX) mg "shows_test" RH.st_shows_test ["habit", "other", "lot", "value"] := by
      refine' RH.df_mk KX G ?a ?l ?c ?k (fun _ _ _ _ _ _ us hl => match us, hl with | [_, _, _, _], _ => rfl)
      (case a => k_is); (case l => k_is); (case c => k_is); (case k => k_is)
    have F_alike_paper : RH.Df (RH.kOf KX) mg "alike_paper" RH.st_alike_paper ["habit", "other", "lot"] := by
      refine' RH.df_mk KX G ?a ?l ?c ?k (fun _ _ _ _ _ _ us hl => match us, hl with | [_, _, _], _ => rfl)
      (case a => k_is); (case l => k_is); (case c => k_is); (case k => k_is)
    have F_shows_alike : RH.Df (RH.kOf KX) mg "shows_alike" RH.st_shows_alike ["habit", "other", "lot", "value"] := by
      refine' RH.df_mk KX G ?a ?l ?c ?k (fun _ _ _ _ _ _ us hl => match us, hl with | [_, _, _, _], _ => rfl)
      (case a => k_is); (case l => k_is); (case c => k_is); (case k => k_is)
    have F_habits_left : RH.Df (RH.kOf KX) mg "habits_left" RH.st_habits_left ["habits", "lot", "place", "word", "read", "is_marked"] := by
      refine' RH.df_mk KX G ?a ?l ?c ?k (fun _ _ _ _ _ _ us hl => match us, hl with | [_, _, _, _, _, _], _ => rfl)
      (case a => k_is); (case l => k_is); (case c => k_is); (case k => k_is)
    have F_check_two : RH.Df (RH.kOf KX) mg "check_two" RH.st_check_two ["habit", "other", "lot"] := by
      refine' RH.df_mk KX G ?a ?l ?c ?k (fun _ _ _ _ _ _ us hl => match us, hl with | [_, _, _], _ => rfl)
      (case a => k_is); (case l => k_is); (case c => k_is); (case k => k_is)
    have F_is_of_lot : RH.Df (RH.kOf KX) mg "is_of_lot" RH.st_is_of_lot ["value", "lot", "places"] := by
      refine' RH.df_mk KX G ?a ?l ?c ?k (fun _ _ _ _ _ _ us hl => match us, hl with | [_, _, _], _ => rfl)
      (case a => k_is); (case l => k_is); (case c => k_is); (case k => k_is)
    have F_is_test : RH.Df (RH.kOf KX) mg "is_test" RH.st_is_test ["place", "word", "read", "lot", "places"] := by
      refine' RH.df_mk KX G ?a ?l ?c ?k (fun _ _ _ _ _ _ us hl => match us, hl with | [_, _, _, _, _], _ => rfl)
      (case a => k_is); (case l => k_is); (case c => k_is); (case k => k_is)
    have F__law_taken : RH.Df (RH.kOf KX) mg "_law_taken" RH.st__law_taken ["row", "many"] := by
      refine' RH.df_mk KX G ?a ?l ?c ?k (fun _ _ _ _ _ _ us hl => match us, hl with | [_, _], _ => rfl)
      (case a => k_is); (case l => k_is); (case c => k_is); (case k => k_is)
    have F__law_order : RH.Df (RH.kOf KX) mg "_law_order" RH.st__law_order ["row", "many"] := by
      refine' RH.df_mk KX G ?a ?l ?c ?k (fun _ _ _ _ _ _ us hl => match us, hl with | [_, _], _ => rfl)
      (case a => k_is); (case l => k_is); (case c => k_is); (case k => k_is)
    have F__law_habit : RH.Df (RH.kOf KX) mg "_law_habit" RH.st__law_habit ["row", "places"] := by
      refine' RH.df_mk KX G ?a ?l ?c ?k (fun _ _ _ _ _ _ us hl => match us, hl with | [_, _], _ => rfl)
      (case a => k_is); (case l => k_is); (case c => k_is); (case k => k_is)
    have F__law_pick : RH.Df (RH.kOf KX) mg "_law_pick" RH.st__law_pick ["row", "things"] := by
      refine' RH.df_mk KX G ?a ?l ?c ?k (fun _ _ _ _ _ _ us hl => match us, hl with | [_, _], _ => rfl)
      (case a => k_is); (case l => k_is); (case c => k_is); (case k => k_is)
    have F__law_refused : RH.Df (RH.kOf KX) mg "_law_refused" RH.st__law_refused ["work"] := by
      refine' RH.df_mk KX G ?a ?l ?c ?k (fun _ _ _ _ _ _ us hl => match us, hl with | [_], _ => rfl)
      (case a => k_is); (case l => k_is); (case c => k_is); (case k => k_is)
    have F_law : RH.Df (RH.kOf KX) mg "law" RH.st_law ["script"] := by
      refine' RH.df_mk KX G ?a ?l ?c ?k (fun _ _ _ _ _ _ us hl => match us, hl with | [_], _ => rfl)
      (case a => k_is); (case l => k_is); (case c => k_is); (case k => k_is)
    obtain ⟨S, c0, c1, c2, Fv, x0, no0, bh, Xp, Xa, K0, K1, K2⟩ : ∃ S c0 c1 c2, RH.Five mg S c0 c1 c2 ∧ L2.ExcC (RH.kOf KX) c0 ∧ PySem.W.findIn (RH.kOf KX) (.ref c0) "index" = some none ∧ (∀ w base, RH.BhX (PySem.Challenge.rw_restlesshelf_k16_apart_refused).prog w (RH.kOf KX) mg base c0 (RH.spBI c0)) ∧ RH.ExO (RH.kOf KX) mg "BadPlace" c1 ∧ RH.ExO (RH.kOf KX) mg "BadAnswer" c2 ∧ RH.Knd (RH.kOf KX) mg c0 0 ∧ RH.Knd (RH.kOf KX) mg c1 1 ∧ RH.Knd (RH.kOf KX) mg c2 2 := by
      refine' Exists.elim (RH.errs_mk (PySem.Challenge.rw_restlesshelf_k16_apart_refused).prog KX G ?aS ?a0 ?a1 ?a2 ?kp0 ?b0 ?t0 ?xg0 ?xk0 ?xd0 ?xa0 ?xm0 ?es0 ?o00 ?o01 ?o02 ?q1 ?kp1 ?b1 ?t1 ?xg1 ?xk1 ?xd1 ?xa1 ?xm1 ?es1 ?o10 ?o11 ?o12 ?q2 ?kp2 ?b2 ?t2 ?xg2 ?xk2 ?xd2 ?xa2 ?xm2 ?es2 ?o20 ?o21 ?o22 ?xn ?xt ?yL ?yR ?ysa ?yno ?yi ?yt ?yl ?yc ?yo ?yf ?yk ?ym ?ya ?ys ?yv ?yg ?yp) (fun C hC => ⟨C, hC⟩)
      (case aS => k_is); (case a0 => k_is); (case a1 => k_is); (case a2 => k_is); (case kp0 => k_is); (case b0 => k_is); (case t0 => k_is); (case xg0 => k_is)
      (case xk0 => k_is); (case xd0 => k_is); (case xa0 => k_is); (case xm0 => k_is); (case es0 => kts_exm); (case o00 => kit_is); (case o01 => kit_is); (case o02 => kit_is)
      (case q1 => k_exc); (case kp1 => k_is); (case b1 => k_is); (case t1 => k_is); (case xg1 => k_is); (case xk1 => k_is); (case xd1 => k_is); (case xa1 => k_is)
      (case xm1 => k_is); (case es1 => kts_exm); (case o10 => kit_is); (case o11 => kit_is); (case o12 => kit_is); (case q2 => k_exc); (case kp2 => k_is); (case b2 => k_is)
      (case t2 => k_is); (case xg2 => k_is); (case xk2 => k_is); (case xd2 => k_is); (case xa2 => k_is); (case xm2 => k_is); (case es2 => kts_exm); (case o20 => kit_is)
      (case o21 => kit_is); (case o22 => kit_is); (case xn => k_is); (case xt => k_is); (case yL => k_is); (case yR => first | rfl | decide +kernel | kernel_rfl); (case ysa => k_is); (case yno => k_is)
      (case yi => k_is); (case yt => k_is); (case yl => k_is); (case yc => k_is); (case yo => k_is); (case yf => first | rfl | decide +kernel | kernel_rfl); (case yk => k_is); (case ym => k_is)
      (case ya => k_is); (case ys => ks_is); (case yv => k_is); (case yg => k_is); (case yp => first | rfl | decide +kernel | kernel_rfl)
    obtain ⟨k1, p1, k2, p2, M1, M2, hpp⟩ : ∃ k1 p1 k2 p2, RH.Mkr (RH.kOf KX) h mg "_law_works" RH.st__law_works ["one", "other", "third"] k1 p1 ∧ RH.Mkr (RH.kOf KX) h mg "_law_lefts" RH.st__law_lefts ["one", "other", "third", "fourth", "fifth", "sixth"] k2 p2 ∧ p1 ≠ p2 := by
      refine' RH.two (RH.mkr KX G ?a ?l ?c ?k ?lc ?t ?d ?e ?g (fun _ _ _ _ _ _ us hl => match us, hl with | [_, _, _], _ => rfl)) (RH.mkr KX G ?a2 ?l2 ?c2 ?k2 ?lc2 ?t2 ?d2 ?e2 ?g2 (fun _ _ _ _ _ _ us hl => match us, hl with | [_, _, _, _, _, _], _ => rfl)) ?n
      (case a => k_is); (case l => k_is); (case c => k_is); (case k => k_is); (case lc => k_is); (case t => rfl); (case e => first | rfl | kernel_rfl | (with_unfolding_all rfl)); (case g => exact TT _ (by decide)); (case d => exact fun K' e => by unfold PySem.W.codeHdIn; rw [e]; rfl)
      (case a2 => k_is); (case l2 => k_is); (case c2 => k_is); (case k2 => k_is); (case lc2 => k_is); (case t2 => rfl); (case e2 => first | rfl | kernel_rfl | (with_unfolding_all rfl)); (case g2 => exact TT _ (by decide)); (case d2 => exact fun K' e => by unfold PySem.W.codeHdIn; rw [e]; rfl)
      (case n => decide)
    obtain ⟨F__law_works, hk1, hl1, hm1⟩ := M1
    obtain ⟨F__law_lefts, hk2, hl2, hm2⟩ := M2
    obtain ⟨fd, hb, hF⟩ := RH.top (P := (PySem.Challenge.rw_restlesshelf_k16_apart_refused).prog) (w := w) hmg B c_FEWEST_PLACES c_MOST_PLACES hpp Fv x0 no0 (bh w) Xp Xa K0 K1 K2 F_is_integer F_is_number F_is_row F_is_place F_are_places F_is_rising F_is_layout F_is_habit F_check_habits F_is_lot F_check_lot F_test F_shows_test F_alike_paper F_shows_alike F_habits_left F_check_two F_is_of_lot F_is_test F__law_taken F__law_order F__law_habit F__law_pick F__law_refused F__law_works F__law_lefts F_law
    refine ⟨fd, [(k1, p1), (k2, p2)], RH.spEnd (RH.kOf KX) (RH.tabsL p1 p2), ?_, ?_, ?_, hb, ?_, ?_⟩
    · intro p hp
      rcases List.mem_cons.mp hp with e | hp
      · rw [e]; exact hm1
      · rw [List.mem_singleton.mp hp]; exact hm2
    · intro p hp
      rcases List.mem_cons.mp hp with e | hp
      · rw [e]; exact hl1
      · rw [List.mem_singleton.mp hp]; exact hl2
    · intro p hp
      rcases List.mem_cons.mp hp with e | hp
      · rw [e]; exact hk1
      · rw [List.mem_singleton.mp hp]; exact hk2
    · intro H a ns _ _ hH hS
      refine ⟨a, ns, rfl, hS, fun p hp => ?_, fun _ => rfl⟩
      rcases List.mem_cons.mp hp with e | hp
      · rw [e]; exact LamX.TabS.nil (hH (k1, p1) (List.mem_cons_self ..))
      · rw [List.mem_singleton.mp hp]; exact LamX.TabS.nil (hH (k2, p2) (List.mem_cons_of_mem _ (List.mem_singleton.mpr rfl)))
    · intro base _ _ TB
      exact hF base (TB (k1, p1) (List.mem_cons_self ..)) (TB (k2, p2) (List.mem_cons_of_mem _ (List.mem_singleton.mpr rfl)))
