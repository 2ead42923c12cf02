import PyProof.Rows.All
import Wide.All
import OpenK.AllK
import Wide.FinOn
import HandS.ForMost
import HandS.Exc
import HandS.TryOnly
import HandS.ExcOwn
import HandS.WordsExc
import HandS.IsInst
import HandS.Conv
import HandS.Sort
import HandS.SortInts
import HandS.Zip
import HandS.Zip0
import HandS.Wide
import HandS.Deep
import HandS.Flow
import HandS.Style
import HandS.TupAny
import KE.GoesEnum
import KE.KEqSeq
import KE.KEqDeep
import PyProof.TupleOfSeq
import HandS.Lambda
import HandS.Nested
import HandS.EndTab
import KE.KDictDisplayH
import KE.KDictCopyH
import KE.KIndexOf
import HandS.Dict
import HandS.DictTup
import HandS.TupLen
import HandS.Defaults
import HandS.SortRule
import KE.GoesZip
import PySem.Challenge.RW_restlesshelf_k13_whole_tests
set_option Elab.async false
set_option linter.all false
set_option maxRecDepth 100000
set_option maxHeartbeats 2000000
/-! Two rules more: a walk over enumerate of a tuple, sorted of a tuple of ints. -/
namespace RH
open PySem PySem.Spec PyProof.Rows L2
theorem made_enumB {v : Value} {o : Obj} {H : Heap → Prop} (B : Begins v o H) :
    Meets (Builtin.«enumerate.__new__» ⟨[.type "enumerate", v], []⟩) (fun _ R s => H s.heap ∧
      R (.ok (.ret (.ref (s.heap.push o).objs.size))) { s with heap := (s.heap.push o).push { cls := .type "enumerate", data := .fields #[.none, .bool false, .ref s.heap.objs.size, rawInt 0, .none, .none] } }) :=
  .of_wp fun prog w A R s h => by
    obtain ⟨hp, g, d, tz, oz⟩ := s; obtain ⟨h1, h⟩ := h
    have hsub := sub_enumerate
    have q1 : ∀ {A' : Around} {E : Value → Shared → Prop} {Q : Value → Shared → Prop}, Q (.ref hp.objs.size) ⟨hp.push o, g, d, tz, oz⟩ → wpAny (model prog w) A' (pyIter v) Q E ⟨hp, g, d, tz, oz⟩ :=
      fun q => B.iter prog w _ _ ⟨hp, g, d, tz, oz⟩ _ h1 q
    wp_walk using q1
    refine wpAny_stack_any fun st => wpAny_pure ?_
    split
    · rename_i c _ _ _ _ _
      cases (c == Value.type "enumerate")
      · wp_walk using q1
        exact ⟨_, rfl, h⟩
      · wp_walk using q1
        exact ⟨_, rfl, h⟩
    · wp_walk using q1
      exact ⟨_, rfl, h⟩
section
variable {prog : Program} {w : World} {A : Around} {E : Value → Shared → Prop} {s : Shared}
theorem enum_one {v : Value} {o : Obj} {H : Heap → Prop} {Q : Value → Shared → Prop} (B : Begins v o H) (h1 : H s.heap)
    (h : ∀ h', IsEnum h' (s.heap.objs.size + 1) s.heap.objs.size 0 .none → h'.get? s.heap.objs.size = some o → h'.objs.size = s.heap.objs.size + 2 →
      (∀ b o, s.heap.get? b = some o → h'.get? b = some o) → Q (.ref (s.heap.objs.size + 1)) { s with heap := h' }) :
    wpAny (model prog w) A (call (.type "enumerate") [v]) Q E s := by
  refine callType_new F.called_enumerate (by decide) (F.typeCall_enumerate_1 _) (F.newCall_enumerate_1 _) (fun obj => F.args_object_init_2 obj _) F.entry_enumerate_new
    (made_enumB B) ⟨h1, ?_⟩
  have hZ : (s.heap.push o).objs.size = s.heap.objs.size + 1 := Heap.size_push ..
  show _ ∧ _
  rw [hZ]
  have he : IsEnum ((s.heap.push o).push { cls := .type "enumerate", data := .fields #[.none, .bool false, .ref s.heap.objs.size, rawInt 0, .none, .none] }) (s.heap.objs.size + 1) s.heap.objs.size 0 .none := by
    have := Heap.get?_push_size (s.heap.push o) (o := { cls := .type "enumerate", data := .fields #[.none, .bool false, .ref s.heap.objs.size, rawInt 0, .none, .none] }) rfl
    rw [hZ] at this; exact this
  refine ⟨⟨_, he, rfl⟩, h _ he (Heap.get?_push_of_some _ (Heap.get?_push_size _ B.free)) (by rw [Heap.size_push, hZ]) fun b o x => Heap.get?_push_of_some _ (Heap.get?_push_of_some _ x)⟩
end
/-- the tuple at a, each item with vz number in a new pair -/
def IteT (K : PySem.W.Frag) (a : Addr) : It :=
  ⟨fun i H => ∃ (xs : List V) (x : V), SqT K H a xs ∧ xs[i]? = some x, fun i H v H' => ∃ T x, v = .ref T ∧ H T = none ∧ H' = upd H T (.tup [.int (i : Nat), x]) ∧ ∀ xs, SqT K H a xs → xs[i]? = some x, fun i H => ∃ xs : List V, SqT K H a xs ∧ xs.length ≤ i⟩
theorem ne_enum {h : Heap} {e it a : Addr} {i : Int} {old : Value} {vz : Array Value} (he : IsEnum h e it i old) (p : IsTup h a vz) : e ≠ a := fun z => by
  obtain ⟨o, hO, hC, _⟩ := p
  rw [← z, he] at hO
  cases hO
  exact absurd (Value.type.inj hC) (by decide)
theorem turn_enumT {P : Program} {w : World} {K : PySem.W.Frag} {elts : List Expr} {kk : Nat} {tpos : Pos} (a e it : Addr) :
    Turn P w K (.Tuple elts kk tpos) (IteT K a) [e, it] e (fun i h => (∃ old, IsEnum h e it ((i : Nat) : Int) old) ∧ h.IsTupleIter it a i ∧ e ≠ it ∧ a ≠ it) where
  mem := by simp
  obj := fun i h st b hb => by
    obtain ⟨⟨old, he⟩, ⟨o, hO, hC, hD⟩, _⟩ := st
    have e' : b = e ∨ b = it := by simpa using hb
    rcases e' with z | z
    · rw [z]; exact ⟨_, he, fun v q => nomatch q⟩
    · rw [z]; exact ⟨o, hO, fun v q => by rw [hD] at q; cases q⟩
  keep := fun i h h' st k => let ⟨⟨old, he⟩, hi, nEI⟩ := st; ⟨⟨old, k e (by simp) _ he⟩, hi.at fun o q => k it (by simp) o q, nEI⟩
  item := by
    intro X hP hw hK hC i pins s σ H E I hf st hg
    subst hP hw hK
    obtain ⟨⟨old, he⟩, hIt, nEI, nAI⟩ := st
    obtain ⟨xs, x, hSq, hx⟩ := hg
    obtain ⟨vz, rz, p, hZ⟩ := I.tuple hSq
    obtain ⟨u, hu, ru⟩ := rz.get hx
    have ltE : e < s.heap.objs.size := Heap.lt_size he
    have ltI : it < s.heap.objs.size := by obtain ⟨_, q, _⟩ := hIt; exact Heap.lt_size q
    have hlt : i < vz.toArray.size := by
      have := (List.getElem?_eq_some_iff.mp hu).1
      simpa using this
    refine wpAny_pyNext_enum_itemD (Draws.tuple (show X.A.in1.handled = none from I.ok.hd hC) it a nAI vz.toArray) he ⟨hIt, p⟩ hlt nEI (by
      intro hm
      have e' : e = it ∨ e = a := by simpa using hm
      rcases e' with z | z
      · exact nEI z
      · exact ne_enum he p z) fun x' h' tz hP' hO hit' hT hSz kp => ?_
    have ex : x' = u := by
      have h2 : vz.toArray[i]? = some u := by simpa using hu
      rw [h2] at hP'
      exact (Option.some.inj hP').symm
    subst ex
    refine ⟨_, rfl, wpAny_letOwnedTupleGo_enum (s := { s with heap := h', toks := tz + 1 }) hO fun h'' he' sbu => ?_⟩
    have hT2 : h''.get? s.heap.objs.size = some { cls := .type "tuple", data := .seq #[.int i tz, x'] } := (sbu.2 _ (Nat.ne_of_gt ltE)).trans hT
    have new : ObjOk X.prog X.w (upd H s.heap.objs.size (.tup [.int (i : Nat), x])) h'' s.heap.objs.size (.tup [.int (i : Nat), x]) :=
      ⟨by show 2 ≤ sizeLine; decide, [.int i tz, x'], .cons ⟨_, rfl⟩ (.cons ru .nil), ⟨_, hT2, rfl, _, rfl⟩⟩
    have I1 : Inv X pins σ (upd H s.heap.objs.size (.tup [.int (i : Nat), x])) { s with heap := h'', toks := tz + 1 } :=
      I.turnedNew (ch := [e, it]) (fun b ob hb q => (sbu.2 b (fun z => hb (by simp [z]))).trans (kp b ob (fun z => hb (by simp [z])) (fun z => hb (by simp [z])) q)) hf (Nat.le_refl _) new
    refine ⟨.ref s.heap.objs.size, _, I1, rfl, ⟨_, x, rfl, I.hok.fresh (Nat.le_refl _), rfl, fun ys hy => by rw [I.tuple_inj hy hSq]; exact hx⟩, ⟨⟨x', ?_⟩, hit'.1.at fun o q => (sbu.2 it (Ne.symm nEI)).trans q, nEI, nAI⟩, fun b hb => ?_⟩
    · have e1 : ((i + 1 : Nat) : Int) = (i : Int) + 1 := by omega
      rw [e1]; exact he'
    · have hb' : b < s.heap.objs.size := by
        have e' : b = e ∨ b = it := by simpa using hb
        rcases e' with z | z
        · rw [z]; exact ltE
        · rw [z]; exact ltI
      rw [upd_ne (Nat.ne_of_lt hb')]
      exact (hf b hb).1
  done := by
    intro X hP hw hK hC i pins s σ H E I hf st hg
    subst hP hw hK
    obtain ⟨⟨old, he⟩, hIt, nEI, nAI⟩ := st
    obtain ⟨xs, hSq, hx⟩ := hg
    obtain ⟨vz, rz, p, hZ⟩ := I.tuple hSq
    obtain ⟨f0, f1, f2, f3, f4, f5⟩ := hf it (by simp)
    have hl := rz.length
    have hT : s.TypeIs (.ref e) "enumerate" := ⟨_, he, rfl⟩
    unfold pyNext
    refine wpAny_bind (wpAny_attempt (wpAny_callSpecial?_slot (name := Str.ofString "__next__") hT F.slot_enumerate_next
      (wpAny_call_entry F.slot_enumerate_next hT F.entry_enumerate_next ?_ (F.args_enumerate_next_1 _))))
    show wpAny _ _ (field (.ref e) 2 >>= _) _ _ _
    refine wpAny_bind (wpAny_field he rfl (x := .ref it) rfl ?_)
    refine wpAny_bind (wpAny_nextOf_tuple_end (show X.A.in1.handled = none from I.ok.hd hC) hIt p (by simp; omega) fun h' x he' hx' => ?_)
    obtain ⟨o, hO, hc'⟩ := hx'
    refine wpAny_bind (wpAny_isInstance (T := "StopIteration") (b := true) ⟨o, hO, hc'⟩ isSubtype_stop ?_)
    exact wpAny_pure ⟨rfl, I.turned (t' := s.toks) (fun b o hb q => he' b o hb q) f0 f1 f3 f4 f5⟩
  self := fun A i s Q E st h => let ⟨⟨_, he⟩, _⟩ := st; wpAny_pyIter_enum he h
def iEnumT (K : PySem.W.Frag) (ta : TA) : TI := fun σ H R => ta σ H fun vs H1 => ∃ a xs, vs = [.ref a] ∧ SqT K H1 a xs ∧ R (IteT K a) H1
theorem pi_enumT {X : Cx} {e : Expr} {ta : TA} {p pos tpos : Pos} {elts : List Expr} {kk : Nat} (hg : Gl X "enumerate") (hm : X.mg "enumerate" = none) (ha : PA X [e] ta) (hs : starEach [e] X.env = [(false, eval e X.env)] := by rfl) :
    PI X (.Tuple elts kk tpos) (.Call (.Name "enumerate" p) [e] [] pos) (iEnumT X.K ta) := by
  refine ⟨fun pins s σ H R I h => ?_⟩
  refine Call_ (ld_blt I hg hm boot_enumerate (PyProof.Rows.callWith_type1 (thn (ha.run pos pins s σ H _ I h) fun us s1 ⟨vs, H1, I1, r1, q1⟩ => ?_) hs rfl))
  obtain ⟨a, xs, ex, hSq, q⟩ := q1
  subst ex
  cases r1 with
  | cons r rr =>
    cases rr
    cases r
    obtain ⟨vz, rz, p', hZ⟩ := I1.tuple hSq
    have hal : a < s1.heap.objs.size := by obtain ⟨_, q', _⟩ := id p'; exact Heap.lt_size q'
    refine enum_one (begins_tuple a vz.toArray) p' fun h' he hIt hSz kp => wpAny_pyIter_enum he ?_
    have I2 : Inv X pins σ H1 { s1 with heap := h' } := I1.kept (t' := s1.toks) kp
    refine ⟨s1.heap.objs.size + 1, [s1.heap.objs.size + 1, s1.heap.objs.size], _, _, H1, rfl, I2, turn_enumT a (s1.heap.objs.size + 1) s1.heap.objs.size, ⟨⟨.none, he⟩, ⟨_, hIt, rfl, rfl⟩, Nat.succ_ne_self _, Nat.ne_of_lt hal⟩, fun b hb => ?_, q⟩
    have e' : b = s1.heap.objs.size + 1 ∨ b = s1.heap.objs.size := by simpa using hb
    have hle : s1.heap.objs.size ≤ b := by
      rcases e' with z | z
      · rw [z]; exact Nat.le_add_right _ _
      · rw [z]; exact Nat.le_refl _
    exact I1.fpOk hle (I1.hok.fresh hle)
/-! ### sorted(a tuple of ints) -/
def rSortedTup (K : PySem.W.Frag) : List V → Hp → VK → Prop := fun vs H Q => ∃ (a : Addr) (ns : List Int), vs = [V.ref a] ∧ SqT K H a (ns.map V.int) ∧ ns.length < 64 ∧
  ∀ (ns' : List Int) (p : Addr), ns'.Perm ns → ns'.Pairwise (· ≤ ·) → H p = none → Q (.ref p) (upd H p (.lst (ns'.map V.int)))
section
variable {prog : Program} {w : World} {A : Around} {E : Value → Shared → Prop} {s : Shared}
theorem collect_tup {l : Addr} {vs : List Value} {Q : List Value → Shared → Prop} (hl : IsTup s.heap l vs.toArray)
    (h : Q vs { s with heap := (s.heap.push (seqObj "list" #[] 0)).update s.heap.objs.size (Obj.mapSeq (· ++ vs.toArray)) }) (hSz : vs.length ≤ sizeLine := by size_fits) :
    wpAny (model prog w) A (collect (.ref l)) Q E s := by
  obtain ⟨o, hO, hC, n, hD⟩ := id hl
  unfold collect
  refine wpAny_bind (wpAny_runValue (codeAny_builtin F.entry_proto_collect ?_))
  rw [Around.under_plainId F.plain_proto_collect _]
  show wpAny _ A.in1 (newList [] >>= fun l' => again (.builtin "list.__iadd__" ⟨[l', .ref l], []⟩)) _ _ s
  refine wpAny_bind (wpAny_newList (wpAny_pure ⟨plainId_quiet F.plain_list_iadd _, codeAny_builtin F.entry_list_iadd ?_⟩))
  rw [Around.under_plainId F.plain_list_iadd _]
  show wpAny _ _ (Builtin.List.listExtendWith (.ref s.heap.objs.size) (.ref l) (.ref s.heap.objs.size)) _ _ { s with heap := s.heap.push (seqObj "list" #[] 0) }
  unfold Builtin.List.listExtendWith
  have ho' : (s.heap.push (seqObj "list" #[] 0)).get? l = some o := Heap.get?_push_of_some _ hO
  refine wpAny_bind (wpAny_typeOf (T := "tuple") ⟨o, ho', hC⟩ ?_)
  have hT0 : (Value.type "tuple" == Value.type "tuple") = true := by rfl
  rw [if_pos (by rw [hT0]; simp)]
  refine wpAny_bind (listItems_at ho' hD ?_)
  refine wpAny_bind (listItems_at (xs := #[]) (n := 0) (Heap.get?_push_size _ rfl) rfl ?_)
  rw [if_neg (by simp)]
  refine wpAny_bind (listUpdate_at (xs := #[]) (n := 0) (Heap.get?_push_size _ rfl) rfl ?_ (Nat.zero_le _) (by show (#[] ++ vs.toArray).size ≤ sizeLine + 1; simp only [Array.size_append, List.size_toArray, List.length_nil]; omega))
  refine wpAny_pure ?_
  show wpAny (model prog w) A (do
      let o ← load s.heap.objs.size
      match o.data with
      | .seq xs _ => pure xs.toList
      | _ => unsupported "internal:collect") Q E { s with heap := (s.heap.push (seqObj "list" #[] 0)).update s.heap.objs.size (Obj.mapSeq (· ++ vs.toArray)) }
  refine wpAny_bind (wpAny_load (get?_update_seq (Heap.get?_push_size _ rfl) _) ?_)
  show wpAny _ _ (pure ((#[] : Array Value) ++ vs.toArray).toList) Q E _
  rw [show ((#[] : Array Value) ++ vs.toArray).toList = vs by simp]
  exact wpAny_pure h
theorem sorted_intsT {l : Addr} {vs : List Value} {ns : List Int} {Q : Value → Shared → Prop} (hl : IsTup s.heap l vs.toArray) (hI : IntsAre vs ns) (h64 : vs.length < 64)
    (h : ∀ (out : Array Value) (ns' : List Int), IntsAre out.toList ns' → ns'.Perm ns → ns'.Pairwise (· ≤ ·) → Q (.ref (s.heap.objs.size + 1)) { s with heap := sortedAll s.heap vs out }) :
    wpAny (model prog w) A (call (.builtin "sorted") [.ref l]) Q E s := by
  refine Calls.call_function_entry kind_sorted plain_sorted entry_sorted (args_sorted1 _) ?_
  unfold Builtin.«sorted»
  refine wpAny_bind (m := checkCount "sorted" 1 1 _) (wpAny_pure ?_)
  have hsz0 : vs.length ≤ sizeLine := by
    rw [sizeLine_eq]
    omega
  refine wpAny_bind (collect_tup (hSz := hsz0) hl ?_)
  refine wpAny_bind (wpAny_newList ?_)
  have hSz : ((s.heap.push (seqObj "list" #[] 0)).update s.heap.objs.size (Obj.mapSeq (· ++ vs.toArray))).objs.size = s.heap.objs.size + 1 := by
    rw [Heap.size_update, size_push']
  have hOL : (((s.heap.push (seqObj "list" #[] 0)).update s.heap.objs.size (Obj.mapSeq (· ++ vs.toArray))).push (seqObj "list" vs.toArray 0)).get? (s.heap.objs.size + 1) = some (seqObj "list" vs.toArray 0) := by
    rw [← hSz]; exact Heap.get?_push_size _ rfl
  show wpAny _ _ _ _ _ { s with heap := ((s.heap.push (seqObj "list" #[] 0)).update s.heap.objs.size (Obj.mapSeq (· ++ vs.toArray))).push (seqObj "list" vs.toArray 0) }
  rw [hSz]
  refine wpAny_bind (wpAny_holding (wpAny_call_entry slot_list_sort ⟨_, hOL, rfl⟩ entry_list_sort (list_sort_tree hOL hI h64 fun out ns' a1 a2 a3 => ⟨_, rfl, ?_⟩) (args_list_sort _)))
  exact wpAny_pure ⟨_, rfl, h out ns' a1 a2 a3⟩
end
theorem cr_sortedTup {X : Cx} : CallR X (.builtin "sorted") (rSortedTup X.K) := by
  intro pins s σ H vs us Q I r h
  obtain ⟨a, ns, rfl, hs, h64, q⟩ := h
  obtain ⟨vz, rz, hl, _⟩ := I.tuple hs
  rw [Vals.ref1 r]
  have hi := rz.ints
  refine sorted_intsT hl hi (by rw [hi.length]; exact h64) fun out ns' h1 h2 h3 => ?_
  obtain ⟨ep, he'⟩ := PyProof.Rows.sortedAll_at s.heap vz out
  have hLn : (ns'.map V.int).length ≤ sizeLine := by rw [List.length_map, h2.length_eq]; exact small64 h64
  exact ⟨.ref _, upd H (s.heap.objs.size + 1) (.lst (ns'.map V.int)), I.laid (t' := s.toks) (fun _ _ => PyProof.Rows.sortedAll_old) (Nat.le_succ _) ⟨hLn, out.toList, ep, vals_of_ints h1, he'⟩, rfl, q ns' _ h2 h3 (I.hok.fresh (Nat.le_succ _))⟩
end RH
set_option Elab.async false
set_option linter.all false
set_option maxRecDepth 100000
set_option maxHeartbeats 2000000
/-! Lambdas with parameters and captured names, as values: made, handed to a def of the text, called there. -/
namespace RH
open PySem PySem.Spec PyProof.Rows L2
open LamX (Tabs TabS TabB ExtN CodeO codeO_ne inv_table among_app)
open NdefX (NF CellsAt NScope startF ncx inv_startN codeO_at slotAt Caps cells_of upd_none)
/-- a lambda's words, what it captured, its code object -/
structure LF where
  qual : Str
  params : Arguments
  body : Expr
  scope : Scope
  cl : List (Str × Addr)
  c : Addr
abbrev LF.fd (F : LF) (pm ctv : Value) : FuncData := PySem.W.kla_fn "<lambda>" F.qual F.params F.body F.scope F.cl pm (.ref F.c) ctv
abbrev LF.nf (F : LF) : NF := ⟨"<lambda>", F.qual, F.params, [], F.scope, F.cl, F.c⟩
/-- the object at f is this lambda -/
def FnL (f : Addr) (F : LF) : HO := .ext fun h => ∃ (od : Option Addr) (sl : Array (Option Value)) (pm ctv : Value), h.get? f = some (⟨.type "function", od, .func (F.fd pm ctv), sl⟩ : Obj)
theorem fnL_ne {f : Addr} {F : LF} (ps : Array Value) : FnL f F ≠ .tbl ps := fun z => by
  unfold FnL at z
  cases z
theorem fnL_at {P : Program} {w : World} {H : Hp} {h : Heap} {f : Addr} {F : LF} (hok : HOk P w H h) (e : H f = some (FnL f F)) : ∃ (od : Option Addr) (sl : Array (Option Value)) (pm ctv : Value), h.get? f = some (⟨.type "function", od, .func (F.fd pm ctv), sl⟩ : Obj) := (hok f _ e).1
section
variable {X : Cx} {pins : List (Addr × Obj)} {σ : L2.St} {H : Hp} {s : Shared}
theorem inv_lam {F : LF} {h' : Heap} {t' : Nat} {pm ctv : Value} (I : Inv X pins σ H { s with heap := h', toks := t' }) :
    Inv X pins σ (upd H h'.objs.size (FnL h'.objs.size F)) { s with heap := h'.push { cls := .type "function", data := .func (F.fd pm ctv) }, toks := t' } := by
  refine I.laid (t' := t') (a := h'.objs.size) (fun b u e => Heap.get?_push_of_some _ e) (Nat.le_refl _) ?_
  have e : (h'.push ({ cls := .type "function", data := .func (F.fd pm ctv) } : Obj)).get? h'.objs.size = some ({ cls := .type "function", data := .func (F.fd pm ctv) } : Obj) := Heap.get?_push_size _ rfl
  exact ⟨⟨_, _, pm, ctv, e⟩, ⟨_, e⟩, fun h1 h2 ⟨od, sl, p, t, z⟩ st => ⟨od, sl, p, t, st _ z⟩⟩
/-- the lambda is made -/
theorem lam_made {T : List (Addr × Str)} {c P : Addr} {params : Arguments} {body : Expr} {scope : Scope} {pos : Pos} {E : Value → Shared → Prop} {Q : Value → Shared → Prop} (I : Inv X pins σ H s) (TB : TabB X.base X.mg c P) (hcode : X.env.code = .ref c)
    (hm : (P, X.env.qual ++ "<lambda>") ∈ T) (hu : ∀ p ∈ T, p.1 = P → p.2 = X.env.qual ++ "<lambda>") (hT : Tabs T H) (hdef : defaultsOf params X.env = ([], [])) (hfree : ∀ y ∈ scope.names, y.2 = .free → ∃ c, X.env.cells.lookup y.1 = some c)
    (h : ∀ (f c' : Addr) (H1 : Hp) (s' : Shared), Inv X pins σ H1 s' → ExtN H H1 → (∀ b, H1 b = none → H b = none) → Tabs T H1 → H f = none →
      H1 f = some (FnL f ⟨X.env.qual ++ "<lambda>", params, body, scope, cloFrom X.env.cells scope.names [], c'⟩) → H1 c' = some (CodeO c' (X.env.qual ++ "<lambda>")) → Q (.ref f) s') :
    wpAny (model X.prog X.w) X.A (eval (.Lambda params body scope pos) X.env) Q E s := by
  obtain ⟨ps, hP, ht, ha⟩ := hT _ hm
  refine PySem.W.kla_eval hdef ?_
  have bP : s.heap.BuiltinsAt X.mg P := TB.bm.keeps I.bk
  have hP' : s.heap.get? P = some { cls := .none, data := .fields ps } := I.hok P _ hP
  cases hc : codeAmong pos ps.toList with
  | none =>
    refine PySem.W.kla_makeFunction (mg := X.mg) (c := c) (P := P) (ps := ps) (closure_ok hfree) I.ok.glob (I.mod.glob.keeps I.bk) hcode (TB.code.keeps I.bk) hP' ht hc TB.gP bP fun c' ctv h' tk hx hge hlt hrec htb => ?_
    obtain ⟨c2, oc, vs, t, e2, hoc, hd, hv⟩ := hrec
    cases e2
    have nC : H c' = none := I.hok.fresh hge
    have I1 := inv_table (t' := tk) (more := #[rawInt pos.line, rawInt pos.col, .ref c']) (h' := h') I hP (fun b o hb e => hx b o hb e) htb hge ⟨oc, vs, t, hoc, hd, hv⟩
    generalize hG : upd (upd H P (.tbl (ps ++ #[rawInt pos.line, rawInt pos.col, .ref c']))) c' (CodeO c' (X.env.qual ++ "<lambda>")) = G at I1
    have hE : ExtN H G := fun b o e n => by
      rw [← hG, upd_ne (ne_of_none e nC), upd_ne (fun z => n ps (Option.some.inj (e.symm.trans (by rw [z]; exact hP))))]
      exact e
    have gP : G P = some (.tbl (ps ++ #[rawInt pos.line, rawInt pos.col, .ref c'])) := by rw [← hG, upd_ne (ne_of_none hP nC), upd_same]
    have gC : G c' = some (CodeO c' (X.env.qual ++ "<lambda>")) := by rw [← hG, upd_same]
    have gO : ∀ b ps', b ≠ P → H b = some (.tbl ps') → G b = some (.tbl ps') := fun b ps' nb e => by
      rw [← hG, upd_ne (ne_of_none e nC), upd_ne nb]
      exact e
    have gN : ∀ b, G b = none → H b = none := fun b e => by
      rw [← hG] at e
      exact upd_none (upd_none e)
    have eL : (ps ++ #[rawInt pos.line, rawInt pos.col, .ref c']).toList = ps.toList ++ [rawInt pos.line, rawInt pos.col, .ref c'] := by simp
    have T1 : Tabs T G := fun p hp => by
      by_cases hb : p.1 = P
      · rw [hu p hp hb, hb]
        refine ⟨_, gP, by rw [eL]; exact PySem.TriplesOk_snoc _ _ _ _ ht, fun p' cv hcv => ?_⟩
        rw [eL] at hcv
        rcases among_app _ ht hcv with z | z
        · obtain ⟨c0, e1, e2⟩ := ha p' cv z
          exact ⟨c0, e1, hE _ _ e2 codeO_ne⟩
        · exact ⟨c', z, gC⟩
      · obtain ⟨ps', a1, a2, a3⟩ := hT p hp
        refine ⟨ps', gO _ _ hb a1, a2, fun p' cv hcv => ?_⟩
        obtain ⟨c0, e1, e2⟩ := a3 p' cv hcv
        exact ⟨c0, e1, hE _ _ e2 codeO_ne⟩
    have nF : G h'.objs.size = none := I1.hok.fresh (Nat.le_refl _)
    have I2 := inv_lam (F := ⟨X.env.qual ++ "<lambda>", params, body, scope, cloFrom X.env.cells scope.names [], c'⟩) (pm := (X.mg "__name__").getD .none) (ctv := ctv) I1
    refine h h'.objs.size c' _ _ I2 (fun b o e n => ?_) (fun b e => gN b (upd_none e)) (T1.ext fun b o e => ?_) (gN _ nF) upd_same ?_
    · have e1 := hE b o e n
      exact (upd_ne (ne_of_none e1 nF)).trans e1
    · exact (upd_ne (ne_of_none e nF)).trans e
    · exact (upd_ne (ne_of_none gC nF)).trans gC
  | some cv =>
    obtain ⟨c', e, hco⟩ := ha pos cv hc
    subst e
    refine PySem.W.kla_makeFunctionHit (mg := X.mg) (c := c) (P := P) (ps := ps) (closure_ok hfree) I.ok.glob (I.mod.glob.keeps I.bk) hcode (TB.code.keeps I.bk) hP' ht hc bP fun ctv h' tk hx hsz => ?_
    have I1 : Inv X pins σ H { s with heap := h', toks := tk } := I.kept hx
    have nF : H h'.objs.size = none := I1.hok.fresh (Nat.le_refl _)
    have I2 := inv_lam (F := ⟨X.env.qual ++ "<lambda>", params, body, scope, cloFrom X.env.cells scope.names [], c'⟩) (pm := (X.mg "__name__").getD .none) (ctv := ctv) I1
    refine h h'.objs.size c' _ _ I2 (fun b o e n => ?_) (fun b e => upd_none e) (hT.ext fun b o e => ?_) nF upd_same ?_
    · exact (upd_ne (ne_of_none e nF)).trans e
    · exact (upd_ne (ne_of_none e nF)).trans e
    · exact (upd_ne (ne_of_none hco nF)).trans hco
end
/-- lambda a, b: .. as a value -/
def tLamE (T : List (Addr × Str)) (mk : Addr → LF) : TE := fun _ H Q => Tabs T H ∧ ∀ (f c' : Addr) (H1 : Hp), ExtN H H1 → (∀ b, H1 b = none → H b = none) → Tabs T H1 → H f = none → H1 f = some (FnL f (mk c')) → H1 c' = some (CodeO c' (mk c').qual) → Q (.ref f) H1
theorem pe_lam {X : Cx} {T : List (Addr × Str)} {c P : Addr} {params : Arguments} {body : Expr} {scope : Scope} {pos : Pos} (TB : TabB X.base X.mg c P) (hcode : X.env.code = .ref c)
    (hm : (P, X.env.qual ++ "<lambda>") ∈ T) (hu : ∀ p ∈ T, p.1 = P → p.2 = X.env.qual ++ "<lambda>") (hdef : defaultsOf params X.env = ([], []))
    (hfree : ∀ y ∈ scope.names, y.2 = .free → X.env.scope.names.lookup y.1 = some .cell ∨ X.env.scope.names.lookup y.1 = some .free) :
    PE X (.Lambda params body scope pos) (tLamE T fun c' => ⟨X.env.qual ++ "<lambda>", params, body, scope, cloFrom X.env.cells scope.names [], c'⟩) := by
  refine ⟨fun pins s σ H Q I h => ?_⟩
  obtain ⟨hT, q⟩ := h
  refine lam_made I TB hcode hm hu hT hdef (fun y hy e => (hfree y hy e).elim (fun z => I.ok.has _ (.inl z)) fun z => I.ok.has _ (.inr z)) fun f c' H1 s' I' e n T' hf h1 h2 => ?_
  exact ⟨.ref f, H1, I', rfl, q f c' H1 e n T' hf h1 h2⟩
/-! ### what a lambda promises -/
structure LOk (P : Program) (w : World) (K : PySem.W.Frag) (mg : Str → Option Value) (base : Heap) (CX : CXT) (k : Nat) (f : Addr) (F : LF) (ps fr : List Str) (sp : List (Option V) → Sp) : Prop where
  len : ∀ ws vs H Q E, sp ws vs H Q E → vs.length = ps.length
  run : ∀ (A : Around) (outer : List Env) (s : Shared) (H : Hp) (us : List Value) (vs : List V) (ws : List (Option V)) (Q : VK) (E : XK), Room k A → Env0 P w K mg base A outer s H → H f = some (FnL f F) → H F.c = some (CodeO F.c F.qual) →
    CellsAt F.cl fr ws s.heap H → Vals vs us → sp ws vs H Q E → codeAny (model P w) A (.call (.ref f) ⟨us, []⟩) (CR CX outer P w H s Q E) s
section
variable {CX : CXT} {P : Program} {w : World} {K : PySem.W.Frag} {mg : Str → Option Value} {base : Heap} {N ps fr : List Str} {F : LF} {f : Addr} {k j : Nat} {sp : List (Option V) → Sp}
/-- a lambda by its body -/
theorem lok_of (S : NScope N ps fr F.scope) (hb : ∀ (pm ctv : Value) (us : List Value), us.length = ps.length → bindArgs (F.fd pm ctv) ⟨us, []⟩ = pure (ps.zip us)) (len : ∀ ws vs H Q E, sp ws vs H Q E → vs.length = ps.length)
    (hbody : ∀ (A : Around) (outer : List Env) (s : Shared) (H : Hp) (vs : List V) (ws : List (Option V)) (Q : VK) (E : XK), Room k (A.deeper (NdefX.envF F.nf f s.heap.objs.size)) → ws.length = fr.length → sp ws vs H Q E →
      ∃ t, PE (ncx CX P w K mg base N F.nf f A outer s H E) F.body t ∧ t (startF N vs ws) H Q) :
    LOk P w K mg base CX (k + 1) f F ps fr sp := by
  refine ⟨len, fun A outer s H us vs ws Q E hr e0 hf hc C r hsp => ?_⟩
  have hl := len _ _ _ _ _ hsp
  have lim : s.heap.NoLimit := e0.mod.nolimit.keeps fun b o e => (e0.bs b o e).1
  obtain ⟨od, sl, pm, ctv, ho⟩ := fnL_at e0.hok hf
  refine PySem.W.kla_callFunE hr.depth ho rfl S.co S.gen rfl (codeO_at e0.hok hc) ?_
  rw [hb pm ctv us (by rw [← r.length]; exact hl)]
  refine wpAny_pure (wpAny_newFunctionEnv S.nocell (fun ⟨n, _⟩ hy => S.par n (List.of_mem_zip hy).1) (fun h₁ hns hsb => ⟨lim.fresh _ hsb, ?_⟩) S.kind)
  show codeAny _ _ (.expr F.body (NdefX.envF F.nf f s.heap.objs.size)) _ _
  have kp : ∀ b o, s.heap.get? b = some o → h₁.get? b = some o := fun b o e => hsb.extBut b o (Nat.ne_of_lt (Heap.lt_size e)) (Heap.get?_push_of_some _ e)
  obtain ⟨t, ht, hq⟩ := hbody A outer s H vs ws Q E (hr.deeper _) C.len hsp
  have I : Inv (ncx CX P w K mg base N F.nf f A outer s H E) [] (startF N vs ws) H { s with heap := h₁, toks := s.toks + (ps.zip us).length } := inv_startN (F := F.nf) S hr.hd e0 hl r C hns kp
  refine PySem.W.kla_codeExpr (wpAny_mono (ht.run [] _ (startF N vs ws) H Q I hq) (fun v s' hs => ?_) fun e s' hs => hs)
  obtain ⟨v', H', J, rv, q⟩ := hs
  exact ⟨v', H', J.os, J.bare, J.base, J.hok, rv, q⟩
end
/-! ### a def that is handed things that can be called -/
/-- f may be called, from any frame that began at s, H below outer, while live holds -/
structure Callable (P : Program) (w : World) (K : PySem.W.Frag) (mg : Str → Option Value) (base : Heap) (CX : CXT) (k : Nat) (f : Addr) (live : Hp → Prop) (sp : Sp) (outer : List Env) (s : Shared) (H : Hp) : Prop where
  at_ : ∀ (X : Cx), X.prog = P → X.w = w → X.K = K → X.base = base → X.s_0 = s → X.H_0 = H → ∀ pins σ H' s', Inv X pins σ H' s' → live H' → PySem.W.FnAt f s'.heap
  run : ∀ (X : Cx), X.prog = P → X.w = w → X.K = K → X.mg = mg → X.base = base → X.s_0 = s → X.H_0 = H → X.outer = outer → X.ex = [] → Room k X.A → ∀ pins σ H' s' us vs Q E, Inv X pins σ H' s' → live H' → Vals vs us → Passes CX X E → sp vs H' Q E →
    wpAny (model P w) X.A (call (.ref f) us) (EP X pins σ Q) X.xe s'
section
variable {CX : CXT} {P : Program} {w : World} {K : PySem.W.Frag} {mg : Str → Option Value} {base : Heap} {ps fr : List Str} {k : Nat} {f : Addr} {ws : List (Option V)} {outer : List Env} {s : Shared} {H : Hp}
/-- a lambda is alive while its object and its code stand -/
def liveL (f : Addr) (F : LF) : Hp → Prop := fun H => H f = some (FnL f F) ∧ H F.c = some (CodeO F.c F.qual)
theorem callable_lam {F : LF} {sp : List (Option V) → Sp} (Fn : LOk P w K mg base CX k f F ps fr sp) (C : CellsAt F.cl fr ws s.heap H) (nf : ∀ y c, F.cl.lookup y = some c → c ∉ frs outer) :
    Callable P w K mg base CX k f (liveL f F) (sp ws) outer s H := by
  refine ⟨fun X _ _ _ _ _ _ pins σ H' s' I l => ?_, fun X e1 e2 e3 e4 e5 e6 e7 e8 e9 hr pins σ H' s' us vs Q E I l r hx q => ?_⟩
  · obtain ⟨od, sl, pm, ctv, ho⟩ := fnL_at I.hok l.1
    exact ⟨_, od, _, sl, ho⟩
  · subst e1 e2 e3 e4 e5 e6 e7 e8
    have C2 := NdefX.CellsAt.later (X := X) C nf (fun y c _ z => by rw [e9] at z; exact absurd z (by simp)) I
    refine wpAny_call (codeAny_mono (Fn.run X.A X.stack s' H' us vs ws Q E hr I.env0 l.1 l.2 C2 r q) fun r s' hq => ?_)
    cases r with
    | error e => exact hx pins σ H' _ e s' I hq
    | ok fl =>
      cases fl with
      | ret u => exact I.after hq
      | next => exact False.elim hq
      | brk => exact False.elim hq
      | cont => exact False.elim hq
end
def tCan (f : Addr) (live : Hp → Prop) (i : Nat) (sp : Sp) (E : XK) (t : TA) : TE := fun σ H Q => σ[i]? = some (some (.ref f)) ∧ live H ∧ t σ H fun vs H1 => live H1 ∧ sp vs H1 Q E
section
variable {X : Cx} {CX : CXT} {f : Addr} {live : Hp → Prop} {i j k : Nat} {x : Str} {sp : Sp} {E : XK} {t : TA} {e : Expr} {es : List Expr} {p pos : Pos}
theorem pe_can (Cb : Callable X.prog X.w X.K X.mg X.base CX k f live sp X.outer X.s_0 X.H_0) (nx : X.ex = []) (hr : Room j X.A) (hk : k ≤ j) (hx : Passes CX X E)
    (hN : X.N[i]? = some x) (hv : Vis X.env.scope x) (ha : PA X (e :: es) t) (hd : (x == ("__debug__" : Str)) = false := by decide) (hcd : (x == ("__classdict__" : Str)) = false := by decide)
    (he : starEach (e :: es) X.env = (false, eval e X.env) :: starEach es X.env := by rfl) (hpl : (backTo pos (starEach es X.env)).any (·.1) = false := by rfl) :
    PE X (.Call (.Name x p) (e :: es) [] pos) (tCan f live i sp E t) := by
  refine ⟨fun pins s σ H Q I h => ?_⟩
  obtain ⟨hs, hl, ht⟩ := h
  refine wpAny_Call_Name_kw (thn ((pe_var (pos := p) hN hv hd hcd).run pins s σ H (fun v H1 => v = .ref f ∧ H1 = H) I ⟨.ref f, hs, rfl, rfl⟩) fun u s1 ⟨v, H1, I1, r1, q1⟩ => ?_)
  obtain ⟨ev, eH⟩ := q1
  subst ev
  rw [eH] at I1
  obtain rfl : u = Value.ref f := r1
  refine PySem.W.callWith_F (first := []) (Cb.at_ X rfl rfl rfl rfl rfl rfl pins σ H s1 I1 hl) (thn (ha.run pos pins s1 σ H _ I1 ht) fun us s2 ⟨vs, H2, I2, r, h1, q⟩ => ⟨Cb.at_ X rfl rfl rfl rfl rfl rfl pins σ H2 s2 I2 h1, ?_⟩) he hpl
  exact Cb.run X rfl rfl rfl rfl rfl rfl rfl rfl nx (hr.mono hk) pins σ H2 s2 us vs Q E I2 h1 r hx q
end
/-- a def's promise that leans on what it is handed -/
structure FnC (P : Program) (w : World) (K : PySem.W.Frag) (mg : Str → Option Value) (base : Heap) (CX : CXT) (k : Nat) (f : Addr) (fd : FuncData) (ps : List Str) (Pre : List Env → Shared → Hp → Prop) (sp : Sp) : Prop where
  len : ∀ vs H Q E, sp vs H Q E → vs.length = ps.length
  run : ∀ (A : Around) (outer : List Env) (s : Shared) (H : Hp) (args : Args) (us : List Value) (vs : List V) (Q : VK) (E : XK), Room k A → Env0 P w K mg base A outer s H → BindsTo s fd args (ps.zip us) → Vals vs us → Pre outer s H → sp vs H Q E →
    codeAny (model P w) A (.call (.ref f) args) (CR CX outer P w H s Q E) s
section
variable {P : Program} {w : World} {K : PySem.W.Frag} {mg : Str → Option Value} {base : Heap}
theorem fnC_of {x qual : Str} {st : Stmt} {f : Addr} {fd : FuncData} {N ps : List Str} {k : Nat} {sp : Sp} {Pre : List Env → Shared → Hp → Prop} (F : Fun K x qual st f fd) (S : FnScope N ps (defScope st)) (len : ∀ vs H Q E, sp vs H Q E → vs.length = ps.length)
    (hbody : ∀ (cdv : Value) (A : Around) (outer : List Env) (s : Shared) (H : Hp) (vs : List V) (Q : VK) (E : XK), Room k (A.deeper (envOfC qual (defScope st) s.heap.objs.size f cdv)) → Pre outer s H → sp vs H Q E →
      ∃ t, PSs (cxOf CX0 P w K mg base N qual (defScope st) f cdv A outer s H E).nox (defBody st) t ∧ t { nx := fun _ H' => Q .non H', rt := Q } (start N vs) H) : FnC P w K mg base CX0 (k + 1) f fd ps Pre sp := by
  obtain ⟨oc, od, kV, doc, pm, an, cdv, ct, osl, rfl, lk, hcd⟩ := F.ex
  refine ⟨len, fun A outer s H args us vs Q E hr e0 hb r hP hsp => ?_⟩
  have hl := len _ _ _ _ hsp
  have KX : K.In s.heap := e0.mod.kin.keeps fun b o e => (e0.bs b o e).1
  have lim : s.heap.NoLimit := e0.mod.nolimit.keeps fun b o e => (e0.bs b o e).1
  have hkind : ∀ y ∈ ps.zip us, (defScope st).names.lookup y.1 = some .local ∨ ((defScope st).names.lookup y.1 = some .cell ∧ ((cellsFrom (s.heap.objs.size + 1) (defScope st).names []).lookup y.1).isSome = true) := fun y hy =>
    (S.par y.1 (List.of_mem_zip (a := y.1) (b := y.2) hy).1).elim .inl fun q => .inr ⟨q, PySem.W.cellsFrom_some _ _ _ (.inl q)⟩
  refine codeAny_call_function hr.depth (KX _ _ lk) rfl S.co S.gen rfl (PySem.W.codeRec_of KX hcd) (hb _ _ _ _ ?_)
  refine wpAny_newFunctionEnv_cells S.kind hkind fun env he s1 y => ?_
  subst he
  refine ⟨lim.keeps y.toInCall.keep, codeAny_func ?_⟩
  obtain ⟨t, ht, hq⟩ := hbody cdv A outer s H vs Q E (hr.deeper _) hP hsp
  have I : Inv (cxOf CX0 P w K mg base N qual (defScope st) f cdv A outer s H E) [] (L2.start N vs) H s1 := inv_start S hr.hd e0 hl r y
  refine wpAny_mono (ht.nox.run [] s1 (L2.start N vs) H _ I hq) (fun fl s' hs => ?_) fun e s' hs => hs
  cases fl with
  | ret u =>
    obtain ⟨v, σ', H', J, rv, q⟩ := hs
    exact ⟨v, H', J.os, J.bare, J.base, J.hok, rv, q⟩
  | next =>
    obtain ⟨σ', H', J, q⟩ := hs
    exact ⟨V.non, H', J.os, J.bare, J.base, J.hok, rfl, q⟩
  | brk => exact hs.choose_spec.choose_spec.2.elim
  | cont => exact hs.choose_spec.choose_spec.2.elim
end
/-- such a def called: g says with what -/
def tCallC {G : Type} (preS : G → L2.St → Hp → Prop) (sp : G → Sp) (E : XK) (t : TA) : TE := fun σ H Q => t σ H fun vs H1 => ∃ g, preS g σ H1 ∧ sp g vs H1 Q E
theorem pe_callC {G : Type} {X : Cx} {CX : CXT} {k j : Nat} {f : Addr} {fd : FuncData} {ps : List Str} {Pre : G → List Env → Shared → Hp → Prop} {preS : G → L2.St → Hp → Prop} {sp : G → Sp} {E : XK} {x : Str} {p pos : Pos} {e : Expr} {es : List Expr} {t : TA}
    (F : ∀ g, FnC X.prog X.w X.K X.mg X.base CX k f fd ps (Pre g) (sp g)) (hP : ∀ g pins σ H s, Inv X pins σ H s → preS g σ H → Pre g X.stack s H) (hr : Room j X.A) (hk : k ≤ j) (hg : Gl X x) (hm : X.mg x = some (.ref f)) (kp : PySem.W.keepIn X.K (.ref f) = true) (hb : Binds X.K fd ps []) (hx : Passes CX X E)
    (ha : PA X (e :: es) t) (hdb : (x == ("__debug__" : Str)) = false := by decide) (he : starEach (e :: es) X.env = (false, eval e X.env) :: starEach es X.env := by rfl) (hpl : (backTo pos (starEach es X.env)).any (·.1) = false := by rfl) :
    PE X (.Call (.Name x p) (e :: es) [] pos) (tCallC preS sp E t) := by
  refine ⟨fun pins s σ H Q I h => ?_⟩
  refine wpAny_Call_Name_kw (ld_glob I hg hm ?_ hdb)
  refine PySem.W.callWith_K (h₀ := X.base) I.ok.mod.kin kp (thn (ha.run pos pins s σ H _ I h) fun us s1 ⟨vs, H1, I1, r, g, pg, q⟩ => ⟨I1.kIn, ?_⟩) he hpl
  have hl : us.length = ps.length := by rw [← r.length]; exact (F g).len _ _ _ _ q
  have hb' := hb s1 us I1.kIn (by rw [List.append_nil]; exact hl)
  rw [List.append_nil] at hb'
  refine wpAny_call (codeAny_mono ((F g).run X.A X.stack s1 H1 ⟨us, []⟩ us vs Q E (hr.mono hk) I1.env0 hb' r (hP g pins σ H1 s1 I1 pg) q) fun r s' hq => ?_)
  cases r with
  | error e => exact hx pins σ H1 s1 e s' I1 hq
  | ok fl =>
    cases fl with
    | ret u => exact I1.after hq
    | next => exact False.elim hq
    | brk => exact False.elim hq
    | cont => exact False.elim hq
end RH
set_option Elab.async false
set_option linter.all false
set_option maxRecDepth 100000
set_option maxHeartbeats 2000000
/-! Dicts with tuples for keys: one pair written out, their values; where an int stands in a tuple. -/
namespace RH
open PySem PySem.Spec PyProof.Rows L2
theorem one_shape {X : Cx} {k v : Expr} {pos : Pos} : (evalEachOpt [some k] X.env).zip ((evalEach [v] X.env).map fun z => do let x ← z; standAt pos; pure x) = [(eval k X.env, (do let x ← eval v X.env; standAt pos; pure x : Sem Value))].map fun p => (some p.1, p.2) := rfl
end RH
set_option Elab.async false
set_option linter.all false
set_option maxRecDepth 100000
set_option maxHeartbeats 2000000
/-! Tuples told by their very object, and dicts whose keys are such tuples of ints. -/
namespace RH
open PySem PySem.Spec PyProof.Rows L2
def keyOf (s : List Int) : List L2.Key := s.map Sum.inl
theorem keyOf_kV (s : List Int) : (keyOf s).map kV = s.map V.int := by
  unfold keyOf
  rw [List.map_map]
  rfl
theorem mapInt_inj : ∀ {s t : List Int}, s.map V.int = t.map V.int → s = t
  | [], [], _ => rfl
  | [], _ :: _, e => by simp at e
  | _ :: _, [], e => by simp at e
  | a :: s, b :: t, e => by
    rw [List.map_cons, List.map_cons] at e
    injection e with e1 e2
    rw [V.int.inj e1, mapInt_inj e2]
theorem keyOf_inj {s t : List Int} (h : keyOf s = keyOf t) : s = t := by
  have e : (keyOf s).map kV = (keyOf t).map kV := by rw [h]
  rw [keyOf_kV, keyOf_kV] at e
  exact mapInt_inj e
/-- b is a tuple of these ints -/
def KX (H : Hp) (b : Addr) (s : List Int) : Prop := Rd H b (.tup (s.map V.int))
/-- the same, and its very object is known, one without a dict -/
def FT (H : Hp) (b : Addr) (s : List Int) : Prop := ∃ ob, H b = some (.frz ob (.tup (s.map V.int))) ∧ ob.dict = none
theorem FT.kx {H : Hp} {b : Addr} {s : List Int} (h : FT H b s) : KX H b s := let ⟨ob, h, _⟩ := h; .inr ⟨ob, h⟩
inductive XS : List (List Int × V) → List Addr → List (List L2.Key × Addr × Value) → Prop
  | nil : XS [] [] []
  | cons {q : List Int × V} {b : Addr} {u : Value} {as : List (List Int × V)} {bs : List Addr} {xs : List (List L2.Key × Addr × Value)} : RelV q.2 u → XS as bs xs → XS (q :: as) (b :: bs) ((keyOf q.1, b, u) :: xs)
inductive KB (H : Hp) : List (List Int × V) → List Addr → Prop
  | nil : KB H [] []
  | cons {q : List Int × V} {b : Addr} {as : List (List Int × V)} {bs : List Addr} : KX H b q.1 → KB H as bs → KB H (q :: as) (b :: bs)
theorem KB.snoc {H : Hp} {q : List Int × V} {b : Addr} (h : KX H b q.1) : ∀ {as : List (List Int × V)} {bs : List Addr}, KB H as bs → KB H (as ++ [q]) (bs ++ [b])
  | _, _, .nil => .cons h .nil
  | _, _, .cons g t => .cons g (t.snoc h)
theorem KB.imp {H H' : Hp} (f : ∀ b s, KX H b s → KX H' b s) : ∀ {as : List (List Int × V)} {bs : List Addr}, KB H as bs → KB H' as bs
  | _, _, .nil => .nil
  | _, _, .cons g t => .cons (f _ _ g) (t.imp f)
theorem XS.len : ∀ {as : List (List Int × V)} {bs : List Addr} {xs : List (List L2.Key × Addr × Value)}, XS as bs xs → xs.length = as.length
  | _, _, _, .nil => rfl
  | _, _, _, .cons _ t => congrArg (· + 1) t.len
theorem XS.snoc {q : List Int × V} {b : Addr} {u : Value} (h : RelV q.2 u) : ∀ {as : List (List Int × V)} {bs : List Addr} {xs : List (List L2.Key × Addr × Value)}, XS as bs xs → XS (as ++ [q]) (bs ++ [b]) (xs ++ [(keyOf q.1, b, u)])
  | _, _, _, .nil => .cons h .nil
  | _, _, _, .cons g t => .cons g (t.snoc h)
theorem atKey_pos {x : List L2.Key × Addr × Value} {xs : List (List L2.Key × Addr × Value)} {k : List L2.Key} (e : x.1 = k) : atKey (x :: xs) k = some x.2 := by simp [atKey, List.find?_cons, e]
theorem atKey_neg {x : List L2.Key × Addr × Value} {xs : List (List L2.Key × Addr × Value)} {k : List L2.Key} (e : ¬ x.1 = k) : atKey (x :: xs) k = atKey xs k := by simp [atKey, List.find?_cons, e]
theorem XS.no {s : List Int} : ∀ {as : List (List Int × V)} {bs : List Addr} {xs : List (List L2.Key × Addr × Value)}, XS as bs xs → s ∉ as.map Prod.fst → atKey xs (keyOf s) = none
  | _, _, _, .nil, _ => rfl
  | _, _, _, .cons g t, h => (atKey_neg fun e => h (by rw [← keyOf_inj e]; exact List.mem_cons_self ..)).trans (t.no fun z => h (List.mem_cons_of_mem _ z))
theorem XS.yes {s : List Int} : ∀ {as : List (List Int × V)} {bs : List Addr} {xs : List (List L2.Key × Addr × Value)}, XS as bs xs → s ∈ as.map Prod.fst → ∃ v p, atKey xs (keyOf s) = some p ∧ (s, v) ∈ as ∧ RelV v p.2
  | _, _, _, .nil, h => by simp at h
  | q :: as, _, _, .cons (u := u) g t, h => by
    by_cases e : q.1 = s
    · subst e
      exact ⟨q.2, _, atKey_pos rfl, List.mem_cons_self .., g⟩
    · rcases List.mem_cons.mp h with z | z
      · exact absurd z.symm e
      · obtain ⟨v, p, h1, h2, h3⟩ := t.yes z
        exact ⟨v, p, (atKey_neg fun z => e (keyOf_inj z)).trans h1, List.mem_cons_of_mem _ h2, h3⟩
theorem key_ofR {P : Program} {w : World} {H : Hp} {h : Heap} {a : Addr} {s : List Int} (ok : HOk P w H h) (e : KX H a s) : (tupleKind (mixKind P w)).is h (keyOf s) a := by
  obtain ⟨_, its, r, o, h1, h2, n, h3⟩ := (show ObjOk P w H h a (.tup (s.map V.int)) from e.ok ok)
  rw [← keyOf_kV] at r
  exact ⟨o, its.toArray, n, h1, h2, h3, by simpa using items_are r⟩
theorem XS.keys {P : Program} {w : World} {H : Hp} {h : Heap} (ok : HOk P w H h) : ∀ {as : List (List Int × V)} {bs : List Addr} {xs : List (List L2.Key × Addr × Value)}, XS as bs xs → KB H as bs → ∀ x ∈ xs, (tupleKind (mixKind P w)).is h x.1 x.2.1
  | _, _, _, .nil, _, x, hx => nomatch hx
  | _, _, _, .cons g t, .cons k r, x, hx => by
    rcases List.mem_cons.mp hx with e | hx
    · subst e
      exact key_ofR ok k
    · exact t.keys ok r x hx
/-- the dict at d: as with its values, bs its keys' tuples -/
abbrev DE (P : Program) (w : World) (as : List (List Int × V)) (bs : List Addr) (d : Addr) : HO := .ext fun h => (d == sysModules) = false ∧ as.length ≤ sizeLine ∧ ∃ xs : List (List L2.Key × Addr × Value), XS as bs xs ∧
  ∃ o es ep, h.get? d = some o ∧ o.ExactDict ∧ o.data = .dict es ep ∧ es.toList = xs.map (entryOfKey (tupleKind (mixKind P w))) ∧ (xs.map (·.1)).Nodup
theorem DE.ok {P : Program} {w : World} {H : Hp} {h : Heap} {as : List (List Int × V)} {bs : List Addr} {d : Addr} {xs : List (List L2.Key × Addr × Value)} (hd : (d == sysModules) = false) (hl : as.length ≤ sizeLine) (hx : XS as bs xs) (dd : h.DictOfH (tupleKind (mixKind P w)) d xs) : ObjOk P w H h d (DE P w as bs d) := by
  obtain ⟨o, es, ep, h1, h2, h3, h4, _, h5⟩ := dd
  refine ⟨⟨hd, hl, xs, hx, o, es, ep, h1, h2, h3, h4, h5⟩, ⟨o, h1⟩, fun h1 h2 ⟨a1, a2, xs, a3, o, es, ep, b1, b2⟩ k => ⟨a1, a2, xs, a3, o, es, ep, k _ b1, b2⟩⟩
section
variable {X : Cx} {pins : List (Addr × Obj)} {σ : L2.St} {H : Hp} {s : Shared} {a : Addr} {as : List (List Int × V)} {bs : List Addr}
theorem de_of (I : Inv X pins σ H s) (e : H a = some (DE X.prog X.w as bs a)) (k : KB H as bs) : (a == sysModules) = false ∧ as.length ≤ sizeLine ∧ ∃ xs, XS as bs xs ∧ s.heap.DictOfH (tupleKind (mixKind X.prog X.w)) a xs := by
  obtain ⟨h1, h2, xs, h3, o, es, ep, b1, b2, b3, b4, b5⟩ := (show ObjOk X.prog X.w H s.heap a (DE X.prog X.w as bs a) from I.hok a _ e).1
  exact ⟨h1, h2, xs, h3, o, es, ep, b1, b2, b3, b4, h3.keys I.hok k, b5⟩
end
/-! ### the rules -/
def tDisp1E (P : Program) (w : World) (tk tv : TE) : TE := fun σ H Q => ∀ p, H p = none → tk σ (upd H p (DE P w [] [] p)) fun x H1 => tv σ H1 fun y H2 => H2 p = some (DE P w [] [] p) ∧ ∃ (b : Addr) (s : List Int), x = .ref b ∧ KX H2 b s ∧ Q (.ref p) (upd H2 p (DE P w [(s, y)] [b] p))
def tDGetE (P : Program) (w : World) (td ty : TE) : TE := fun σ H Q => td σ H fun x H1 => ty σ H1 fun y H2 => ∃ (a b : Addr) (as : List (List Int × V)) (bs : List Addr) (s : List Int), x = .ref a ∧ y = .ref b ∧ H2 a = some (DE P w as bs a) ∧ KB H2 as bs ∧ KX H2 b s ∧ s ∈ as.map Prod.fst ∧ ∀ v, (s, v) ∈ as → Q v H2
def tDNotInE (P : Program) (w : World) (ty td : TE) : TE := fun σ H Q => ty σ H fun y H1 => td σ H1 fun x H2 => ∃ (a b : Addr) (as : List (List Int × V)) (bs : List Addr) (s : List Int), x = .ref a ∧ y = .ref b ∧ H2 a = some (DE P w as bs a) ∧ KB H2 as bs ∧ KX H2 b s ∧ Q (.bl (!decide (s ∈ as.map Prod.fst))) H2
def sDPutE (P : Program) (w : World) (td ty tv : TE) : TS := fun D σ H => tv σ H fun v H1 => td σ H1 fun x H2 => ty σ H2 fun y H3 => ∃ (a b : Addr) (as : List (List Int × V)) (bs : List Addr) (s : List Int), x = .ref a ∧ y = .ref b ∧ H3 a = some (DE P w as bs a) ∧ KB H3 as bs ∧ KX H3 b s ∧
  s ∉ as.map Prod.fst ∧ as.length < sizeLine ∧ D.nx σ (upd H3 a (DE P w (as ++ [(s, v)]) (bs ++ [b]) a))
section
variable {X : Cx} {o i k v value : Expr} {pos pos' tpos : Pos} {td ty tk tv : TE}
theorem de_typeIs {pins : List (Addr × Obj)} {σ : L2.St} {H : Hp} {s : Shared} {a : Addr} {as : List (List Int × V)} {bs : List Addr} (I : Inv X pins σ H s) (e : H a = some (DE X.prog X.w as bs a)) : s.TypeIs (.ref a) "dict" ∧ ∃ ob, s.heap.get? a = some ob ∧ ob.dict = none := by
  obtain ⟨_, _, xs, _, o, es, ep, b1, b2, _⟩ := (show ObjOk X.prog X.w H s.heap a (DE X.prog X.w as bs a) from I.hok a _ e).1
  exact ⟨⟨o, b1, b2.1⟩, o, b1, b2.2.1⟩
theorem pe_disp1E (hu : X.A.units < cLine) (hk : PE X k tk) (hv : PE X v tv) : PE X (.Dict [some k] [v] pos) (tDisp1E X.prog X.w tk tv) := by
  refine ⟨fun pins s σ H Q I q => ?_⟩
  have hn := I.hok.fresh (Nat.le_refl s.heap.objs.size)
  have hsys : (s.heap.objs.size == sysModules) = false := beq_eq_false_iff_ne.mpr (Ne.symm (Nat.ne_of_lt I.big))
  have I1 := I.laid (a := s.heap.objs.size) (o := DE X.prog X.w [] [] s.heap.objs.size) (h' := s.heap.push { cls := .type "dict", data := .dict #[] }) (t' := s.toks) (fun _ _ q => Heap.get?_push_of_some _ q) (Nat.le_refl _)
    (DE.ok hsys (Nat.zero_le _) .nil (Heap.DictOfH.new s.heap))
  rw [arm_eval_Dict, one_shape, dictDisplay_pairs _ (by simp) (by simp)]
  have ru : (tupleKind (mixKind X.prog X.w)).room X.A := hu
  refine wpAny_bind (wpAny_standAt (wpAny_bind (PySem.wpAny_subDictH (knd := tupleKind (mixKind X.prog X.w)) (Q := fun d s' => wpAny (model X.prog X.w) X.A (pure (Value.ref d)) (EP X pins σ Q) X.xe s') ru (by simp) ?_)))
  show wpAny _ _ (evalPairs (pairTrees [some k] [v] X.env pos)) _ _ _
  refine pairTrees_cons_walk (thn (hk.run pins _ σ _ _ I1 (q _ hn)) fun u s1 ⟨x, H1, I3, rx, q1⟩ => thn (hv.run pins s1 σ H1 _ I3 q1) fun w2 s2 ⟨y, H2, I2, ry, e, b, st, ex, eb, q2⟩ => pairTrees_nil_walk ?_)
  subst ex
  obtain rfl : u = Value.ref b := rx
  obtain ⟨hd, z, xs, rl, dd⟩ := de_of I2 e .nil
  cases rl
  refine ⟨[(keyOf st, b, w2)], ⟨rfl, rfl, key_ofR I2.hok eb, trivial⟩, dd, fun h' tk dd' hs => wpAny_pure ?_⟩
  have hq : ∃ q, h'.get? s.heap.objs.size = some q := let ⟨o, _, _, hq, _⟩ := dd'; ⟨o, hq⟩
  have I4 : Inv X pins σ (upd H2 s.heap.objs.size (DE X.prog X.w [(st, y)] [b] s.heap.objs.size)) { s2 with heap := h', toks := tk } :=
    d_write I2 (by rw [e]; exact True.intro) hs hq (DE.ok hd (by show 1 ≤ sizeLine; decide) (.cons (q := (st, y)) ry .nil) dd')
  exact ⟨.ref s.heap.objs.size, _, I4, rfl, q2⟩
theorem pe_dgetE (hu : X.A.units + 1 < cLine) (ho : PE X o td) (hi : PE X i ty) (hs : NoSl i) : PE X (.Subscript o i pos) (tDGetE X.prog X.w td ty) := by
  refine ⟨fun pins s σ H Q I h => ?_⟩
  refine subD_of PySem.F.slot_dict_getitem.lookup hs (thn (ho.run pins s σ H _ I h) fun u s1 ⟨x, H1, I1, rx, q1⟩ => thn (hi.run pins s1 σ H1 _ I1 q1) fun iv s2 ⟨y, H2, I2, ry, a, b, as, bs, st, ex, ey, e, kb, eb, hm, q2⟩ => ?_)
  subst ex ey
  obtain rfl : u = Value.ref a := rx
  obtain rfl : iv = Value.ref b := ry
  obtain ⟨hd, z, xs, hx, dd⟩ := de_of I2 e kb
  obtain ⟨v, p, h1, h2, h3⟩ := hx.yes hm
  exact ⟨(de_typeIs I2 e).1, wpAny_getItem_heap (tupleKind_room_in1 hu) (key_ofR I2.hok eb) dd h1 ⟨v, H2, I2.tok _, h3, q2 v h2⟩⟩
theorem pc_dnotinE (hu : X.A.units + 1 < cLine) (hi : PE X i ty) (ho : PE X o td) : PC X .NotIn i o (tDNotInE X.prog X.w ty td) := by
  refine ⟨fun pins s σ H Q I h => ?_⟩
  refine thn (hi.run pins s σ H _ I h) fun iv s1 ⟨y, H1, I1, ry, q1⟩ => thn (ho.run pins s1 σ H1 _ I1 q1) fun u s2 ⟨x, H2, I2, rx, a, b, as, bs, st, ex, ey, e, kb, eb, q2⟩ => ?_
  subst ex ey
  obtain rfl : u = Value.ref a := rx
  obtain rfl : iv = Value.ref b := ry
  obtain ⟨hd, z, xs, hx, dd⟩ := de_of I2 e kb
  refine wpAny_notIn_heap (tupleKind_room_in1 hu) (key_ofR I2.hok eb) hd dd ⟨_, H2, I2.tok _, ?_, q2⟩
  by_cases hm : st ∈ as.map Prod.fst
  · obtain ⟨v, p, h1, _⟩ := hx.yes hm
    rw [h1, decide_eq_true hm]
    rfl
  · rw [hx.no hm, decide_eq_false hm]
    rfl
theorem ps_dputE (hu : X.A.units + 1 < cLine) (ho : PE X o td) (hi : PE X i ty) (hv : PE X value tv) (hs : swapsWith value (some (.Subscript o i pos')) pos.line X.env = pure false) : PS X (.Assign [.Subscript o i pos'] value pos) (sDPutE X.prog X.w td ty tv) := by
  refine ⟨fun pins s σ H D I h => ?_⟩
  refine wpAny_Assign_Subscript (thn (hv.run pins s σ H _ I h) fun r s1 ⟨v, H1, I1, rv, q1⟩ => thn (ho.run pins s1 σ H1 _ I1 q1) fun u s2 ⟨x, H2, I2, rx, q2⟩ => thn (hi.run pins s2 σ H2 _ I2 q2) fun iv s3 ⟨y, H3, I3, ry, a, b, as, bs, st, ex, ey, e, kb, eb, hn, hl, q3⟩ => ?_) hs
  subst ex ey
  obtain rfl : u = Value.ref a := rx
  obtain rfl : iv = Value.ref b := ry
  obtain ⟨hd, z, xs, hx, dd⟩ := de_of I3 e kb
  refine wpAny_setItem_heap (hsz := by rw [hx.len]; exact z) (tupleKind_room_in1 hu) (key_ofR I3.hok eb) dd fun h' dd' hs => ?_
  rw [storedH_new (hx.no hn)] at dd'
  have hq : ∃ q, h'.get? a = some q := let ⟨o, _, _, hq, _⟩ := dd'; ⟨o, hq⟩
  exact ⟨σ, _, d_write I3 (by rw [e]; exact True.intro) hs hq (DE.ok hd (by rw [List.length_append]; exact hl) (hx.snoc (q := (st, v)) rv) dd'), q3⟩
/-- tuple(xs) of a list, told by its very object -/
def kTupF (K : PySem.W.Frag) (x : V) (H : Hp) (Q : VK) : Prop := ∃ p xs, x = .ref p ∧ SqL K H p xs ∧ ∀ q ob, H q = none → ob.dict = none → Q (.ref q) (upd H q (.frz ob (.tup xs)))
theorem pe_tupleF {a : Expr} {ta : TE} {p : Pos} (hg : Gl X "tuple") (hm : X.mg "tuple" = none) (ha : PE X a ta) (na : starEach [a] X.env = (false, eval a X.env) :: starEach [] X.env := by rfl) : PE X (.Call (.Name "tuple" p) [a] [] pos) (tThen ta (kTupF X.K)) := by
  refine ⟨fun pins s σ H Q I h => ?_⟩
  refine Call_ (ld_blt I hg hm boot_tuple (PyProof.Rows.callWith_type1 (one_arg ha I h (fun v s2 x H2 I2 r q => ?_) na) na))
  obtain ⟨p, xs, rfl, hs, q⟩ := q
  obtain rfl : v = .ref p := r
  obtain ⟨its, rv, pl, hz⟩ := I2.list hs
  refine call_tuple_list pl.isList (fun h' hk => ?_) (by rw [List.size_toArray, ← rv.length]; exact hz)
  have I3 : Inv X pins σ H2 { s2 with heap := h' } := I2.kept (t' := s2.toks) hk
  have e : (h'.push { cls := .type "tuple", data := .seq its.toArray }).get? h'.objs.size = some { cls := .type "tuple", data := .seq its.toArray } := Heap.get?_push_size _ rfl
  have I4 : Inv X pins σ (upd H2 h'.objs.size (.frz { cls := .type "tuple", data := .seq its.toArray } (.tup xs))) { s2 with heap := h'.push { cls := .type "tuple", data := .seq its.toArray } } :=
    I3.laid (t' := s2.toks) (fun b o e => Heap.get?_push_of_some _ e) (Nat.le_refl _) ⟨e, hz, its, rv, IsTup.new _ _⟩
  exact ⟨.ref h'.objs.size, _, I4, rfl, q _ _ (I3.hok.fresh (Nat.le_refl _)) rfl⟩
end
end RH
set_option Elab.async false
set_option linter.all false
set_option maxRecDepth 100000
set_option maxHeartbeats 2000000
/-! Sorted lists of tuples of ints, of any length; more rules for dicts whose keys are such tuples. -/
namespace RH
open PySem PySem.Spec PyProof.Rows L2
open SrtO (Swo Srtd Stb SortableO Cmp lt2)
open TS (TupInts intsOf code Bd lex_ints firsts_of)
/-- below 10, by the digits -/
def ltL (s t : List Int) : Bool := decide (code 10 s < code 10 t)
theorem swo_by {α : Type} (f : α → Int) : Swo fun x y : α => decide (f x < f y) := by
  refine ⟨fun x y h => ?_, fun x y z h1 h2 => ?_⟩
  · simp only [decide_eq_true_eq] at h
    simp only [decide_eq_false_iff_not]
    omega
  · simp only [decide_eq_false_iff_not] at *
    omega
theorem ltL_swo : Swo ltL := swo_by (code 10)
/-- each of xs is a tuple of the ints -/
inductive EX (H : Hp) : List V → List (List Int) → Prop
  | nil : EX H [] []
  | cons {b : Addr} {s : List Int} {xs : List V} {ls : List (List Int)} : KX H b s → EX H xs ls → EX H (.ref b :: xs) (s :: ls)
theorem EX.len {H : Hp} : ∀ {xs : List V} {ls : List (List Int)}, EX H xs ls → xs.length = ls.length
  | _, _, .nil => rfl
  | _, _, .cons _ t => congrArg (· + 1) t.len
theorem EX.imp {H H' : Hp} (f : ∀ b s, KX H b s → KX H' b s) : ∀ {xs : List V} {ls : List (List Int)}, EX H xs ls → EX H' xs ls
  | _, _, .nil => .nil
  | _, _, .cons g t => .cons (f _ _ g) (t.imp f)
theorem EX.snoc {H : Hp} {b : Addr} {s : List Int} (h : KX H b s) : ∀ {xs : List V} {ls : List (List Int)}, EX H xs ls → EX H (xs ++ [.ref b]) (ls ++ [s])
  | _, _, .nil => .cons h .nil
  | _, _, .cons g t => .cons g (t.snoc h)
theorem EX.at {H : Hp} : ∀ {xs : List V} {ls : List (List Int)} {i : Nat} {s : List Int}, EX H xs ls → ls[i]? = some s → ∃ b, xs[i]? = some (V.ref b) ∧ KX H b s
  | _, _, _, _, .nil, e => by simp at e
  | _, _, 0, _, .cons h _, e => by
    cases Option.some.inj e
    exact ⟨_, rfl, h⟩
  | _, _, i + 1, _, .cons _ t, e => t.at (i := i) e
theorem EX.of {P : Program} {w : World} {H : Hp} {h : Heap} : ∀ {out : List Value}, (∀ v ∈ out, ∃ b, v = Value.ref b ∧ KX H b (intsOf h v)) → Vals (out.map backV) out ∧ EX H (out.map backV) (out.map (intsOf h))
  | [], _ => ⟨.nil, .nil⟩
  | v :: out, hv => by
    obtain ⟨r, e⟩ := EX.of (P := P) (w := w) (H := H) (h := h) (out := out) fun u hu => hv u (List.mem_cons_of_mem _ hu)
    obtain ⟨b, rfl, k⟩ := hv v (List.mem_cons_self ..)
    exact ⟨.cons rfl r, .cons k e⟩
/-- what sorted makes of tuples of the ints ls -/
def SoT (H : Hp) (ls : List (List Int)) (ys : List V) (ls' : List (List Int)) : Prop := Srtd ltL ls' ∧ Stb ltL ls' ls ∧ EX H ys ls' ∧ ls'.length = ls.length
theorem SoT.one {H H' : Hp} {ls a b : List (List Int)} {ys zs : List V} (h1 : SoT H ls ys a) (h2 : SoT H' ls zs b) : a = b :=
  SrtO.stb_uniq ltL_swo h1.1 h2.1 ⟨h1.2.1.perm.trans h2.2.1.perm.symm, fun x => (h1.2.1.cls x).trans (h2.2.1.cls x).symm⟩
end RH
set_option Elab.async false
set_option linter.all false
set_option maxRecDepth 100000
set_option maxHeartbeats 2000000
namespace RH
open PySem PySem.Spec PyProof.Rows L2
open SrtO (Swo Srtd Stb SortableO Cmp lt2)
open TS (TupInts intsOf code Bd lex_ints firsts_of)
theorem KB.ex {H : Hp} : ∀ {as : List (List Int × V)} {bs : List Addr}, KB H as bs → EX H (bs.map V.ref) (as.map Prod.fst)
  | _, _, .nil => .nil
  | _, _, .cons g t => .cons g t.ex
theorem XS.adr : ∀ {as : List (List Int × V)} {bs : List Addr} {xs : List (List L2.Key × Addr × Value)}, XS as bs xs → xs.map (fun x => x.2.1) = bs
  | _, _, _, .nil => rfl
  | _, _, _, .cons _ t => by rw [List.map_cons, t.adr]
theorem vals_refs : ∀ bs : List Addr, Vals (bs.map V.ref) (bs.map Value.ref)
  | [] => .nil
  | b :: bs => .cons rfl (vals_refs bs)
/-- the keys, as they are walked -/
theorem keys_walked {P : Program} {w : World} {as : List (List Int × V)} {bs : List Addr} {xs : List (List L2.Key × Addr × Value)} {es : Array DictEntry} {acc : Array Value} (hx : XS as bs xs) (he : es.toList = xs.map (entryOfKey (tupleKind (mixKind P w))))
    (it : ItemsOf (fun i v => ∃ hi : i < es.size, v = es[i].key) acc es.size) : acc.toList = bs.map Value.ref := by
  have l1 : es.size = xs.length := size_of_entries he
  rw [← hx.adr, List.map_map]
  refine List.ext_getElem? fun j => ?_
  rw [List.getElem?_map]
  have hl : acc.toList.length = xs.length := by rw [Array.length_toList, it.1]; exact l1
  by_cases hj : j < xs.length
  · have h1 : acc.toList[j]? = some acc.toList[j] := List.getElem?_eq_getElem (by omega)
    have h2 : xs[j]? = some xs[j] := List.getElem?_eq_getElem hj
    obtain ⟨hi, hv'⟩ := it.2 j _ (by rw [← Array.getElem?_toList]; exact h1)
    rw [h1, h2, hv']
    have h3 : es.toList[j]? = some es[j] := by rw [Array.getElem?_toList]; exact Array.getElem?_eq_getElem hi
    rw [he, List.getElem?_map, h2] at h3
    rw [← Option.some.inj h3]
    rfl
  · rw [List.getElem?_eq_none (by omega), List.getElem?_eq_none (by omega)]
    rfl
theorem XS.blen : ∀ {as : List (List Int × V)} {bs : List Addr} {xs : List (List L2.Key × Addr × Value)}, XS as bs xs → bs.length = as.length
  | _, _, _, .nil => rfl
  | _, _, _, .cons _ t => congrArg (· + 1) t.blen
/-- list(d) -/
def rListE (P : Program) (w : World) : List V → Hp → VK → Prop := fun xs H Q => ∃ (d : Addr) (as : List (List Int × V)) (bs : List Addr), xs = [.ref d] ∧ H d = some (DE P w as bs d) ∧ ∀ l, H l = none → Q (.ref l) (upd H l (.lst (bs.map V.ref)))
theorem call_listE {X : Cx} (hc : X.calm = true) : CallR X (.type "list") (rListE X.prog X.w) := by
  intro pins s σ H xs us Q I r h
  obtain ⟨d, as, bs, rfl, hd, q⟩ := h
  obtain ⟨u, rfl, rx⟩ := r.one
  cases rx
  obtain ⟨hs, z, ks, hx, o, es, ep, ho, hxd, hdt, he, _⟩ := (show ObjOk X.prog X.w H s.heap d (DE X.prog X.w as bs d) from I.hok d _ hd).1
  have l1 : es.size = ks.length := size_of_entries he
  have l2 : ks.length = as.length := hx.len
  refine PySem.W.kdl_call (KdlSrc.rawDict (es := es) (ep := ep) hs) (I.ok.hd hc) ⟨o, ho, hxd, hdt⟩ (by omega) fun h' tk acc' c' kp e it => ?_
  have ea := keys_walked hx he it
  have rv : Vals (bs.map V.ref) acc'.toList := by rw [ea]; exact vals_refs bs
  refine ⟨.ref s.heap.objs.size, _, I.laid (t' := tk) (o := .lst (bs.map V.ref)) kp (Nat.le_refl _) ?_, rfl, q _ (I.hok.fresh (Nat.le_refl _))⟩
  exact ⟨by rw [List.length_map, hx.blen]; exact z, acc'.toList, c', rv, by rw [Array.toArray_toList]; exact e⟩
/-! ### get, in, a new one, [..] = -/
def tDNewE (P : Program) (w : World) : TE := fun _ H Q => ∀ p, H p = none → Q (.ref p) (upd H p (DE P w [] [] p))
section
variable {X : Cx} {o i e f : Expr} {pos apos cpos : Pos} {td ty tx : TE}
theorem pe_dnewE : PE X (.Dict [] [] pos) (tDNewE X.prog X.w) := ⟨fun pins s σ H Q I h =>
  wpAny_Dict_empty ⟨.ref s.heap.objs.size, _, I.laid (a := s.heap.objs.size) (o := DE X.prog X.w [] [] s.heap.objs.size) (t' := s.toks) (fun _ _ q => Heap.get?_push_of_some _ q) (Nat.le_refl _)
    (DE.ok (beq_eq_false_iff_ne.mpr (Ne.symm (Nat.ne_of_lt I.big))) (Nat.zero_le _) .nil (Heap.DictOfH.new s.heap)), rfl, h _ (I.hok.fresh (Nat.le_refl _))⟩⟩
end
end RH
set_option Elab.async false
set_option linter.all false
set_option maxRecDepth 100000
set_option maxHeartbeats 2000000
/-! Lambdas that a def hands back: the cells that they caught are tracked from then on. -/
namespace RH
open PySem PySem.Spec PyProof.Rows L2
open LamX (Tabs TabS TabB ExtN CodeO codeO_ne)
open NdefX (NF CellsAt NScope startF ncx codeO_at slotAt Caps cells_of)
/-- the cell at c holds v -/
def CellO (c : Addr) (v : V) : HO := .ext fun h => ∃ u, L2.RelV v u ∧ h.IsCell c (some u)
theorem cellO_ne {c : Addr} {v : V} : (∀ y, CellO c v ≠ .own y) ∧ (∀ xs, CellO c v ≠ .tup xs) ∧ (∀ o u, CellO c v ≠ .frz o u) ∧ (∀ ps, CellO c v ≠ .tbl ps) := by
  unfold CellO
  exact ⟨fun _ z => (nomatch z), fun _ z => (nomatch z), fun _ _ z => (nomatch z), fun _ z => (nomatch z)⟩
theorem cellO_ok {P : Program} {w : World} {H : Hp} {h : Heap} {c : Addr} {v : V} (q : ∃ u, L2.RelV v u ∧ h.IsCell c (some u)) : ObjOk P w H h c (CellO c v) :=
  ⟨q, let ⟨_, _, o, e, _⟩ := q; ⟨o, e⟩, fun _ _ ⟨u, r, o, e, d⟩ st => ⟨u, r, o, st o e, d⟩⟩
abbrev CL := List (Addr × V)
/-- without the cells, with them -/
def era (l : CL) (H : Hp) : Hp := fun b => match l.lookup b with
  | some _ => none
  | none => H b
def lay (l : CL) (H : Hp) : Hp := fun b => match l.lookup b with
  | some v => some (CellO b v)
  | none => H b
theorem era_in {l : CL} {H : Hp} {b : Addr} {v : V} (e : l.lookup b = some v) : era l H b = none := by
  unfold era
  rw [e]
theorem era_no {l : CL} {H : Hp} {b : Addr} (e : l.lookup b = none) : era l H b = H b := by
  unfold era
  rw [e]
theorem lay_in {l : CL} {H : Hp} {b : Addr} {v : V} (e : l.lookup b = some v) : lay l H b = some (CellO b v) := by
  unfold lay
  rw [e]
theorem lay_no {l : CL} {H : Hp} {b : Addr} (e : l.lookup b = none) : lay l H b = H b := by
  unfold lay
  rw [e]
/-- the cells stand -/
def Stand (l : CL) (H : Hp) : Prop := ∀ b v, l.lookup b = some v → H b = some (CellO b v)
theorem Stand.ext {l : CL} {H H' : Hp} (s : Stand l H) (e : ExtN H H') : Stand l H' := fun b v q => e b _ (s b v q) cellO_ne.2.2.2
theorem Stand.same {l : CL} {H H' : Hp} (s : Stand l H) (e : Same H H') : Stand l H' := fun b v q => e b _ (s b v q)
theorem Stand.lay (l : CL) (H : Hp) : Stand l (lay l H) := fun _ _ q => lay_in q
theorem Stand.cases {l : CL} {H : Hp} (s : Stand l H) {b : Addr} {o : HO} (e : H b = some o) : (∃ v, l.lookup b = some v ∧ o = CellO b v) ∨ (l.lookup b = none ∧ era l H b = some o) := by
  cases q : l.lookup b with
  | some v => exact .inl ⟨v, rfl, Option.some.inj (e.symm.trans (s b v q))⟩
  | none => exact .inr ⟨rfl, (era_no q).trans e⟩
theorem Stand.tup {l : CL} {H : Hp} (s : Stand l H) {b : Addr} {xs : List V} (e : H b = some (.tup xs)) : era l H b = some (.tup xs) := by
  rcases s.cases e with ⟨v, _, z⟩ | ⟨_, z⟩
  · exact absurd z.symm (cellO_ne.2.1 xs)
  · exact z
theorem Stand.frz {l : CL} {H : Hp} (s : Stand l H) {b : Addr} {o : Obj} {u : HO} (e : H b = some (.frz o u)) : era l H b = some (.frz o u) := by
  rcases s.cases e with ⟨v, _, z⟩ | ⟨_, z⟩
  · exact absurd z.symm (cellO_ne.2.2.1 o u)
  · exact z
theorem Stand.rd {l : CL} {H : Hp} (s : Stand l H) {b : Addr} {xs : List V} (e : Rd H b (.tup xs)) : Rd (era l H) b (.tup xs) := by
  rcases e with e | ⟨o, e⟩
  · exact .inl (s.tup e)
  · exact .inr ⟨o, s.frz e⟩
/-- the heap with the cells goes on as the one without them does -/
theorem Stand.on {l : CL} {H H2 : Hp} (s : Stand l H) (e : Same (era l H) H2) : Same H (RH.lay l H2) := fun b o q => by
  rcases s.cases q with ⟨v, z, rfl⟩ | ⟨z, y⟩
  · exact lay_in z
  · exact (lay_no z).trans (e b o y)
theorem Stand.hok {P : Program} {w : World} {l : CL} {H : Hp} {h : Heap} (s : Stand l H) (k : HOk P w H h) : HOk P w (era l H) h := fun a o e => by
  cases q : l.lookup a with
  | some v =>
    rw [era_in q] at e
    cases e
  | none =>
    rw [era_no q] at e
    refine (k a o e).stay (fun _ _ _ z => z) (fun b z => ?_) fun b xs z => s.tup z
    rcases s.cases z with ⟨v, _, y⟩ | ⟨_, y⟩
    · exact absurd y.symm (cellO_ne.1 a)
    · exact y
/-- what a lambda caught, and where -/
structure Cap (F : LF) (fr : List Str) (ws : List V) (l : CL) : Prop where
  len : ws.length = fr.length
  all : ∀ y c, F.cl.lookup y = some c → ∃ v, l.lookup c = some v
  inj : ∀ x y c, F.cl.lookup x = some c → F.cl.lookup y = some c → x = y
  has : ∀ (i : Nat) (y : Str), fr[i]? = some y → ∃ c, F.cl.lookup y = some c ∧ ∀ v, ws[i]? = some v → l.lookup c = some v
/-- the lambda at f stands, with its code and its cells -/
structure LiveK (f : Addr) (F : LF) (l : CL) (H : Hp) : Prop where
  fn : H f = some (FnL f F)
  code : H F.c = some (CodeO F.c F.qual)
  st : Stand l H
theorem LiveK.same {f : Addr} {F : LF} {l : CL} {H H' : Hp} (k : LiveK f F l H) (e : Same H H') : LiveK f F l H' := ⟨e _ _ k.fn, e _ _ k.code, k.st.same e⟩
theorem LiveK.ext {f : Addr} {F : LF} {l : CL} {H H' : Hp} (k : LiveK f F l H) (e : ExtN H H') : LiveK f F l H' := ⟨e _ _ k.fn (fun ps => fnL_ne ps), e _ _ k.code (fun ps => codeO_ne ps), k.st.ext e⟩
section
variable {CX : CXT} {P : Program} {w : World} {K : PySem.W.Frag} {mg : Str → Option Value} {base : Heap} {ps fr : List Str} {k : Nat} {f : Addr} {F : LF} {ws : List V} {l : CL} {outer : List Env} {s : Shared} {H : Hp}
theorem LiveK.nofn {h : Heap} (L : LiveK f F l H) (hok : HOk P w H h) : l.lookup f = none ∧ l.lookup F.c = none := by
  constructor
  · cases q : l.lookup f with
    | none => rfl
    | some v =>
      exfalso
      obtain ⟨od, sl, pm, ctv, ho⟩ := fnL_at hok L.fn
      obtain ⟨⟨u, _, o, e, d⟩, _⟩ := hok f _ (L.st f v q)
      rw [ho] at e
      cases e
      cases d
  · cases q : l.lookup F.c with
    | none => rfl
    | some v =>
      exfalso
      obtain ⟨c, oc, vs, t, e0, h1, h2, _⟩ := codeO_at hok L.code
      cases e0
      obtain ⟨⟨u, _, o, e, d⟩, _⟩ := hok F.c _ (L.st F.c v q)
      rw [h1] at e
      cases e
      rw [h2] at d
      cases d
/-- a lambda that was handed back may be called from anywhere, while it stands -/
theorem callable_kept {sp : List (Option V) → Sp} (Fn : LOk P w K mg base CX0 k f F ps fr sp) (C : Cap F fr ws l) :
    Callable P w K mg base CX0 k f (LiveK f F l) (fun vs H Q E => sp (ws.map some) vs (era l H) (fun v H2 => (∀ b y, l.lookup b = some y → H2 b = none) → Q v (lay l H2)) E) outer s H := by
  refine ⟨fun X _ _ _ _ _ _ pins σ H' s' I L => ?_, fun X e1 e2 e3 e4 e5 e6 e7 e8 e9 hr pins σ H' s' us vs Q E I L r hx q => ?_⟩
  · obtain ⟨od, sl, pm, ctv, ho⟩ := fnL_at I.hok L.fn
    exact ⟨_, od, _, sl, ho⟩
  · subst e1 e2 e3 e4 e5 e6 e7 e8
    obtain ⟨nf, nc⟩ := L.nofn I.hok
    have E0 := I.env0
    have cell : ∀ c v, l.lookup c = some v → ∃ u, L2.RelV v u ∧ s'.heap.IsCell c (some u) := fun c v e => (I.hok c _ (L.st c v e)).1
    have nfr : ∀ c v, l.lookup c = some v → c ∉ frs X.stack := fun c v e z => by
      have := E0.frf c z
      rw [L.st c v e] at this
      cases this
    have Ee : Env0 X.prog X.w X.K X.mg X.base X.A X.stack s' (era l H') := by
      refine ⟨E0.frames, E0.mod, fun b o e => ⟨(E0.bs b o e).1, ?_⟩, E0.bsz, E0.funs, fun b hb => ?_, L.st.hok E0.hok, E0.bare⟩
      · cases q : l.lookup b with
        | some v => exact era_in q
        | none => exact (era_no q).trans (E0.bs b o e).2
      · cases q : l.lookup b with
        | some v => exact era_in q
        | none => exact (era_no q).trans (E0.frf b hb)
    have Ce : CellsAt F.cl fr (ws.map some) s'.heap (era l H') := by
      refine ⟨by rw [List.length_map]; exact C.len, fun y c e => ?_, C.inj, fun i y e => ?_⟩
      · obtain ⟨v, hv⟩ := C.all y c e
        obtain ⟨u, _, z⟩ := cell c v hv
        exact ⟨era_in hv, _, z⟩
      · obtain ⟨c, hc, hv⟩ := C.has i y e
        refine ⟨c, hc, fun v ev => ?_⟩
        rw [List.getElem?_map] at ev
        cases ew : ws[i]? with
        | none =>
          rw [ew] at ev
          cases ev
        | some v' =>
          rw [ew] at ev
          have : v' = v := Option.some.inj (Option.some.inj ev)
          subst this
          exact cell c _ (hv _ ew)
    refine wpAny_call (codeAny_mono (Fn.run X.A X.stack s' (era l H') us vs (ws.map some) _ E hr Ee ((era_no nf).trans L.fn) ((era_no nc).trans L.code) Ce r q) fun r s'' hq => ?_)
    cases r with
    | error e => exact hq.elim
    | ok fl =>
      cases fl with
      | ret u =>
        obtain ⟨v, H2, os, bare, un, hok, rv, hQ⟩ := hq
        have gone : ∀ c v, l.lookup c = some v → H2 c = none := fun c v e => by
          obtain ⟨u, _, o, z, _⟩ := cell c v e
          exact un.free c o z (era_in e) (by simp)
        refine I.after ⟨v, lay l H2, os, bare, ?_, ?_, rv, hQ gone⟩
        · have fwd : ∀ b, H' b = none → l.lookup b = none := fun b e => by
            cases q : l.lookup b with
            | none => rfl
            | some v =>
              rw [L.st b v q] at e
              cases e
          refine ⟨fun b o e n => un.keep b o e ((era_no (fwd b n)).trans n), fun b o e n => un.slot b o e ((era_no (fwd b n)).trans n), fun b o e n x => (lay_no (fwd b n)).trans (un.free b o e ((era_no (fwd b n)).trans n) x), un.there, fun b xs e => ?_, fun b o u e => ?_, fun b ps e => ?_⟩
          · rcases L.st.cases e with ⟨v, _, z⟩ | ⟨n, z⟩
            · exact absurd z.symm (cellO_ne.2.1 xs)
            · exact (lay_no n).trans (un.tups b xs z)
          · rcases L.st.cases e with ⟨v, _, z⟩ | ⟨n, z⟩
            · exact absurd z.symm (cellO_ne.2.2.1 o u)
            · exact (lay_no n).trans (un.frzs b o u z)
          · rcases L.st.cases e with ⟨v, _, z⟩ | ⟨n, z⟩
            · exact absurd z.symm (cellO_ne.2.2.2 ps)
            · obtain ⟨more, y⟩ := un.tbls b ps z
              exact ⟨more, (lay_no n).trans y⟩
        · intro a o e
          cases q : l.lookup a with
          | some v =>
            rw [lay_in q] at e
            cases e
            obtain ⟨u, ru, ob, z, d⟩ := cell a v q
            exact cellO_ok ⟨u, ru, ob, un.keep a ob z (era_in q) (nfr a v q) (by simp), d⟩
          | none =>
            rw [lay_no q] at e
            refine (hok a o e).stay (fun _ _ _ z => z) (fun b z => ?_) fun b xs z => ?_
            · cases q2 : l.lookup b with
              | none => exact (lay_no q2).trans z
              | some v =>
                rw [gone b v q2] at z
                cases z
            · cases q2 : l.lookup b with
              | none => exact (lay_no q2).trans z
              | some v =>
                rw [gone b v q2] at z
                cases z
      | next => exact False.elim hq
      | brk => exact False.elim hq
      | cont => exact False.elim hq
end
/-- f(..), f a name that holds a thing that may be called: g says which -/
def tCanK {G : Type} (fa : G → Addr) (live : G → Hp → Prop) (i : Nat) (sp : G → Sp) (E : XK) (t : TA) : TE := fun σ H Q => ∃ g, σ[i]? = some (some (.ref (fa g))) ∧ live g H ∧ t σ H fun vs H1 => live g H1 ∧ sp g vs H1 Q E
theorem pe_canK {G : Type} {X : Cx} {CX : CXT} {fa : G → Addr} {live : G → Hp → Prop} {i j k : Nat} {x : Str} {sp : G → Sp} {E : XK} {t : TA} {e : Expr} {es : List Expr} {p pos : Pos} (Cb : ∀ g, Callable X.prog X.w X.K X.mg X.base CX k (fa g) (live g) (sp g) X.outer X.s_0 X.H_0) (nx : X.ex = []) (hr : Room j X.A) (hk : k ≤ j) (hx : Passes CX X E)
    (hN : X.N[i]? = some x) (hv : Vis X.env.scope x) (ha : PA X (e :: es) t) (hd : (x == ("__debug__" : Str)) = false := by decide) (hcd : (x == ("__classdict__" : Str)) = false := by decide)
    (he : starEach (e :: es) X.env = (false, eval e X.env) :: starEach es X.env := by rfl) (hpl : (backTo pos (starEach es X.env)).any (·.1) = false := by rfl) :
    PE X (.Call (.Name x p) (e :: es) [] pos) (tCanK fa live i sp E t) := by
  refine ⟨fun pins s σ H Q I h => ?_⟩
  obtain ⟨g, hg⟩ := h
  exact (pe_can (pos := pos) (p := p) (Cb g) nx hr hk hx hN hv ha hd hcd he hpl).run pins s σ H Q I hg
/-! ### a body that ends with a return, its names kept -/
structure PSR (X : Cx) (st : List Stmt) (tr : (V → L2.St → Hp → Prop) → L2.St → Hp → Prop) : Prop where
  run : ∀ (pins : List (Addr × Obj)) (s : Shared) (σ : L2.St) (H : Hp) (R : V → L2.St → Hp → Prop), Inv X pins σ H s → tr R σ H → wpAny (model X.prog X.w) X.A (execs st X.env) (fun fl s' => ∃ u v σ' H', fl = .ret u ∧ Inv X pins σ' H' s' ∧ L2.RelV v u ∧ R v σ' H') X.xe s
theorem psr_ret {X : Cx} {e : Expr} {te : TE} {pos : Pos} (he : PE X e te) : PSR X [.Return (some e) pos] (fun R σ H => te σ H fun v H1 => R v σ H1) := by
  refine ⟨fun pins s σ H R I h => ?_⟩
  refine wpAny_execs_cons (wpAny_Return_some (thn (he.run pins s σ H (fun v H1 => R v σ H1) I h) fun v s1 ⟨x, H1, I1, r1, q1⟩ => ?_))
  exact ⟨v, x, σ, H1, rfl, I1, r1, q1⟩
section
variable {P : Program} {w : World} {K : PySem.W.Frag} {mg : Str → Option Value} {base : Heap}
/-- a def whose end is told with its names and its frame -/
theorem fnR_of {k : Nat} {f : Addr} {name qual : Str} {params : Arguments} {body : List Stmt} {scope : Scope} {dV kV doc pm cdv ct oc : Value} {an od : Option Addr}
    {osl : Array (Option Value)} {N ps : List Str} {sp : Sp} (lk : K.lookup f = some ⟨oc, od, .func (PySem.W.fnOf name qual params body scope dV kV doc pm an cdv ct), osl⟩) (hcd : PySem.W.codeIn K cdv qual = true) (S : FnScope N ps scope)
    (len : ∀ vs H Q E, sp vs H Q E → vs.length = ps.length)
    (hbody : ∀ (A : Around) (outer : List Env) (s : Shared) (H : Hp) (vs : List V) (Q : VK) (E : XK), Room k (A.deeper (envOfC qual scope s.heap.objs.size f cdv)) → sp vs H Q E →
      ∃ (R : V → L2.St → Hp → Prop) (tr : (V → L2.St → Hp → Prop) → L2.St → Hp → Prop), PSR (cxOf CX0 P w K mg base N qual scope f cdv A outer s H E) body tr ∧ tr R (start N vs) H ∧
        ∀ (s' : Shared) (σ' : L2.St) (H' : Hp) (v : V) (u : Value), Inv (cxOf CX0 P w K mg base N qual scope f cdv A outer s H E) [] σ' H' s' → L2.RelV v u → R v σ' H' → CE outer P w H s Q u s') :
    FnOk P w K mg base CX0 (k + 1) f (PySem.W.fnOf name qual params body scope dV kV doc pm an cdv ct) ps sp := by
  refine ⟨len, fun A outer s H args us vs Q E hr e0 hb r hsp => ?_⟩
  have hl := len _ _ _ _ hsp
  have KX : K.In s.heap := e0.mod.kin.keeps fun b o e => (e0.bs b o e).1
  have lim : s.heap.NoLimit := e0.mod.nolimit.keeps fun b o e => (e0.bs b o e).1
  have hkind : ∀ y ∈ ps.zip us, scope.names.lookup y.1 = some .local ∨ (scope.names.lookup y.1 = some .cell ∧ ((cellsFrom (s.heap.objs.size + 1) scope.names []).lookup y.1).isSome = true) := fun ⟨n, v⟩ hy => by
    rcases S.par n (List.of_mem_zip hy).1 with q | q
    · exact .inl q
    · exact .inr ⟨q, PySem.W.cellsFrom_some _ _ _ (.inl q)⟩
  refine codeAny_call_function hr.depth (KX _ _ lk) rfl S.co S.gen rfl (PySem.W.codeRec_of KX hcd) (hb _ _ _ _ ?_)
  refine wpAny_newFunctionEnv_cells S.kind hkind fun env he s1 x => ?_
  subst he
  refine ⟨lim.keeps x.toInCall.keep, codeAny_func ?_⟩
  obtain ⟨R, tr, ht, hq, fin⟩ := hbody A outer s H vs Q E (hr.deeper _) hsp
  have I : Inv (cxOf CX0 P w K mg base N qual scope f cdv A outer s H E) [] (start N vs) H s1 := inv_start S hr.hd e0 hl r x
  refine wpAny_mono (ht.run [] s1 (start N vs) H R I hq) (fun fl s' hs => ?_) fun e s' hs => hs
  obtain ⟨u, v, σ', H', rfl, J, rv, q⟩ := hs
  exact fin s' σ' H' v u J rv q
/-- the end of a def that hands back lambdas: its cells are laid -/
theorem ce_lay {X : Cx} {pins : List (Addr × Obj)} {σ : L2.St} {H' : Hp} {s' : Shared} {v : V} {u : Value} {Q : VK} {l : CL} (hf : ∀ x, X.fn x = true) (J : Inv X pins σ H' s') (hx : X.ex = []) (hfs : X.fs = frs X.outer)
    (hl : ∀ b y, l.lookup b = some y → ∃ (x : Str) (i : Nat), X.env.cells.lookup x = some b ∧ X.N[i]? = some x ∧ σ[i]? = some (some y) ∧ X.env.scope.names.lookup x = some .cell)
    (rv : L2.RelV v u) (q : Q v (lay l H')) : CE X.outer X.prog X.w X.H_0 X.s_0 Q u s' := by
  have cell : ∀ b y, l.lookup b = some y → (∃ u, L2.RelV y u ∧ s'.heap.IsCell b (some u)) ∧ X.s_0.heap.objs.size ≤ b ∧ H' b = none := fun b y e => by
    obtain ⟨x, i, h1, h2, h3, h4⟩ := hl b y e
    refine ⟨?_, J.ok.cab x b (hf x) h1, J.freeC x b h1⟩
    obtain ⟨m, _, hm⟩ := J.loc
    obtain ⟨u, r, lk⟩ := hm i x y h2 h3 (.inr (.inl h4))
    rcases lk with ⟨z, _⟩ | ⟨_, a', ha', hc⟩
    · have z' : X.env.scope.names.lookup x = some .local := z
      rw [h4] at z'
      cases z'
    · rw [h1] at ha'
      cases ha'
      exact ⟨u, r, hc⟩
  have low : ∀ b o, X.s_0.heap.get? b = some o → l.lookup b = none := fun b o e => by
    cases q : l.lookup b with
    | none => rfl
    | some y => exact absurd (Nat.lt_of_lt_of_le (Heap.lt_size e) (cell b y q).2.1) (Nat.lt_irrefl _)
  have up : ∀ b o, H' b = some o → lay l H' b = some o := fun b o e => by
    cases q : l.lookup b with
    | none => exact (lay_no q).trans e
    | some y =>
      rw [(cell b y q).2.2] at e
      cases e
  have U := J.base
  rw [hx, hfs] at U
  refine ⟨v, lay l H', J.os, J.bare, ⟨U.keep, U.slot, fun b o e n x => (lay_no (low b o e)).trans (U.free b o e n x), U.there, fun b xs e => up _ _ (U.tups b xs e), fun b o w e => up _ _ (U.frzs b o w e), fun b ps e => ?_⟩, fun a o e => ?_, rv, q⟩
  · obtain ⟨more, z⟩ := U.tbls b ps e
    exact ⟨more, up _ _ z⟩
  · cases q : l.lookup a with
    | some y =>
      rw [lay_in q] at e
      cases e
      exact cellO_ok (cell a y q).1
    | none =>
      rw [lay_no q] at e
      exact (J.hok a o e).stay (fun _ _ _ z => z) (fun b z => up _ _ z) fun b xs z => up _ _ z
end
end RH
set_option Elab.async false
set_option linter.all false
set_option maxRecDepth 100000
set_option maxHeartbeats 2000000
/-! A walk over zip of a tuple and a list. -/
namespace RH
open PySem PySem.Spec PyProof.Rows L2
/-- the tuple at a with the list at b, item by item in new pairs -/
def ItzM (K : PySem.W.Frag) (a b : Addr) : It :=
  ⟨fun i H => ∃ (xs ys : List V) (x y : V), SqT K H a xs ∧ SqL K H b ys ∧ xs[i]? = some x ∧ ys[i]? = some y,
    fun i H v H' => ∃ T x y, v = .ref T ∧ H T = none ∧ H' = upd H T (.tup [x, y]) ∧ (∀ xs, SqT K H a xs → xs[i]? = some x) ∧ ∀ ys, SqL K H b ys → ys[i]? = some y,
    fun i H => ∃ xs ys : List V, SqT K H a xs ∧ SqL K H b ys ∧ xs.length = ys.length ∧ xs.length = i⟩
abbrev fpz (z TI TO i1 i2 : Addr) : List Addr := [z, TI, TO, i1, i2]
theorem fpz_cases {z TI TO i1 i2 c : Addr} (h : c ∈ fpz z TI TO i1 i2) : c = z ∨ c = TI ∨ c = TO ∨ c = i1 ∨ c = i2 := by simpa using h
theorem turn_zipM {P : Program} {w : World} {K : PySem.W.Frag} {elts : List Expr} {kk : Nat} {tpos : Pos} {a b z TI TO i1 i2 : Addr} (S : ZipSep2 z TI TO i1 i2 [i1, a] [i2, b]) (na : a ≠ i1) (nb : b ≠ i2) :
    Turn P w K (.Tuple elts kk tpos) (ItzM K a b) (fpz z TI TO i1 i2) z (fun i h => IsZip h z TI TO .none ∧ IsTupOf2 h TI (.ref i1) (.ref i2) ∧ (∃ x y, IsTupOf2 h TO x y) ∧ h.IsTupleIter i1 a i ∧ h.IsListIter i2 b i) where
  mem := List.mem_cons_self ..
  obj := fun i h st c hc => by
    obtain ⟨hz, hTI, ⟨x, y, hTO⟩, ⟨o1, e1, c1, d1⟩, ⟨o2, e2, c2, d2⟩⟩ := st
    rcases fpz_cases hc with rfl | rfl | rfl | rfl | rfl
    · exact ⟨_, hz, fun v q => nomatch q⟩
    · exact ⟨_, hTI, fun v q => nomatch q⟩
    · exact ⟨_, hTO, fun v q => nomatch q⟩
    · exact ⟨o1, e1, fun v q => by rw [d1] at q; cases q⟩
    · exact ⟨o2, e2, fun v q => by rw [d2] at q; cases q⟩
  keep := fun i h h' st k => by
    obtain ⟨hz, hTI, ⟨x, y, hTO⟩, j1, j2⟩ := st
    have m : ∀ c, (c = z ∨ c = TI ∨ c = TO ∨ c = i1 ∨ c = i2) → c ∈ fpz z TI TO i1 i2 := fun c q => by simpa using q
    exact ⟨k z (m z (.inl rfl)) _ hz, k TI (m TI (.inr (.inl rfl))) _ hTI, ⟨x, y, k TO (m TO (.inr (.inr (.inl rfl)))) _ hTO⟩,
      j1.at fun o q => k i1 (m i1 (.inr (.inr (.inr (.inl rfl))))) o q, j2.at fun o q => k i2 (m i2 (.inr (.inr (.inr (.inr rfl))))) o q⟩
  item := by
    intro X hP hw hK hc i pins s σ H E I hf st hg
    subst hP hw hK
    obtain ⟨hz, hTI, ⟨x0, y0, hTO⟩, j1, j2⟩ := st
    obtain ⟨xs, ys, x, y, hqx, hqy, hx, hy⟩ := hg
    obtain ⟨va, ra, pa, _⟩ := I.tuple hqx
    obtain ⟨vb, rb, pb, _⟩ := I.list hqy
    obtain ⟨u, hu, ru⟩ := ra.get hx
    obtain ⟨u2, hu2, ru2⟩ := rb.get hy
    have zlt : z < s.heap.objs.size := Heap.lt_size hz
    have hA : X.A.in1.handled = none := I.ok.hd hc
    refine wpAny_pyNext_zipD2_item S (Draws.tuple hA i1 a na va.toArray) (Draws.list hA i2 b nb vb.toArray) hz hTI hTO ⟨j1, pa⟩ ⟨j2, pb.isList⟩ (by simpa using (List.getElem?_eq_some_iff.mp hu).1) (by simpa using (List.getElem?_eq_some_iff.mp hu2).1)
      fun w1 w2 h1 tk y1 y2 g1 g2 g3 g4 g5 g6 g7 => ?_
    have ew1 : w1 = u := Option.some.inj (y1.symm.trans (by simpa using hu))
    have ew2 : w2 = u2 := Option.some.inj (y2.symm.trans (by simpa using hu2))
    subst ew1 ew2
    refine ⟨_, rfl, wpAny_letOwnedTupleGo_zip (s := { s with heap := h1, toks := tk }) g1 fun h2 e2 sb => ?_⟩
    have gT : h2.get? s.heap.objs.size = some { cls := .type "tuple", data := .seq #[w1, w2] } := (sb.2 _ (Nat.ne_of_gt zlt)).trans g5
    have new : ObjOk X.prog X.w (upd H s.heap.objs.size (.tup [x, y])) h2 s.heap.objs.size (.tup [x, y]) := ⟨by show 2 ≤ sizeLine; decide, [w1, w2], .cons ru (.cons ru2 .nil), ⟨_, gT, rfl, _, rfl⟩⟩
    have keep : ∀ c o, c ∉ fpz z TI TO i1 i2 → s.heap.get? c = some o → h2.get? c = some o := fun c o hb q => by
      have n : ∀ d, (d = z ∨ d = TI ∨ d = TO ∨ d = i1 ∨ d = i2) → c ≠ d := fun d hd e => hb (by rw [e]; simpa using hd)
      exact (sb.2 c (n z (.inl rfl))).trans (g7 c o (n z (.inl rfl)) (n TO (.inr (.inr (.inl rfl)))) (n i1 (.inr (.inr (.inr (.inl rfl))))) (n i2 (.inr (.inr (.inr (.inr rfl))))) q)
    have I1 : Inv X pins σ (upd H s.heap.objs.size (.tup [x, y])) { s with heap := h2, toks := tk } := I.turnedNew keep hf (Nat.le_refl _) new
    refine ⟨.ref s.heap.objs.size, _, I1, rfl, ⟨_, x, y, rfl, I.hok.fresh (Nat.le_refl _), rfl, fun l hl => by rw [I.tuple_inj hl hqx]; exact hx, fun l hl => by rw [I.list_inj hl hqy]; exact hy⟩, ⟨e2, ?_, ⟨w1, w2, ?_⟩, ?_, ?_⟩, fun c hcm => ?_⟩
    · exact (sb.2 _ S.TIz).trans (g7 _ _ S.TIz S.TITO S.TIi1 S.TIi2 hTI)
    · exact (sb.2 _ S.TOz).trans g2
    · exact g3.1.at fun o q => (sb.2 _ (Ne.symm S.zi1)).trans q
    · exact g4.1.at fun o q => (sb.2 _ (Ne.symm S.zi2)).trans q
    · have hlt : c < s.heap.objs.size := by
        rcases fpz_cases hcm with rfl | rfl | rfl | rfl | rfl
        · exact zlt
        · exact Heap.lt_size hTI
        · exact Heap.lt_size hTO
        · exact Heap.lt_size j1.choose_spec.1
        · exact Heap.lt_size j2.choose_spec.1
      rw [upd_ne (Nat.ne_of_lt hlt)]
      exact (hf c hcm).1
  done := by
    intro X hP hw hK hc i pins s σ H E I hf st hg
    subst hP hw hK
    obtain ⟨hz, hTI, ⟨x0, y0, hTO⟩, j1, j2⟩ := st
    obtain ⟨xs, ys, hqx, hqy, el, ei⟩ := hg
    obtain ⟨va, ra, pa, _⟩ := I.tuple hqx
    obtain ⟨vb, rb, pb, _⟩ := I.list hqy
    have l1 := ra.length
    have l2 := rb.length
    have hA : X.A.in1.handled = none := I.ok.hd hc
    refine wpAny_pyNext_zipD2_end S (Draws.tuple hA i1 a na va.toArray) (Draws.list hA i2 b nb vb.toArray) hz hTI hTO ⟨j1, pa⟩ ⟨j2, pb.isList⟩ (by rw [List.size_toArray]; omega) (by rw [List.size_toArray]; omega) (.inl (by rw [List.size_toArray]; omega)) fun h1 tk hk => ⟨rfl, I.turnedL (fun c o hb q => ?_) hf⟩
    have n : ∀ d, (d = z ∨ d = TI ∨ d = TO ∨ d = i1 ∨ d = i2) → c ≠ d := fun d hd e => hb (by rw [e]; simpa using hd)
    exact hk c o (n z (.inl rfl)) (n TO (.inr (.inr (.inl rfl)))) (n i1 (.inr (.inr (.inr (.inl rfl))))) (n i2 (.inr (.inr (.inr (.inr rfl))))) q
  self := fun A i s Q E st h => wpAny_pyIter_zip st.1 h
def iZipM (K : PySem.W.Frag) (ta : TA) : TI := fun σ H R => ta σ H fun vs H1 => ∃ a b xs ys, vs = [.ref a, .ref b] ∧ SqT K H1 a xs ∧ SqL K H1 b ys ∧ R (ItzM K a b) H1
theorem pi_zipM {X : Cx} {e e2 : Expr} {ta : TA} {p pos tpos : Pos} {elts : List Expr} {kk : Nat} (hg : Gl X "zip") (hm : X.mg "zip" = none) (ha : PA X [e, e2] ta)
    (hs : starEach [e, e2] X.env = (false, eval e X.env) :: starEach [e2] X.env := by rfl) (hpl : (backTo pos (starEach [e2] X.env)).any (·.1) = false := by rfl) :
    PI X (.Tuple elts kk tpos) (.Call (.Name "zip" p) [e, e2] [] pos) (iZipM X.K ta) := by
  refine ⟨fun pins s σ H R I h => Call_ (ld_blt I hg hm PyProof.Rows.boot_zip (PyProof.Rows.callWith_type1 (thn (ha.run pos pins s σ H _ I h) fun us s1 ⟨vs, H1, I1, r1, q1⟩ => ?_) hs hpl))⟩
  obtain ⟨a, b, xs, ys, rfl, hqx, hqy, q⟩ := q1
  obtain ⟨u1, u2, rfl, e1, e2⟩ : ∃ u1 u2, us = [u1, u2] ∧ L2.RelV (.ref a) u1 ∧ L2.RelV (.ref b) u2 := by
    cases r1 with
    | cons r rr =>
      cases rr with
      | cons r' rr =>
        cases rr
        exact ⟨_, _, rfl, r, r'⟩
  obtain rfl : u1 = Value.ref a := e1
  obtain rfl : u2 = Value.ref b := e2
  obtain ⟨va, ra, pa, _⟩ := I1.tuple hqx
  obtain ⟨vb, rb, pb, _⟩ := I1.list hqy
  have la : a < s1.heap.objs.size := Heap.lt_size pa.choose_spec.1
  have lb : b < s1.heap.objs.size := pb.lt
  refine zip_begins2 (begins_tuple a va.toArray) (begins_list b vb.toArray) pa pb.isList fun h1 hz hTI hTO g1 g2 gs gk => wpAny_pyIter_zip hz ?_
  have I2 : Inv X pins σ H1 { s1 with heap := h1 } := I1.kept (t' := s1.toks) gk
  have S := zip_sep2 (N := s1.heap.objs.size) (fp1 := [a]) (fp2 := [b]) (fun c hc => by rw [List.mem_singleton.mp hc]; exact la) (fun c hc => by rw [List.mem_singleton.mp hc]; exact lb)
  refine ⟨s1.heap.objs.size + 4, _, _, _, H1, rfl, I2, turn_zipM S (Nat.ne_of_lt la) (Nat.ne_of_lt (Nat.lt_succ_of_lt lb)), ⟨hz, hTI, ⟨_, _, hTO⟩, ⟨_, g1, rfl, rfl⟩, ⟨_, g2, rfl, rfl⟩⟩, fun c hc => ?_, q⟩
  have hle : s1.heap.objs.size ≤ c := by
    rcases fpz_cases hc with rfl | rfl | rfl | rfl | rfl
    · exact Nat.le_add_right _ _
    · exact Nat.le_add_right _ _
    · exact Nat.le_add_right _ _
    · exact Nat.le_refl _
    · exact Nat.le_add_right _ _
  exact I1.fpOk hle (I1.hok.fresh hle)
/-- a loop over zip of a tuple and a list of one length -/
theorem for_zipM {K : PySem.W.Frag} {a b : Addr} {xs ys : List V} {g : TG} {tb : TS} {D : Ends} {σ : L2.St} {H : Hp} (hl : xs.length = ys.length) (Pv : Nat → L2.St → Hp → Prop) (h0 : Pv 0 σ H) (hq : ∀ i σ H, Pv i σ H → SqT K H a xs ∧ SqL K H b ys)
    (hs : ∀ (i : Nat) (x y : V) (T : Addr) (σ : L2.St) (H : Hp), xs[i]? = some x → ys[i]? = some y → Pv i σ H → H T = none → g (.ref T) σ (upd H T (.tup [x, y])) fun σ2 H2 => tb { D with nx := Pv (i + 1), ct := Pv (i + 1), bk := D.nx } σ2 H2) (hd : ∀ σ H, Pv xs.length σ H → D.nx σ H) :
    ∃ W : Nat → Nat → L2.St → Hp → Prop, (∃ m, W 0 m σ H) ∧ ∀ i m σ H, W i m σ H →
      ((ItzM K a b).stop i H ∧ D.nx σ H) ∨ ((ItzM K a b).go i H ∧ ∃ N : L2.St → Hp → Prop, (∀ σ' H', N σ' H' → ∃ m', m' < m ∧ W (i + 1) m' σ' H') ∧ ∀ v H', (ItzM K a b).yld i H v H' → g v σ H' fun σ2 H2 => tb { D with nx := N, ct := N, bk := D.nx } σ2 H2) := by
  refine ⟨fun i m σ H => m = xs.length - i ∧ i ≤ xs.length ∧ Pv i σ H, ⟨xs.length, rfl, Nat.zero_le _, h0⟩, fun i m σ H hW => ?_⟩
  obtain ⟨rfl, hi, p⟩ := hW
  obtain ⟨qx, qy⟩ := hq i σ H p
  rcases Nat.lt_or_ge i xs.length with hlt | hge
  · have hx : xs[i]? = some xs[i] := List.getElem?_eq_getElem hlt
    have hy : ys[i]? = some (ys[i]'(by omega)) := List.getElem?_eq_getElem (by omega)
    refine .inr ⟨⟨xs, ys, _, _, qx, qy, hx, hy⟩, Pv (i + 1), fun σ' H' q => ⟨xs.length - (i + 1), by omega, rfl, hlt, q⟩, fun v H' hv => ?_⟩
    obtain ⟨T, x, y, rfl, hT, rfl, fx, fy⟩ := hv
    exact hs i x y T σ H (fx xs qx) (fy ys qy) p hT
  · obtain rfl : i = xs.length := by omega
    exact .inl ⟨⟨xs, ys, qx, qy, hl, rfl⟩, hd σ H p⟩
end RH
set_option Elab.async false
set_option linter.all false
set_option maxRecDepth 100000
set_option maxHeartbeats 2000000
namespace RH
open PySem PySem.Spec PyProof.Rows L2
def topS (i : Nat) : Stmt := PySem.Challenge.pw_restlesshelf_k13_whole_tests.main.body.getD i (.Pass ⟨0, 0, 0, 0⟩)
abbrev st_is_integer : Stmt := topS 8
theorem sc_is_integer : FnScope ["value"] ["value"] (defScope st_is_integer) :=
  ⟨rfl, rfl, rfl, by decide +kernel, rfl, by decide +kernel, by decide +kernel⟩
abbrev st_is_number : Stmt := topS 9
theorem sc_is_number : FnScope ["value", "low", "high"] ["value", "low", "high"] (defScope st_is_number) :=
  ⟨rfl, rfl, rfl, by decide +kernel, rfl, by decide +kernel, by decide +kernel⟩
abbrev st_is_row : Stmt := topS 10
theorem sc_is_row : FnScope ["value", "low", "high"] ["value", "low", "high"] (defScope st_is_row) :=
  ⟨rfl, rfl, rfl, by decide +kernel, rfl, by decide +kernel, by decide +kernel⟩
abbrev st_is_place : Stmt := topS 11
theorem sc_is_place : FnScope ["value", "places"] ["value", "places"] (defScope st_is_place) :=
  ⟨rfl, rfl, rfl, by decide +kernel, rfl, by decide +kernel, by decide +kernel⟩
abbrev st_are_places : Stmt := topS 12
theorem sc_are_places : FnScope ["value", "places", "place"] ["value", "places"] (defScope st_are_places) :=
  ⟨rfl, rfl, rfl, by decide +kernel, rfl, by decide +kernel, by decide +kernel⟩
abbrev st_is_rising : Stmt := topS 13
theorem sc_is_rising : FnScope ["row", "one", "other"] ["row"] (defScope st_is_rising) :=
  ⟨rfl, rfl, rfl, by decide +kernel, rfl, by decide +kernel, by decide +kernel⟩
abbrev st_is_layout : Stmt := topS 14
theorem sc_is_layout : FnScope ["value", "places"] ["value", "places"] (defScope st_is_layout) :=
  ⟨rfl, rfl, rfl, by decide +kernel, rfl, by decide +kernel, by decide +kernel⟩
abbrev st_is_habit : Stmt := topS 15
theorem sc_is_habit : FnScope ["value", "moves"] ["value"] (defScope st_is_habit) :=
  ⟨rfl, rfl, rfl, by decide +kernel, rfl, by decide +kernel, by decide +kernel⟩
abbrev st_check_habits : Stmt := topS 16
theorem sc_check_habits : FnScope ["habits", "most", "index", "habit"] ["habits", "most"] (defScope st_check_habits) :=
  ⟨rfl, rfl, rfl, by decide +kernel, rfl, by decide +kernel, by decide +kernel⟩
abbrev st_is_lot : Stmt := topS 17
theorem sc_is_lot : FnScope ["value", "places"] ["value", "places"] (defScope st_is_lot) :=
  ⟨rfl, rfl, rfl, by decide +kernel, rfl, by decide +kernel, by decide +kernel⟩
abbrev st_check_lot : Stmt := topS 18
theorem sc_check_lot : FnScope ["lot", "places"] ["lot", "places"] (defScope st_check_lot) :=
  ⟨rfl, rfl, rfl, by decide +kernel, rfl, by decide +kernel, by decide +kernel⟩
abbrev st_traced : Stmt := topS 20
theorem sc_traced : FnScope ["came", "state", "word", "place"] ["came", "state"] (defScope st_traced) :=
  ⟨rfl, rfl, rfl, by decide +kernel, rfl, by decide +kernel, by decide +kernel⟩
abbrev st_least_word : Stmt := topS 21
theorem sc_least_word : FnScope ["start", "touches", "step", "is_goal", "came", "level", "further", "state", "place", "new"] ["start", "touches", "step", "is_goal"] (defScope st_least_word) :=
  ⟨rfl, rfl, rfl, by decide +kernel, rfl, by decide +kernel, by decide +kernel⟩
abbrev st_test : Stmt := topS 23
theorem sc_test : FnScope ["habit", "other", "lot"] ["habit", "other", "lot"] (defScope st_test) :=
  ⟨rfl, rfl, rfl, by decide +kernel, rfl, by decide +kernel, by decide +kernel⟩
abbrev st_shows_test : Stmt := topS 24
theorem sc_shows_test : FnScope ["habit", "other", "lot", "value", "shortest", "place", "word", "read"] ["habit", "other", "lot", "value"] (defScope st_shows_test) :=
  ⟨rfl, rfl, rfl, by decide +kernel, rfl, by decide +kernel, by decide +kernel⟩
abbrev st_check_two : Stmt := topS 25
theorem sc_check_two : FnScope ["habit", "other", "lot"] ["habit", "other", "lot"] (defScope st_check_two) :=
  ⟨rfl, rfl, rfl, by decide +kernel, rfl, by decide +kernel, by decide +kernel⟩
abbrev st_is_of_lot : Stmt := topS 26
theorem sc_is_of_lot : FnScope ["value", "lot", "places"] ["value", "lot", "places"] (defScope st_is_of_lot) :=
  ⟨rfl, rfl, rfl, by decide +kernel, rfl, by decide +kernel, by decide +kernel⟩
abbrev st_is_test : Stmt := topS 27
theorem sc_is_test : FnScope ["place", "word", "read", "lot", "places", "touch"] ["place", "word", "read", "lot", "places"] (defScope st_is_test) :=
  ⟨rfl, rfl, rfl, by decide +kernel, rfl, by decide +kernel, by decide +kernel⟩
abbrev st_reads_mark : Stmt := topS 28
theorem sc_reads_mark : FnScope ["habit", "place", "word", "read", "stood", "touch"] ["habit", "place", "word", "read"] (defScope st_reads_mark) :=
  ⟨rfl, rfl, rfl, by decide +kernel, rfl, by decide +kernel, by decide +kernel⟩
abbrev st_first_pairs : Stmt := topS 29
theorem sc_first_pairs : FnScope ["habit", "other", "lot", "place"] ["habit", "other", "lot"] (defScope st_first_pairs) :=
  ⟨rfl, rfl, rfl, by decide +kernel, rfl, by decide +kernel, by decide +kernel⟩
abbrev st_pair_step : Stmt := topS 30
theorem sc_pair_step : FnScope ["habit", "other"] ["habit", "other"] (defScope st_pair_step) :=
  ⟨rfl, rfl, rfl, by decide +kernel, rfl, by decide +kernel, by decide +kernel⟩
abbrev st_telling_read : Stmt := topS 31
theorem sc_telling_read : FnScope ["pair", "lot", "one", "other", "read"] ["pair", "lot"] (defScope st_telling_read) :=
  ⟨rfl, rfl, rfl, by decide +kernel, rfl, by decide +kernel, by decide +kernel⟩
abbrev st_shortest_test : Stmt := topS 32
theorem sc_shortest_test : FnScope ["habit", "other", "lot", "best", "step", "place", "first", "word", "marks", "touch"] ["habit", "other", "lot"] (defScope st_shortest_test) :=
  ⟨rfl, rfl, rfl, by decide +kernel, rfl, by decide +kernel, by decide +kernel⟩
abbrev st__law_taken : Stmt := topS 34
theorem sc__law_taken : FnScope ["row", "many", "found", "cell"] ["row", "many"] (defScope st__law_taken) :=
  ⟨rfl, rfl, rfl, by decide +kernel, rfl, by decide +kernel, by decide +kernel⟩
abbrev st__law_order : Stmt := topS 35
theorem sc__law_order : FnScope ["row", "many", "left", "found"] ["row", "many"] (defScope st__law_order) :=
  ⟨rfl, rfl, rfl, by decide +kernel, rfl, by decide +kernel, by decide +kernel⟩
abbrev st__law_habit : Stmt := topS 36
theorem sc__law_habit : FnScope ["row", "places", "way", "found", "place", "moved", "other", "spot"] ["row", "places"] (defScope st__law_habit) :=
  ⟨rfl, rfl, rfl, by decide +kernel, rfl, by decide +kernel, by decide +kernel⟩
abbrev st__law_lot : Stmt := topS 37
theorem sc__law_lot : FnScope ["row", "places", "found", "place"] ["row", "places"] (defScope st__law_lot) :=
  ⟨rfl, rfl, rfl, by decide +kernel, rfl, by decide +kernel, by decide +kernel⟩
abbrev st__law_marks : Stmt := topS 38
theorem sc__law_marks : FnScope ["habit", "other", "lot", "found", "last", "far", "longer", "pair", "place"] ["habit", "other", "lot"] (defScope st__law_marks) :=
  ⟨rfl, rfl, rfl, by decide +kernel, rfl, by decide +kernel, by decide +kernel⟩
abbrev st__law_tells : Stmt := topS 39
theorem sc__law_tells : FnScope ["habit", "other", "value", "one", "two", "place"] ["habit", "other", "value"] (defScope st__law_tells) :=
  ⟨rfl, rfl, rfl, by decide +kernel, rfl, by decide +kernel, by decide +kernel⟩
abbrev st__law_pick : Stmt := topS 40
theorem sc__law_pick : FnScope ["row", "things"] ["row", "things"] (defScope st__law_pick) :=
  ⟨rfl, rfl, rfl, by decide +kernel, rfl, by decide +kernel, by decide +kernel⟩
abbrev st__law_alike : Stmt := topS 41
theorem sc__law_alike : FnScope ["found", "due", "k"] ["found", "due"] (defScope st__law_alike) :=
  ⟨rfl, rfl, rfl, by decide +kernel, rfl, by decide +kernel, by decide +kernel⟩
abbrev st_law : Stmt := topS 42
theorem sc_law : FnScope ["script", "row", "places", "habit", "other", "at", "lot", "found", "marks", "far", "pair", "turn", "steps", "word", "some", "drawn", "value", "due", "every", "right", "whole", "place", "step", "spot"] ["script"] (defScope st_law) :=
  ⟨rfl, rfl, rfl, by decide +kernel, rfl, by decide +kernel, by decide +kernel⟩
/-! ### what the top has written -/
/-- the def x of the text stands in the module under its name -/
structure Df (K : PySem.W.Frag) (mg : Str → Option Value) (x : Str) (st : Stmt) (ps : List Str) : Prop where
  ex : ∃ (f : Addr) (fd : FuncData), Fun K x x st f fd ∧ mg x = some (.ref f) ∧ Binds K fd ps []
/-- names of the interpreter that the module leaves alone -/
structure Bu (mg : Str → Option Value) : Prop where
  isi : mg "isinstance" = none
  int : mg "int" = none
  bool : mg "bool" = none
  str : mg "str" = none
  tuple : mg "tuple" = none
  list : mg "list" = none
  len : mg "len" = none
  all : mg "all" = none
  zip : mg "zip" = none
  range : mg "range" = none
  sorted : mg "sorted" = none
  enumerate : mg "enumerate" = none
  max : mg "max" = none
section
variable {P : Program} {w : World} {K : PySem.W.Frag} {mg : Str → Option Value} {base : Heap}
/-- a def that may be called by its name -/
structure Cal (P : Program) (w : World) (K : PySem.W.Frag) (mg : Str → Option Value) (base : Heap) (k : Nat) (x : Str) (sp : Sp) : Prop where
  ex : ∃ (f : Addr) (fd : FuncData) (ps : List Str), FnOk P w K mg base CX0 k f fd ps sp ∧ mg x = some (.ref f) ∧ PySem.W.keepIn K (.ref f) = true ∧ Binds K fd ps []
theorem mkCal {x : Str} {st : Stmt} {N ps : List Str} {k : Nat} {sp : Sp} (F : Df K mg x st ps) (S : FnScope N ps (defScope st)) (len : ∀ vs H Q E, sp vs H Q E → vs.length = ps.length)
    (hbody : ∀ (f : Addr) (cdv : Value) (A : Around) (outer : List Env) (s : Shared) (H : Hp) (vs : List V) (Q : VK) (E : XK), Room k (A.deeper (envOfC x (defScope st) s.heap.objs.size f cdv)) → sp vs H Q E →
      ∃ t, PSs (cxOf CX0 P w K mg base N x (defScope st) f cdv A outer s H E).nox (defBody st) t ∧ t { nx := fun _ H' => Q .non H', rt := Q } (start N vs) H) : Cal P w K mg base (k + 1) x sp := by
  obtain ⟨f, fd, F, g, b⟩ := F.ex
  exact ⟨f, fd, ps, F.ok S len (hbody f), g, F.kp, b⟩
theorem Cal.imp {k : Nat} {x : Str} {sp sp' : Sp} (c : Cal P w K mg base k x sp) (h : ∀ vs H Q E, sp' vs H Q E → sp vs H Q E) : Cal P w K mg base k x sp' := by
  obtain ⟨f, fd, ps, F, g, kp, b⟩ := c.ex
  exact ⟨f, fd, ps, F.imp h, g, kp, b⟩
end
theorem pc {X : Cx} {k j : Nat} {x : Str} {sp : Sp} {p pos : Pos} {e : Expr} {es : List Expr} {t : TA} (c : Cal X.prog X.w X.K X.mg X.base k x sp) (hr : Room j X.A) (ha : PA X (e :: es) t) (hk : k ≤ j := by decide) (hg : Gl X x := by rfl)
    (hdb : (x == ("__debug__" : Str)) = false := by decide) (he : starEach (e :: es) X.env = (false, eval e X.env) :: starEach es X.env := by rfl) (hpl : (backTo pos (starEach es X.env)).any (·.1) = false := by rfl) :
    PE X (.Call (.Name x p) (e :: es) [] pos) (tCall sp [] E0 t) := by
  obtain ⟨f, fd, ps, F, hm, kp, b⟩ := c.ex
  exact pe_call F (hr.mono hk) hg hm kp b .nil pass0 ha hdb he hpl
/-- a statement that is never come to -/
theorem ps_no {X : Cx} {st : Stmt} : PS X st (fun _ _ _ => False) := ⟨fun _ _ _ _ _ _ h => h.elim⟩
/-! ### heaps, tuples of ints, and of such -/
theorem same_new {H : Hp} {p : Addr} {o : HO} (h : H p = none) : Same H (upd H p o) := fun b x e => by
  rw [upd_ne (ne_of_none e h)]
  exact e
theorem seqT {K : PySem.W.Frag} {H H' : Hp} {a : Addr} {xs : List V} (e : ∀ o, H a = some o → H' a = some o) (h : SqT K H a xs) : SqT K H' a xs := by
  rcases h with (h | ⟨o, h⟩) | h
  · exact .inl (.inl (e _ h))
  · exact .inl (.inr ⟨o, e _ h⟩)
  · exact .inr h
theorem onT {K : PySem.W.Frag} {H H' : Hp} {a : Addr} {xs : List V} (e : Same H H') (h : SqT K H a xs) : SqT K H' a xs := seqT (fun o => e a o) h
theorem tupAt {K : PySem.W.Frag} {H : Hp} {a : Addr} {xs : List V} (h : H a = some (.tup xs)) : SqT K H a xs := .inl (.inl h)
theorem lstAt {K : PySem.W.Frag} {H : Hp} {a : Addr} {xs : List V} (h : H a = some (.lst xs)) : SqL K H a xs := .inl (.inl h)
/-- a tuple's type -/
theorem ty_tup {K : PySem.W.Frag} {H : Hp} {a : Addr} {xs : List V} (h : SqT K H a xs) : TyX K H (.ref a) (.type "tuple") := by
  rcases h with (h | ⟨o, h⟩) | ⟨o, its, n, h, c, _⟩
  · exact .base (.tup h)
  · exact .fTuple h
  · exact .kTuple h c
/-- each by each -/
inductive Each {α : Type} (R : V → α → Prop) : List V → List α → Prop
  | nil : Each R [] []
  | cons {v : V} {d : α} {vs : List V} {ds : List α} : R v d → Each R vs ds → Each R (v :: vs) (d :: ds)
theorem Each.len {α : Type} {R : V → α → Prop} : ∀ {vs : List V} {ds : List α}, Each R vs ds → vs.length = ds.length
  | _, _, .nil => rfl
  | _, _, .cons _ t => congrArg (· + 1) t.len
theorem Each.imp {α : Type} {R R' : V → α → Prop} (f : ∀ v d, R v d → R' v d) : ∀ {vs : List V} {ds : List α}, Each R vs ds → Each R' vs ds
  | _, _, .nil => .nil
  | _, _, .cons h t => .cons (f _ _ h) (t.imp f)
theorem Each.at {α : Type} {R : V → α → Prop} : ∀ {vs : List V} {ds : List α} {i : Nat} {v : V}, Each R vs ds → vs[i]? = some v → ∃ d, ds[i]? = some d ∧ R v d
  | _, _, _, _, .nil, e => by simp at e
  | _, _, 0, _, .cons h _, e => by
    have e' := Option.some.inj e
    subst e'
    exact ⟨_, rfl, h⟩
  | _, _, i + 1, _, .cons _ t, e => t.at (i := i) e
theorem Each.of {α : Type} {R : V → α → Prop} : ∀ {vs : List V} {ds : List α} {i : Nat} {d : α}, Each R vs ds → ds[i]? = some d → ∃ v, vs[i]? = some v ∧ R v d
  | _, _, _, _, .nil, e => by simp at e
  | _, _, 0, _, .cons h _, e => by
    have e' := Option.some.inj e
    subst e'
    exact ⟨_, rfl, h⟩
  | _, _, i + 1, _, .cons _ t, e => t.of (i := i) e
theorem Each.snoc {α : Type} {R : V → α → Prop} {v : V} {d : α} (h : R v d) : ∀ {vs : List V} {ds : List α}, Each R vs ds → Each R (vs ++ [v]) (ds ++ [d])
  | _, _, .nil => .cons h .nil
  | _, _, .cons g t => .cons g (t.snoc h)
/-- a tuple of ints -/
def TI (K : PySem.W.Frag) (H : Hp) (v : V) (ns : List Int) : Prop := ∃ a, v = .ref a ∧ SqT K H a (ns.map V.int)
/-- a tuple of such -/
def TII (K : PySem.W.Frag) (H : Hp) (v : V) (nss : List (List Int)) : Prop := ∃ a vs, v = .ref a ∧ SqT K H a vs ∧ Each (TI K H) vs nss
def THs (K : PySem.W.Frag) (H : Hp) (v : V) (hs : List (List (List Int))) : Prop := ∃ a vs, v = .ref a ∧ SqT K H a vs ∧ Each (TII K H) vs hs
/-- all tuples stand -/
def Tups (K : PySem.W.Frag) (H H' : Hp) : Prop := ∀ a xs, SqT K H a xs → SqT K H' a xs
theorem Same.tups {K : PySem.W.Frag} {H H' : Hp} (e : Same H H') : Tups K H H' := fun _ _ h => onT e h
theorem TI.on {K : PySem.W.Frag} {H H' : Hp} {v : V} {ns : List Int} (e : Tups K H H') (h : TI K H v ns) : TI K H' v ns := let ⟨a, h1, h2⟩ := h; ⟨a, h1, e _ _ h2⟩
theorem TII.on {K : PySem.W.Frag} {H H' : Hp} {v : V} {nss : List (List Int)} (e : Tups K H H') (h : TII K H v nss) : TII K H' v nss := let ⟨a, vs, h1, h2, h3⟩ := h; ⟨a, vs, h1, e _ _ h2, h3.imp fun _ _ z => z.on e⟩
theorem THs.on {K : PySem.W.Frag} {H H' : Hp} {v : V} {hs : List (List (List Int))} (e : Tups K H H') (h : THs K H v hs) : THs K H' v hs := let ⟨a, vs, h1, h2, h3⟩ := h; ⟨a, vs, h1, e _ _ h2, h3.imp fun _ _ z => z.on e⟩
theorem map_at {ns : List Int} {i : Nat} {x : V} (h : (ns.map V.int)[i]? = some x) : ∃ n, ns[i]? = some n ∧ x = .int n := by
  rw [List.getElem?_map] at h
  cases e : ns[i]? with
  | none =>
    rw [e] at h
    cases h
  | some n =>
    rw [e] at h
    exact ⟨n, rfl, (Option.some.inj h).symm⟩
theorem at_map {ns : List Int} {i : Nat} {n : Int} (h : ns[i]? = some n) : (ns.map V.int)[i]? = some (.int n) := by
  rw [List.getElem?_map, h]
  rfl
theorem all_snoc {α : Type} (f : α → Bool) {l : List α} {i : Nat} {x : α} (h : l[i]? = some x) : (l.take (i + 1)).map f = (l.take i).map f ++ [f x] := by
  rw [List.take_add_one, h, List.map_append]
  rfl
/-! ### lists of ints, compared -/
theorem dpAll_ints {K : PySem.W.Frag} {H : Hp} : ∀ ns : List Int, DpAll K H (ns.map V.int) (ns.map PyData.int)
  | [] => .nil
  | n :: ns => .cons (.int n) (dpAll_ints ns)
theorem dp_lst {K : PySem.W.Frag} {H : Hp} {a : Addr} {ns : List Int} (h : SqL K H a (ns.map V.int)) : Dp K H (.ref a) (.list (ns.map PyData.int)) := .lst h (dpAll_ints ns)
theorem dp_tup {K : PySem.W.Frag} {H : Hp} {a : Addr} {ns : List Int} (h : SqT K H a (ns.map V.int)) : Dp K H (.ref a) (.tuple (ns.map PyData.int)) := .tup h (dpAll_ints ns)
theorem eqv_lst (ns ms : List Int) : PyData.eqv (.list (ns.map PyData.int)) (.list (ms.map PyData.int)) = decide (ns = ms) := by
  rw [PyData.eqv]
  exact PySem.W.ked_eqvAll ns ms
def rg (n : Nat) : List Int := (List.range n).map fun i : Nat => (i : Int)
theorem rgV_rg (n : Nat) : rgV 0 (n : Int) = (rg n).map V.int := by
  unfold rgV rg
  rw [List.map_map, Int.sub_zero, Int.toNat_natCast]
  refine List.map_congr_left fun i _ => ?_
  show V.int (0 + (i : Int)) = V.int (i : Int)
  rw [Int.zero_add]
theorem rg_len (n : Nat) : (rg n).length = n := by
  unfold rg
  rw [List.length_map, List.length_range]
theorem rg_mem {n : Nat} {x : Int} : x ∈ rg n ↔ 0 ≤ x ∧ x < n := by
  unfold rg
  rw [List.mem_map]
  constructor
  · rintro ⟨i, h, rfl⟩
    have := List.mem_range.mp h
    omega
  · rintro ⟨h1, h2⟩
    exact ⟨x.toNat, List.mem_range.mpr (by omega), by omega⟩
theorem rg_at {n i : Nat} (h : i < n) : (rg n)[i]? = some (i : Int) := by
  unfold rg
  rw [List.getElem?_map, List.getElem?_range h]
  rfl
/-! ### walks over enumerate and zip of tuples -/
section
variable {K : PySem.W.Frag} {a b : Addr} {xs ys : List V}
theorem for_enumT {g : TG} {tb : TS} {D : Ends} {σ : L2.St} {H : Hp} (Pv : Nat → L2.St → Hp → Prop) (h0 : Pv 0 σ H) (hl : ∀ i σ H, Pv i σ H → SqT K H a xs)
    (hs : ∀ i x T σ H, xs[i]? = some x → Pv i σ H → H T = none → g (.ref T) σ (upd H T (.tup [.int (i : Nat), x])) fun σ2 H2 => tb { D with nx := Pv (i + 1), ct := Pv (i + 1), bk := D.nx } σ2 H2) (hd : ∀ σ H, Pv xs.length σ H → D.nx σ H) :
    ∃ W : Nat → Nat → L2.St → Hp → Prop, (∃ m, W 0 m σ H) ∧ ∀ i m σ H, W i m σ H →
      ((IteT K a).stop i H ∧ D.nx σ H) ∨ ((IteT K a).go i H ∧ ∃ N : L2.St → Hp → Prop, (∀ σ' H', N σ' H' → ∃ m', m' < m ∧ W (i + 1) m' σ' H') ∧ ∀ x H', (IteT K a).yld i H x H' → g x σ H' fun σ2 H2 => tb { D with nx := N, ct := N, bk := D.nx } σ2 H2) := by
  refine ⟨fun i m σ H => m = xs.length - i ∧ i ≤ xs.length ∧ Pv i σ H, ⟨xs.length, rfl, Nat.zero_le _, h0⟩, ?_⟩
  rintro i m σ H ⟨rfl, hi, p⟩
  have q := hl i σ H p
  by_cases hlt : i < xs.length
  · have hx : xs[i]? = some xs[i] := List.getElem?_eq_getElem hlt
    refine .inr ⟨⟨xs, _, q, hx⟩, Pv (i + 1), fun σ' H' p' => ⟨xs.length - (i + 1), by omega, rfl, hlt, p'⟩, fun v H' y => ?_⟩
    obtain ⟨T, x', rfl, hT, rfl, f1⟩ := y
    exact hs i x' T σ H (f1 xs q) p hT
  · have e : i = xs.length := by omega
    subst e
    exact .inl ⟨⟨xs, q, Nat.le_refl _⟩, hd σ H p⟩
theorem lc_zipT {g : TG} {tt : TT} {te : TE} {vs : List Nat} {σ : L2.St} {H1 : Hp} {D : Addr} {Qd : Hp → Prop} (n : Nat) (hn : n = min xs.length ys.length) (Pv : Nat → Hp → Prop) (h0 : Pv 0 (upd H1 D (.lst []))) (hl : ∀ i H, Pv i H → SqT K H a xs ∧ SqT K H b ys)
    (hs : ∀ i x z T H, xs[i]? = some x → ys[i]? = some z → Pv i H → H T = none → g (.ref T) (wipe σ vs) (upd H T (.tup [x, z])) fun σ2 H2 => wipe σ2 vs = wipe σ vs ∧ tt σ2 H2 fun k H3 =>
      if k = true then te σ2 H3 fun y H4 => ∃ acc, H4 D = some (.lst acc) ∧ acc.length < sizeLine ∧ Pv (i + 1) (upd H4 D (.lst (acc ++ [y]))) else Pv (i + 1) H3) (hd : ∀ H, Pv n H → Qd H) :
    ∃ W : Nat → Nat → Hp → Prop, (∃ m, W 0 m (upd H1 D (.lst []))) ∧ ∀ i m H, W i m H →
      ((RZ.ItzT K a b).stop i H ∧ Qd H) ∨ ((RZ.ItzT K a b).go i H ∧ ∃ Nx : Hp → Prop, (∀ H', Nx H' → ∃ m', m' < m ∧ W (i + 1) m' H') ∧ ∀ x H', (RZ.ItzT K a b).yld i H x H' → g x (wipe σ vs) H' fun σ2 H2 => wipe σ2 vs = wipe σ vs ∧ tt σ2 H2 fun k H3 =>
        if k = true then te σ2 H3 fun y H4 => ∃ acc, H4 D = some (.lst acc) ∧ acc.length < sizeLine ∧ Nx (upd H4 D (.lst (acc ++ [y]))) else Nx H3) := by
  refine ⟨fun i m H => m = n - i ∧ i ≤ n ∧ Pv i H, ⟨n, rfl, Nat.zero_le _, h0⟩, ?_⟩
  rintro i m H ⟨rfl, hi, p⟩
  obtain ⟨q1, q2⟩ := hl i H p
  by_cases hlt : i < n
  · have hx : xs[i]? = some xs[i] := List.getElem?_eq_getElem (by omega)
    have hy : ys[i]? = some ys[i] := List.getElem?_eq_getElem (by omega)
    refine .inr ⟨⟨xs, ys, _, _, q1, q2, hx, hy⟩, Pv (i + 1), fun H' p' => ⟨n - (i + 1), by omega, rfl, hlt, p'⟩, fun v H' y => ?_⟩
    obtain ⟨T, x', z', rfl, hT, rfl, f1, f2⟩ := y
    exact hs i x' z' T H (f1 xs q1) (f2 ys q2) p hT
  · have e : i = n := by omega
    subst e
    exact .inl ⟨⟨xs, ys, q1, q2, by omega⟩, hd H p⟩
end
end RH
set_option Elab.async false
set_option linter.all false
set_option maxRecDepth 100000
set_option maxHeartbeats 2000000
namespace RH
open PySem PySem.Spec PyProof.Rows L2
/-! ### the checks -/
section
variable {P : Program} {w : World} {K : PySem.W.Frag} {mg : Str → Option Value} {base : Heap}
/-- an int alone: its kind -/
def spIsInteger : Sp := fun vs H Q _ => ∃ i : Int, vs = [.int i] ∧ Q (.bl true) H
theorem ok_is_integer (F : Df K mg "is_integer" st_is_integer ["value"]) (B : Bu mg) : Cal P w K mg base 1 "is_integer" spIsInteger := by
  refine mkCal F sc_is_integer (fun vs H Q E h => ?_) (fun f cdv A outer s H vs Q E hr h => ?_)
  · obtain ⟨i, rfl, _⟩ := h
    rfl
  · obtain ⟨i, rfl, q⟩ := h
    refine ⟨_, pss_one (ps_ret (pe_and (pe_callB call_isi (by rfl) B.isi (by decide +kernel) (pa_cons (pv 0) (pa_cons (pe_bltn (v := .ty "int") (by rfl) B.int (by decide +kernel) rfl) pa_nil)))
      (pe_one (pe_not (pe_callB call_isi (by rfl) B.isi (by decide +kernel) (pa_cons (pv 0) (pa_cons (pe_bltn (v := .ty "bool") (by rfl) B.bool (by decide +kernel) rfl) pa_nil))))))), ?_⟩
    exact ⟨_, rfl, .int i, .ty "int", _, _, true, rfl, .ty "int", .base (.int i), kit_ty (by decide +kernel), true, rfl,
      _, rfl, .int i, .ty "bool", _, _, false, rfl, .ty "bool", .base (.int i), kit_ty (by decide +kernel), false, rfl, q⟩
def spIsNumber : Sp := fun vs H Q _ => ∃ i lo hi : Int, vs = [.int i, .int lo, .int hi] ∧ Q (.bl (decide (lo ≤ i) && decide (i ≤ hi))) H
theorem ok_is_number (F : Df K mg "is_number" st_is_number ["value", "low", "high"]) (C1 : Cal P w K mg base 1 "is_integer" spIsInteger) : Cal P w K mg base 2 "is_number" spIsNumber := by
  refine mkCal F sc_is_number (fun vs H Q E h => ?_) (fun f cdv A outer s H vs Q E hr h => ?_)
  · obtain ⟨i, lo, hi, rfl, _⟩ := h
    rfl
  · obtain ⟨i, lo, hi, rfl, q⟩ := h
    refine ⟨_, pss_one (ps_ret (pe_and (pc C1 hr (pa_cons (pv 0) pa_nil)) (pe_one (pe_chain op_le op_le (pv 1) (pv 0) (pv 2))))), ?_⟩
    refine ⟨_, rfl, i, rfl, true, rfl, _, rfl, _, rfl, lo, i, rfl, rfl, _, rfl, ite2 (fun e => ?_) (fun e => ?_)⟩
    · refine ⟨_, rfl, i, hi, rfl, rfl, ?_⟩
      rw [e, Bool.true_and] at q
      exact q
    · have e' : decide (lo ≤ i) = false := by simpa using e
      rw [e', Bool.false_and] at q
      exact q
end
end RH
set_option Elab.async false
set_option linter.all false
set_option maxRecDepth 100000
set_option maxHeartbeats 2000000
namespace RH
open PySem PySem.Spec PyProof.Rows L2
section
variable {P : Program} {w : World} {K : PySem.W.Frag} {mg : Str → Option Value} {base : Heap}
def spIsRow (K : PySem.W.Frag) : Sp := fun vs H Q _ => ∃ (a : Addr) (xs : List V) (lo hi : Int), vs = [.ref a, .int lo, .int hi] ∧ SqT K H a xs ∧ Q (.bl (decide (lo ≤ (xs.length : Int)) && decide ((xs.length : Int) ≤ hi))) H
theorem ok_is_row (F : Df K mg "is_row" st_is_row ["value", "low", "high"]) (B : Bu mg) : Cal P w K mg base 1 "is_row" (spIsRow K) := by
  refine mkCal F sc_is_row (fun vs H Q E h => ?_) (fun f cdv A outer s H vs Q E hr h => ?_)
  · obtain ⟨a, xs, lo, hi, rfl, _⟩ := h
    rfl
  · obtain ⟨a, xs, lo, hi, rfl, hS, q⟩ := h
    refine ⟨_, pss_one (ps_ret (pe_and (pe_callB call_isi (by rfl) B.isi (by decide +kernel) (pa_cons (pv 0) (pa_cons (pe_bltn (v := .ty "tuple") (by rfl) B.tuple (by decide +kernel) rfl) pa_nil)))
      (pe_one (pe_chain op_le op_le (pv 1) (pe_callB call_len_seq (by rfl) B.len PySem.boot_len (pa_cons (pv 0) pa_nil)) (pv 2))))), ?_⟩
    refine ⟨_, rfl, .ref a, .ty "tuple", _, _, true, rfl, .ty "tuple", ty_tup hS, kit_ty (by decide +kernel), true, rfl, _, rfl, _, rfl, a, xs, rfl, .inr hS, lo, (xs.length : Int), rfl, rfl, _, rfl, ite2 (fun e => ?_) (fun e => ?_)⟩
    · refine ⟨_, rfl, _, hi, rfl, rfl, ?_⟩
      rw [e, Bool.true_and] at q
      exact q
    · have e' : decide (lo ≤ (xs.length : Int)) = false := by simpa using e
      rw [e', Bool.false_and] at q
      exact q
def spIsPlace : Sp := fun vs H Q _ => ∃ i p : Int, vs = [.int i, .int p] ∧ Q (.bl (decide (0 ≤ i) && decide (i ≤ p - 1))) H
theorem ok_is_place (F : Df K mg "is_place" st_is_place ["value", "places"]) (C2 : Cal P w K mg base 2 "is_number" spIsNumber) : Cal P w K mg base 3 "is_place" spIsPlace := by
  refine mkCal F sc_is_place (fun vs H Q E h => ?_) (fun f cdv A outer s H vs Q E hr h => ?_)
  · obtain ⟨i, p, rfl, _⟩ := h
    rfl
  · obtain ⟨i, p, rfl, q⟩ := h
    refine ⟨_, pss_one (ps_ret (pc C2 hr (pa_cons (pv 0) (pa_cons pe_int (pa_cons (pe_op op_sub (pv 1) pe_int) pa_nil))))), ?_⟩
    exact ⟨_, rfl, _, rfl, p, 1, rfl, rfl, i, 0, p - 1, rfl, q⟩
/-- all are places -/
def inP (p : Int) (ns : List Int) : Bool := ns.all fun i => decide (0 ≤ i) && decide (i ≤ p - 1)
def spArePlaces (K : PySem.W.Frag) : Sp := fun vs H Q _ => ∃ (v : V) (ns : List Int) (p : Int), vs = [v, .int p] ∧ TI K H v ns ∧ ns.length ≤ 1000 ∧ ∀ H', Same H H' → Q (.bl (inP p ns)) H'
theorem ok_are_places (F : Df K mg "are_places" st_are_places ["value", "places"]) (B : Bu mg) (C3 : Cal P w K mg base 3 "is_place" spIsPlace) : Cal P w K mg base 4 "are_places" (spArePlaces K) := by
  refine mkCal F sc_are_places (fun vs H Q E h => ?_) (fun f cdv A outer s H vs Q E hr h => ?_)
  · obtain ⟨v, ns, p, rfl, _⟩ := h
    rfl
  · obtain ⟨v, ns, p, rfl, ⟨a, rfl, hS⟩, hlen, q⟩ := h
    refine ⟨_, pss_one (ps_ret (pe_and (pe_callB call_isi (by rfl) B.isi (by decide +kernel) (pa_cons (pv 0) (pa_cons (pe_bltn (v := .ty "tuple") (by rfl) B.tuple (by decide +kernel) rfl) pa_nil)))
      (pe_one (pe_callB (cr_all rfl) (by rfl) B.all (by decide +kernel) (pa_cons (pe_lc (own := [("place", 2)]) (g := gName 2) (tt := tYes) rfl sc_are_places.nd (pi_tup (pv 0)) (blkOk_by (N := ["value", "places", "place"]) (sc := defScope st_are_places) (by decide +kernel))
        (fun _ _ _ _ _ => pg_name (i := 2) sc_are_places.nd rfl (Or.inl rfl)) (fun _ _ _ _ _ => pts_nil) (fun _ _ _ _ _ => pc C3 hr (pa_cons (pv 2) (pa_cons (pv 1) pa_nil)))) pa_nil))))), ?_⟩
    refine ⟨_, rfl, .ref a, .ty "tuple", _, _, true, rfl, .ty "tuple", ty_tup hS, kit_ty (by decide +kernel), true, rfl, ?_⟩
    refine ⟨_, rfl, a, rfl, ⟨_, hS⟩, fun D hD => ?_⟩
    refine lc_tup (xs := ns.map V.int) (fun i H' => Same H H' ∧ H' D = some (.lst (((ns.take i).map fun i => decide (0 ≤ i) && decide (i ≤ p - 1)).map V.bl))) ⟨same_new hD, upd_same⟩ (fun i H' _ h' => onT h'.1 hS) (fun i x H' hx h' => ?_) (fun H' h' => ?_)
    · obtain ⟨n, hn, rfl⟩ := map_at hx
      obtain ⟨sm, eD⟩ := h'
      refine ⟨rfl, _, rfl, _, rfl, n, p, rfl, _, eD, ?_, ?_, ?_⟩
      · rw [List.length_map, List.length_map, List.length_take]
        exact small1000 (by omega)
      · intro b o e
        rw [upd_ne (ne_of_none e hD)]
        exact sm b o e
      · rw [upd_same, all_snoc _ hn, List.map_append]
        rfl
    · obtain ⟨sm, eD⟩ := h'
      rw [List.length_map, List.take_length] at eD
      refine ⟨D, _, rfl, lstAt eD, ?_⟩
      have e : ((ns.map fun i => decide (0 ≤ i) && decide (i ≤ p - 1)).all id) = inP p ns := by
        unfold inP
        rw [List.all_map]
        rfl
      rw [e]
      exact q H' sm
end
end RH
set_option Elab.async false
set_option linter.all false
set_option maxRecDepth 100000
set_option maxHeartbeats 2000000
namespace RH
open PySem PySem.Spec PyProof.Rows L2
/-! ### slices and constants -/
theorem cut_from (xs : List V) (k : Nat) : cutV xs (some (k : Int)) none = xs.drop k := by
  unfold cutV
  rw [HT.sIx_nat, HT.sIx_none]
  rcases Nat.le_total k xs.length with h | h
  · rw [Nat.min_eq_left h]
    exact List.take_of_length_le (by rw [List.length_drop]; exact Nat.le_refl _)
  · rw [Nat.min_eq_right h, Nat.sub_self, List.take_zero, List.drop_eq_nil_of_le h]
theorem cut_to (xs : List V) (k : Nat) : cutV xs none (some (k : Int)) = xs.take k := by
  unfold cutV
  rw [HT.sIx_nat, HT.sIx_none, List.drop_zero, Nat.sub_zero]
  rcases Nat.le_total k xs.length with h | h
  · rw [Nat.min_eq_left h]
  · rw [Nat.min_eq_right h, List.take_length, List.take_of_length_le h]
/-- t[k:], k written -/
theorem slT_from {K : PySem.W.Frag} {H : Hp} {a : Addr} {xs : List V} {Q : VK} (z : Int) (k : Nat) (hz : z = (k : Int)) (h : SqT K H a xs) (q : ∀ b H2, Same H H2 → SqT K H2 b (xs.drop k) → Q (.ref b) H2) : rSlA K (.ref a) (some z) none H Q := by
  subst hz
  refine ⟨a, xs, rfl, h, fun hf => q a H (Same.refl H) ?_, fun _ p hp => q p _ (same_new hp) (tupAt (by rw [upd_same, cut_from]))⟩
  have e := hf.1
  rw [HT.sIx_nat] at e
  rcases Nat.le_total k xs.length with h' | h'
  · rw [Nat.min_eq_left h'] at e
    rw [e, List.drop_zero]
    exact h
  · rw [Nat.min_eq_right h'] at e
    have e2 : xs = [] := List.eq_nil_of_length_eq_zero e
    subst e2
    rw [List.drop_nil]
    exact h
/-- a number that the module keeps -/
theorem pk {X : Cx} {x : Str} {i : Int} {pos : Pos} (h : ∃ t, X.mg x = some (.int i t)) (hg : Gl X x := by rfl) (hn : x ≠ "__name__" := by decide) (hd : (x == ("__debug__" : Str)) = false := by decide) : PE X (.Name x pos) (tC (.int i)) := by
  obtain ⟨t, h⟩ := h
  exact pe_glob (v := .int i) hg h ⟨_, rfl⟩ hd
/-! ### rules within a comprehension: the written part is told -/
def rLenK (K : PySem.W.Frag) : List V → Hp → VK → Prop := fun xs H Q => ∃ p ys, xs = [.ref p] ∧ (SqL K H p ys ∨ SqT K H p ys) ∧ Q (.int ys.length) H
theorem cl_len {X : Cx} (K : PySem.W.Frag) (h : X.K = K := by rfl) : CallR X (.builtin "len") (rLenK K) := by
  subst h
  exact call_len_seq
theorem ixT {X : Cx} (K : PySem.W.Frag) (h : X.K = K := by rfl) : IxR X (rIxT K) := by
  subst h
  exact ix_tup
theorem opIn {X : Cx} (K : PySem.W.Frag) (h : X.K = K := by rfl) : OpR X (compareOp .In) (rIn K false) := by
  subst h
  exact op_in_seq
/-! ### rising, a layout, a habit -/
def risI (ns : List Int) : Bool := (ns.zip (ns.drop 1)).all fun p => decide (p.1 < p.2)
theorem risI_of : ∀ {ns : List Int}, ns.Pairwise (· < ·) → risI ns = true
  | [], _ => rfl
  | [_], _ => rfl
  | x :: y :: r, h => by
    have h1 := List.rel_of_pairwise_cons h (List.mem_cons_self ..)
    have h2 := risI_of (ns := y :: r) (List.Pairwise.of_cons h)
    show (decide (x < y) && risI (y :: r)) = true
    rw [h2, Bool.and_true]
    exact decide_eq_true h1
def isLay (p : Nat) (ns : List Int) : Bool := ns.isPerm (rg p)
def isHab (nss : List (List Int)) : Bool := decide (2 ≤ nss.length) && decide (nss.length ≤ 5) && nss.all (isLay nss.length)
theorem inP_of {p : Nat} {ns : List Int} (h : ns.Perm (rg p)) : inP p ns = true := by
  unfold inP
  rw [List.all_eq_true]
  intro i hi
  have := rg_mem.mp (h.mem_iff.mp hi)
  rw [Bool.and_eq_true]
  exact ⟨decide_eq_true (by omega), decide_eq_true (by omega)⟩
theorem rg_le (p : Nat) : (rg p).Pairwise (· ≤ ·) := by
  unfold rg
  rw [List.pairwise_map]
  exact (List.pairwise_lt_range (n := p)).imp fun h => by omega
section
variable {P : Program} {w : World} {K : PySem.W.Frag} {mg : Str → Option Value} {base : Heap}
def spIsRising (K : PySem.W.Frag) : Sp := fun vs H Q _ => ∃ (v : V) (ns : List Int), vs = [v] ∧ TI K H v ns ∧ ns.length ≤ 1000 ∧ ∀ H', Same H H' → Q (.bl (risI ns)) H'
theorem ok_is_rising (F : Df K mg "is_rising" st_is_rising ["row"]) (B : Bu mg) : Cal P w K mg base 1 "is_rising" (spIsRising K) := by
  refine mkCal F sc_is_rising (fun vs H Q E h => ?_) (fun f cdv A outer s H vs Q E hr h => ?_)
  · obtain ⟨v, ns, rfl, _⟩ := h
    rfl
  · obtain ⟨v, ns, rfl, ⟨a, rfl, hS⟩, hlen, q⟩ := h
    refine ⟨_, pss_one (ps_ret (pe_callB (cr_all rfl) (by rfl) B.all (by decide +kernel) (pa_cons (pe_lc (own := [("one", 1), ("other", 2)]) (g := gTup K 2 (gCons (gName 1) (gCons (gName 2) gNil))) (tt := tYes) rfl sc_is_rising.nd
        (RZ.pi_zipA (by rfl) B.zip (pa_cons (pv 0) (pa_cons (pe_slice sl_tupA (pv 0) (po_some pe_int) po_none) pa_nil))) (blkOk_by (N := ["row", "one", "other"]) (sc := defScope st_is_rising) (by decide +kernel))
        (fun _ _ _ _ _ => pg_tup rfl (pgs_cons (pg_name (i := 1) sc_is_rising.nd rfl (Or.inl rfl)) (pgs_cons (pg_name (i := 2) sc_is_rising.nd rfl (Or.inl rfl)) pgs_nil))) (fun _ _ _ _ _ => pts_nil)
        (fun _ _ _ _ _ => pe_cmpR op_lt (pv 1) (pv 2) (nomark _))) pa_nil))), ?_⟩
    refine ⟨_, rfl, _, rfl, 1, rfl, ?_⟩
    unfold tNoPart
    dsimp only
    refine slT_from 1 1 rfl hS fun b H2 sm2 hb => ?_
    rw [← List.map_drop] at hb
    refine ⟨a, b, _, _, rfl, .inr ⟨onT sm2 hS, hb, fun D hD => ?_⟩⟩
    refine lc_zipT (xs := ns.map V.int) (ys := (ns.drop 1).map V.int) (ns.zip (ns.drop 1)).length (by rw [List.length_zip, List.length_map, List.length_map])
      (fun i H' => Same H2 H' ∧ H' D = some (.lst ((((ns.zip (ns.drop 1)).take i).map fun p => decide (p.1 < p.2)).map V.bl))) ⟨same_new hD, upd_same⟩ (fun i H' h' => ⟨onT h'.1 (onT sm2 hS), onT h'.1 hb⟩) (fun i x z T H' hx hz h' hT => ?_) (fun H' h' => ?_)
    · obtain ⟨m, hm, rfl⟩ := map_at hx
      obtain ⟨n, hn, rfl⟩ := map_at hz
      obtain ⟨sm, eD⟩ := h'
      have eDT : (upd H' T (.tup [.int m, .int n])) D = H' D := upd_ne (ne_of_none eD hT)
      refine ⟨T, _, rfl, tupAt upd_same, rfl, _, _, rfl, _, _, rfl, rfl, rfl, _, rfl, _, rfl, m, n, rfl, rfl, _, eDT.trans eD, ?_, ?_, ?_⟩
      · rw [List.length_map, List.length_map, List.length_take, List.length_zip]
        exact small1000 (by omega)
      · intro b' o e
        rw [upd_ne (ne_of_none e hD)]
        exact same_new hT b' o (sm b' o e)
      · have hz : (ns.zip (ns.drop 1))[i]? = some (m, n) := by
          rw [List.getElem?_zip_eq_some]
          exact ⟨hm, hn⟩
        rw [upd_same, all_snoc _ hz, List.map_append]
        rfl
    · obtain ⟨sm, eD⟩ := h'
      rw [List.take_length] at eD
      refine ⟨D, _, rfl, lstAt eD, ?_⟩
      have e : (((ns.zip (ns.drop 1)).map fun p => decide (p.1 < p.2)).all id) = risI ns := by
        unfold risI
        rw [List.all_map]
        rfl
      rw [e]
      exact q H' (sm2.trans sm)
def spIsLayout (K : PySem.W.Frag) : Sp := fun vs H Q _ => ∃ (v : V) (ns : List Int) (p : Nat), vs = [v, .int p] ∧ TI K H v ns ∧ ns.length < 64 ∧ p ≤ 1000 ∧ ∀ H', Same H H' → Q (.bl (isLay p ns)) H'
theorem ok_is_layout (F : Df K mg "is_layout" st_is_layout ["value", "places"]) (B : Bu mg) (C4 : Cal P w K mg base 4 "are_places" (spArePlaces K)) : Cal P w K mg base 5 "is_layout" (spIsLayout K) := by
  refine mkCal F sc_is_layout (fun vs H Q E h => ?_) (fun f cdv A outer s H vs Q E hr h => ?_)
  · obtain ⟨v, ns, p, rfl, _⟩ := h
    rfl
  · obtain ⟨v, ns, p, rfl, ⟨a, rfl, hS⟩, hlen, hp, q⟩ := h
    refine ⟨_, pss_one (ps_ret (pe_and (pc C4 hr (pa_cons (pv 0) (pa_cons (pv 1) pa_nil)))
      (pe_one (pe_cmpR (op_eqD hr.units) (pe_callB cr_sortedTup (by rfl) B.sorted (by decide +kernel) (pa_cons (pv 0) pa_nil)) (pe_listRg rfl (by rfl) B.list (prg_1 (by rfl) B.range (pv 1))) (nomark _))))), ?_⟩
    refine ⟨_, rfl, _, rfl, .ref a, ns, p, rfl, ⟨a, rfl, hS⟩, by omega, fun H1 sm1 => ⟨_, rfl, ite2 (fun e => ?_) (fun e => ?_)⟩⟩
    · refine ⟨_, rfl, a, ns, rfl, onT sm1 hS, hlen, fun ns' pL hpm hpw nL => ⟨_, rfl, (p : Int), rfl, ⟨by omega, by omega, by omega, by omega, by omega⟩, fun q' nq => ?_⟩⟩
      have nqp : pL ≠ q' := ne_of_none upd_same nq
      refine ⟨_, _, dp_lst (ns := ns') (lstAt ?_), dp_lst (ns := rg p) (lstAt ?_), PySem.W.ke_shaped_ints _, PySem.W.ke_shaped_ints _, ?_⟩
      · rw [upd_ne nqp, upd_same]
      · rw [upd_same, rgV_rg]
      · have e2 : PyData.eqv (.list (ns'.map PyData.int)) (.list ((rg p).map PyData.int)) = isLay p ns := by
          rw [eqv_lst, Bool.eq_iff_iff, decide_eq_true_iff]
          unfold isLay
          rw [List.isPerm_iff]
          constructor
          · intro z
            rw [← z]
            exact hpm.symm
          · intro z
            exact PySem.W.ksm_same (hpm.trans z) hpw (rg_le p)
        rw [e2]
        exact q _ (sm1.trans ((same_new nL).trans (same_new nq)))
    · have e2 : isLay p ns = false := by
        cases z : isLay p ns with
        | false => rfl
        | true => exact absurd (inP_of (List.isPerm_iff.mp z)) e
      have e3 : inP (p : Int) ns = false := by simpa using e
      rw [e2] at q
      exact q _ sm1
def spIsHabit (K : PySem.W.Frag) : Sp := fun vs H Q _ => ∃ (v : V) (nss : List (List Int)), vs = [v] ∧ TII K H v nss ∧ nss.length ≤ 1000 ∧ (∀ ns ∈ nss, ns.length < 64) ∧ ∀ H', Same H H' → Q (.bl (isHab nss)) H'
theorem ok_is_habit (F : Df K mg "is_habit" st_is_habit ["value"]) (B : Bu mg) (c2 : ∃ t, mg "FEWEST_PLACES" = some (.int 2 t)) (c5 : ∃ t, mg "MOST_PLACES" = some (.int 5 t))
    (C1 : Cal P w K mg base 1 "is_row" (spIsRow K)) (C5 : Cal P w K mg base 5 "is_layout" (spIsLayout K)) : Cal P w K mg base 6 "is_habit" (spIsHabit K) := by
  refine mkCal F sc_is_habit (fun vs H Q E h => ?_) (fun f cdv A outer s H vs Q E hr h => ?_)
  · obtain ⟨v, nss, rfl, _⟩ := h
    rfl
  · obtain ⟨v, nss, rfl, ⟨a, xs, rfl, hS, hE⟩, hlen, h64, q⟩ := h
    have hxl : xs.length = nss.length := hE.len
    refine ⟨_, pss_one (ps_ret (pe_and (pc C1 hr (pa_cons (pv 0) (pa_cons (pk c2) (pa_cons (pk c5) pa_nil))))
      (pe_one (pe_callB (cr_all rfl) (by rfl) B.all (by decide +kernel) (pa_cons (pe_lc (own := [("moves", 1)]) (g := gName 1) (tt := tYes) rfl sc_is_habit.nd (pi_tup (pv 0)) (blkOk_by (N := ["value", "moves"]) (sc := defScope st_is_habit) (by decide +kernel))
        (fun _ _ _ _ _ => pg_name (i := 1) sc_is_habit.nd rfl (Or.inl rfl)) (fun _ _ _ _ _ => pts_nil) (fun _ _ _ _ _ => pc C5 hr (pa_cons (pv 1) (pa_cons (pe_callB (cl_len K) (by rfl) B.len PySem.boot_len (pa_cons (pv 0) pa_nil)) pa_nil)))) pa_nil))))), ?_⟩
    refine ⟨_, rfl, a, xs, 2, 5, rfl, hS, _, rfl, ite2 (fun e => ?_) (fun e => ?_)⟩
    · refine ⟨_, rfl, a, rfl, ⟨_, hS⟩, fun D hD => ?_⟩
      refine lc_tup (xs := xs) (fun i H' => Same H H' ∧ H' D = some (.lst (((nss.take i).map (isLay nss.length)).map V.bl))) ⟨same_new hD, upd_same⟩ (fun i H' _ h' => onT h'.1 hS) (fun i x H' hx h' => ?_) (fun H' h' => ?_)
      · obtain ⟨sm, eD⟩ := h'
        obtain ⟨ns, hn, hT⟩ := hE.at hx
        refine ⟨rfl, x, rfl, _, rfl, a, xs, rfl, .inr (onT sm hS), x, ns, nss.length, congrArg (fun m : Nat => [x, V.int m]) hxl, hT.on (fun _ _ z => onT sm z), h64 _ (List.mem_of_getElem? hn), hlen, fun H3 sm3 => ⟨_, sm3 _ _ eD, ?_, ?_, ?_⟩⟩
        · rw [List.length_map, List.length_map, List.length_take]
          exact small1000 (by omega)
        · intro b' o e'
          rw [upd_ne (ne_of_none e' hD)]
          exact sm3 b' o (sm b' o e')
        · rw [upd_same, all_snoc _ hn, List.map_append]
          rfl
      · obtain ⟨sm, eD⟩ := h'
        rw [hxl, List.take_length] at eD
        refine ⟨D, _, rfl, lstAt eD, ?_⟩
        have e2 : ((nss.map (isLay nss.length)).all id) = isHab nss := by
          unfold isHab
          rw [List.all_map, Bool.eq_iff_iff]
          rw [hxl] at e
          simp only [Bool.and_eq_true, decide_eq_true_eq] at e ⊢
          constructor
          · intro z
            exact ⟨⟨by omega, by omega⟩, z⟩
          · intro z
            exact z.2
        rw [e2]
        exact q H' sm
    · have e2 : isHab nss = false := by
        cases z : isHab nss with
        | false => rfl
        | true =>
          exfalso
          apply e
          unfold isHab at z
          rw [hxl]
          simp only [Bool.and_eq_true, decide_eq_true_eq] at z ⊢
          omega
      rw [e2] at q
      have e3 : (decide ((2 : Int) ≤ (xs.length : Int)) && decide ((xs.length : Int) ≤ 5)) = false := by simpa using e
      exact q _ (Same.refl H)
end
end RH
set_option Elab.async false
set_option linter.all false
set_option maxRecDepth 100000
set_option maxHeartbeats 2000000
namespace RH
open PySem PySem.Spec PyProof.Rows L2
/-! ### the mathematics of marks -/
theorem ifT {c : Bool} {A B : Prop} (hc : c = true) (h : A) : if c = true then A else B := by
  rw [if_pos hc]
  exact h
theorem ifF {c : Bool} {A B : Prop} (hc : c = false) (h : B) : if c = true then A else B := by
  rw [hc, if_neg Bool.false_ne_true]
  exact h
theorem inV_int (i : Int) : ∀ ns : List Int, inV (.int i) (ns.map V.int) = decide (i ∈ ns)
  | [] => rfl
  | n :: ns => by
    have ih := inV_int i ns
    unfold inV at ih ⊢
    rw [List.map_cons, List.any_cons, ih]
    show (n == i || decide (i ∈ ns)) = _
    rw [Bool.eq_iff_iff]
    simp only [Bool.or_eq_true, beq_iff_eq, decide_eq_true_eq, List.mem_cons]
    constructor
    · rintro (h | h)
      · exact .inl h.symm
      · exact .inr h
    · rintro (h | h)
      · exact .inl h.symm
      · exact .inr h
theorem flat_ints : ∀ ns : List Int, (ns.map V.int).all flatV = true
  | [] => rfl
  | n :: ns => by
    rw [List.map_cons, List.all_cons, flat_ints ns]
    rfl
/-- a habit of n places -/
structure Hb (n : Nat) (h : List (List Int)) : Prop where
  len : h.length = n
  perm : ∀ ns ∈ h, ns.Perm (rg n)
  lo : 2 ≤ n
  hi : n ≤ 5
theorem Hb.is {n : Nat} {h : List (List Int)} (q : Hb n h) : isHab h = true := by
  unfold isHab
  simp only [Bool.and_eq_true, decide_eq_true_eq, List.all_eq_true]
  refine ⟨⟨by have := q.len; have := q.lo; omega, by have := q.len; have := q.hi; omega⟩, fun ns hm => ?_⟩
  unfold isLay
  rw [q.len, List.isPerm_iff]
  exact q.perm ns hm
theorem Hb.short {n : Nat} {h : List (List Int)} (q : Hb n h) {ns : List Int} (hm : ns ∈ h) : ns.length = n := by
  rw [(q.perm ns hm).length_eq, rg_len]
def mv (h : List (List Int)) (t s : Int) : Int := (h.getD t.toNat []).getD s.toNat 0
theorem Hb.at {n : Nat} {h : List (List Int)} (q : Hb n h) {t s : Int} (t0 : 0 ≤ t) (t1 : t < n) (s0 : 0 ≤ s) (s1 : s < n) :
    ∃ ns, h[t.toNat]? = some ns ∧ ns[s.toNat]? = some (mv h t s) ∧ 0 ≤ mv h t s ∧ mv h t s < n := by
  have h1 : t.toNat < h.length := by rw [q.len]; omega
  have e1 : h[t.toNat]? = some h[t.toNat] := List.getElem?_eq_getElem h1
  have hm : h[t.toNat] ∈ h := List.getElem_mem h1
  have h2 : s.toNat < h[t.toNat].length := by rw [q.short hm]; omega
  have e2 : h[t.toNat][s.toNat]? = some h[t.toNat][s.toNat] := List.getElem?_eq_getElem h2
  have e4 : h.getD t.toNat [] = h[t.toNat] := by
    rw [List.getD_eq_getElem?_getD, e1]
    rfl
  have e3 : mv h t s = h[t.toNat][s.toNat] := by
    unfold mv
    rw [e4, List.getD_eq_getElem?_getD, e2]
    rfl
  have h4 := rg_mem.mp ((q.perm _ hm).mem_iff.mp (List.getElem_mem h2))
  rw [← e3] at h4
  exact ⟨_, e1, by rw [e3]; exact e2, h4⟩
/-- where a mark stands behind its own touch and a word -/
def mark (h : List (List Int)) (pl : Int) (ws : List Int) : Int := ws.foldl (fun s t => mv h t s) (mv h pl pl)
def InR (n : Nat) (i : Int) : Prop := 0 ≤ i ∧ i < n
theorem Hb.mark {n : Nat} {h : List (List Int)} (q : Hb n h) {pl : Int} (hp : InR n pl) : ∀ ws : List Int, (∀ t ∈ ws, InR n t) → InR n (mark h pl ws) := by
  intro ws hw
  unfold RH.mark
  have h0 : InR n (mv h pl pl) := (q.at hp.1 hp.2 hp.1 hp.2).choose_spec.2.2
  generalize mv h pl pl = s at h0
  induction ws generalizing s with
  | nil => exact h0
  | cons t ws ih =>
    have ht := hw t (List.mem_cons_self ..)
    exact ih (fun u hu => hw u (List.mem_cons_of_mem _ hu)) _ (q.at ht.1 ht.2 h0.1 h0.2).choose_spec.2.2
theorem mark_snoc (h : List (List Int)) (pl : Int) (ws : List Int) (t : Int) : mark h pl (ws ++ [t]) = mv h t (mark h pl ws) := by
  unfold mark
  rw [List.foldl_append]
  rfl
theorem take_more {α : Type} {l : List α} {i : Nat} {x : α} (h : l[i]? = some x) : l.take (i + 1) = l.take i ++ [x] := by
  rw [List.take_add_one, h]
  rfl
/-- an item of an int's place -/
theorem at_int {α : Type} {xs : List α} {z : Int} {v : α} (h0 : 0 ≤ z) (h : xs[z.toNat]? = some v) : atI xs z = some v := by
  have e : z = ((z.toNat : Nat) : Int) := by omega
  rw [e]
  exact atI_nat h
/-- a def with defaults, of which none is written where it is called -/
structure DfD (K : PySem.W.Frag) (mg : Str → Option Value) (x : Str) (st : Stmt) (ps : List Str) (dvs : List V) : Prop where
  ex : ∃ (f : Addr) (fd : FuncData), FunD K x x (defArgs st) (defBody st) (defScope st) dvs [] f fd ∧ mg x = some (.ref f) ∧ ∃ ds, Vals dvs ds ∧ Binds K fd ps ds
structure CalD (P : Program) (w : World) (K : PySem.W.Frag) (mg : Str → Option Value) (base : Heap) (k : Nat) (x : Str) (dvs : List V) (sp : Sp) : Prop where
  ex : ∃ (f : Addr) (fd : FuncData) (ps : List Str) (ds : List Value), FnOk P w K mg base CX0 k f fd ps sp ∧ mg x = some (.ref f) ∧ PySem.W.keepIn K (.ref f) = true ∧ Vals dvs ds ∧ Binds K fd ps ds
theorem mkCalD {P : Program} {w : World} {K : PySem.W.Frag} {mg : Str → Option Value} {base : Heap} {x : Str} {st : Stmt} {N ps : List Str} {dvs : List V} {k : Nat} {sp : Sp} (F : DfD K mg x st ps dvs) (S : FnScope N ps (defScope st)) (len : ∀ vs H Q E, sp vs H Q E → vs.length = ps.length)
    (hbody : ∀ (f : Addr) (cdv : Value) (A : Around) (outer : List Env) (s : Shared) (H : Hp) (vs : List V) (Q : VK) (E : XK), Room k (A.deeper (envOfC x (defScope st) s.heap.objs.size f cdv)) → sp vs H Q E →
      ∃ t, PSs (cxOf CX0 P w K mg base N x (defScope st) f cdv A outer s H E).nox (defBody st) t ∧ t { nx := fun _ H' => Q .non H', rt := Q } (start N vs) H) : CalD P w K mg base (k + 1) x dvs sp := by
  obtain ⟨f, fd, F, g, ds, hv, b⟩ := F.ex
  exact ⟨f, fd, ps, ds, F.ok S len (fun cdv A outer s H vs Q E hr hsp => by
    obtain ⟨t, h, q⟩ := hbody f cdv A outer s H vs Q E hr hsp
    exact ⟨t, h.nox, q⟩), g, F.kp, hv, b⟩
theorem pcD {X : Cx} {k j : Nat} {x : Str} {sp : Sp} {dvs : List V} {p pos : Pos} {e : Expr} {es : List Expr} {t : TA} (c : CalD X.prog X.w X.K X.mg X.base k x dvs sp) (hr : Room j X.A) (ha : PA X (e :: es) t) (hk : k ≤ j := by decide) (hg : Gl X x := by rfl)
    (hdb : (x == ("__debug__" : Str)) = false := by decide) (he : starEach (e :: es) X.env = (false, eval e X.env) :: starEach es X.env := by rfl) (hpl : (backTo pos (starEach es X.env)).any (·.1) = false := by rfl) :
    PE X (.Call (.Name x p) (e :: es) [] pos) (tCall sp dvs E0 t) := by
  obtain ⟨f, fd, ps, ds, F, hm, kp, hv, b⟩ := c.ex
  exact pe_call F (hr.mono hk) hg hm kp b hv pass0 ha hdb he hpl
section
variable {P : Program} {w : World} {K : PySem.W.Frag} {mg : Str → Option Value} {base : Heap}
def spCheckHabits (K : PySem.W.Frag) : Sp := fun vs H Q _ => ∃ (v : V) (hs : List (List (List Int))) (n : Nat) (m : Int), vs = [v, .int m] ∧ THs K H v hs ∧ 1 ≤ hs.length ∧ (hs.length : Int) ≤ m ∧ (∀ h ∈ hs, Hb n h) ∧ ∀ H', Same H H' → Q .non H'
theorem ok_check_habits (F : DfD K mg "check_habits" st_check_habits ["habits", "most"] [.int 3]) (B : Bu mg)
    (C1 : Cal P w K mg base 1 "is_row" (spIsRow K)) (C6 : Cal P w K mg base 6 "is_habit" (spIsHabit K)) : CalD P w K mg base 7 "check_habits" [.int 3] (spCheckHabits K) := by
  refine mkCalD F sc_check_habits (fun vs H Q E h => ?_) (fun f cdv A outer s H vs Q E hr h => ?_)
  · obtain ⟨v, hs, n, m, rfl, _⟩ := h
    rfl
  · obtain ⟨v, hs, n, m, rfl, ⟨a, xs, rfl, hS, hE⟩, l1, l3, hb, q⟩ := h
    have hxl : xs.length = hs.length := hE.len
    refine ⟨_, pss_cons (ps_if (pt_not (pt_val (pc C1 hr (pa_cons (pv 0) (pa_cons pe_int (pa_cons (pv 1) pa_nil)))))) (pss_one ps_no) pss_nil)
      (pss_one (ps_for PassesOwn.never rfl (pi_enumT (by rfl) B.enumerate (pa_cons (pv 0) pa_nil)) (pg_tup rfl (pgs_cons (pg_name (i := 2) sc_check_habits.nd rfl (.inl rfl)) (pgs_cons (pg_name (i := 3) sc_check_habits.nd rfl (.inl rfl)) pgs_nil)))
        (pss_one (ps_if (PW.pt (pw_or (pt_not (pt_val (pc C6 hr (pa_cons (pv 3) pa_nil)))) (pw_or1 (pt_cmpR op_ne (pe_callB (cl_len K) (by rfl) B.len PySem.boot_len (pa_cons (pv 3) pa_nil))
          (pe_callB (cl_len K) (by rfl) B.len PySem.boot_len (pa_cons (pe_ix (ixT K) (pv 0) pe_int (fun _ _ => rfl)) pa_nil)) (nomark _))))) (pss_one ps_no) pss_nil)))), ?_⟩
    refine ⟨_, rfl, _, rfl, a, xs, 1, m, rfl, hS, _, rfl, ifF ?_ ?_⟩
    · rw [hxl, decide_eq_true (by omega), decide_eq_true (by omega)]
      rfl
    refine ⟨_, rfl, a, xs, rfl, hS, ?_⟩
    refine for_enumT (xs := xs) (fun i σ H' => Same H H' ∧ ∃ y1 y2, σ = [some (.ref a), some (.int m), y1, y2]) ⟨Same.refl H, none, none, rfl⟩ (fun i σ H' h' => onT h'.1 hS) (fun i x T σ H' hx h' hT => ?_) (fun σ H' h' => q H' h'.1)
    obtain ⟨sm, y1, y2, rfl⟩ := h'
    obtain ⟨h, hh, hTx⟩ := hE.at hx
    have hbx := hb h (List.mem_of_getElem? hh)
    have sT : Same H (upd H' T (.tup [.int (i : Nat), x])) := sm.trans (same_new hT)
    have hT2 : TII K (upd H' T (.tup [.int (i : Nat), x])) x h := hTx.on (fun _ _ z => onT sT z)
    obtain ⟨x0, hx0⟩ : ∃ x0, xs[0]? = some x0 := ⟨xs[0], List.getElem?_eq_getElem (by omega)⟩
    obtain ⟨h0, hh0, hT0⟩ := hE.at hx0
    have hb0 := hb h0 (List.mem_of_getElem? hh0)
    refine ⟨T, _, rfl, tupAt upd_same, rfl, _, _, rfl, _, _, rfl, rfl, _, rfl, x, h, rfl, hT2, by rw [hbx.len]; have := hbx.hi; omega, fun ns hm => by rw [hbx.short hm]; have := hbx.hi; omega, fun H3 sm3 => ⟨_, rfl, ifF (by rw [hbx.is]; rfl) ?_⟩⟩
    have hT3 := hT2.on (fun _ _ z => onT sm3 z)
    have hT03 := hT0.on (H' := H3) (fun _ _ z => onT sm3 (onT sT z))
    obtain ⟨ax, xx, rfl, hSx, hEx⟩ := hT3
    obtain ⟨a0, xx0, rfl, hS0, hE0⟩ := hT03
    refine ⟨_, rfl, ax, xx, rfl, .inr hSx, _, rfl, a, xs, 0, .ref a0, rfl, rfl, onT sm3 (onT sT hS), atI_nat (j := 0) hx0, a0, xx0, rfl, .inr hS0, rfl, _, rfl, ifF ?_ ?_⟩
    · rw [hEx.len, hE0.len, hbx.len, hb0.len]
      simp
    · exact ⟨sT.trans sm3, _, _, rfl⟩
def spCheckLot (K : PySem.W.Frag) : Sp := fun vs H Q _ => ∃ (v : V) (ns : List Int) (p : Nat), vs = [v, .int p] ∧ TI K H v ns ∧ 1 ≤ ns.length ∧ ns.length ≤ p ∧ p ≤ 5 ∧ (∀ i ∈ ns, InR p i) ∧ ns.Pairwise (· < ·) ∧ ∀ H', Same H H' → Q .non H'
theorem inP_in {p : Nat} {ns : List Int} (h : ∀ i ∈ ns, InR p i) : inP p ns = true := by
  unfold inP
  rw [List.all_eq_true]
  intro i hi
  obtain ⟨h1, h2⟩ := h i hi
  rw [Bool.and_eq_true]
  exact ⟨decide_eq_true h1, decide_eq_true (by omega)⟩
def spIsLot (K : PySem.W.Frag) : Sp := fun vs H Q _ => ∃ (v : V) (ns : List Int) (p : Nat), vs = [v, .int p] ∧ TI K H v ns ∧ 1 ≤ ns.length ∧ ns.length ≤ p ∧ p ≤ 5 ∧ (∀ i ∈ ns, InR p i) ∧ ns.Pairwise (· < ·) ∧ ∀ H', Same H H' → Q (.bl true) H'
theorem ok_is_lot (F : Df K mg "is_lot" st_is_lot ["value", "places"]) (C1 : Cal P w K mg base 1 "is_row" (spIsRow K)) (C4 : Cal P w K mg base 4 "are_places" (spArePlaces K)) (CR : Cal P w K mg base 1 "is_rising" (spIsRising K)) :
    Cal P w K mg base 5 "is_lot" (spIsLot K) := by
  refine mkCal F sc_is_lot (fun vs H Q E h => ?_) (fun f cdv A outer s H vs Q E hr h => ?_)
  · obtain ⟨v, ns, p, rfl, _⟩ := h
    rfl
  · obtain ⟨v, ns, p, rfl, ⟨a, rfl, hS⟩, l1, l2, l5, hin, hri, q⟩ := h
    refine ⟨_, pss_one (ps_ret (pe_and (pc C1 hr (pa_cons (pv 0) (pa_cons pe_int (pa_cons (pv 1) pa_nil)))) (pe_and (pc C4 hr (pa_cons (pv 0) (pa_cons (pv 1) pa_nil))) (pe_one (pc CR hr (pa_cons (pv 0) pa_nil)))))), ?_⟩
    have e1 : (decide ((1 : Int) ≤ ((ns.map V.int).length : Int)) && decide (((ns.map V.int).length : Int) ≤ (p : Int))) = true := by
      rw [List.length_map, decide_eq_true (by omega), decide_eq_true (by omega)]
      rfl
    refine ⟨_, rfl, _, rfl, a, ns.map V.int, 1, p, rfl, hS, true, by rw [e1], ?_⟩
    refine ⟨_, rfl, _, rfl, .ref a, ns, p, rfl, ⟨a, rfl, hS⟩, by omega, fun H1 sm1 => ⟨true, by rw [inP_in hin], ?_⟩⟩
    refine ⟨_, rfl, .ref a, ns, rfl, ⟨a, rfl, onT sm1 hS⟩, by omega, fun H2 sm2 => ?_⟩
    rw [risI_of hri]
    exact q H2 (sm1.trans sm2)
theorem ok_check_lot (F : Df K mg "check_lot" st_check_lot ["lot", "places"]) (C5 : Cal P w K mg base 5 "is_lot" (spIsLot K)) : Cal P w K mg base 6 "check_lot" (spCheckLot K) := by
  refine mkCal F sc_check_lot (fun vs H Q E h => ?_) (fun f cdv A outer s H vs Q E hr h => ?_)
  · obtain ⟨v, ns, p, rfl, _⟩ := h
    rfl
  · obtain ⟨v, ns, p, rfl, hT, l1, l2, l5, hin, hri, q⟩ := h
    refine ⟨_, pss_one (ps_if (pt_not (pt_val (pc C5 hr (pa_cons (pv 0) (pa_cons (pv 1) pa_nil))))) (pss_one ps_no) pss_nil), ?_⟩
    exact ⟨_, rfl, _, rfl, v, ns, p, rfl, hT, l1, l2, l5, hin, hri, fun H1 s1 => ⟨_, rfl, ifF rfl (q H1 s1)⟩⟩
end
end RH
set_option Elab.async false
set_option linter.all false
set_option maxRecDepth 100000
set_option maxHeartbeats 2000000
namespace RH
open PySem PySem.Spec PyProof.Rows L2
theorem ix2 {K : PySem.W.Frag} {H : Hp} {xs : List V} {h : List (List Int)} {n : Nat} (hE : Each (TI K H) xs h) (q : Hb n h) {t s : Int} (ht : InR n t) (hs : InR n s) :
    ∃ (a' : Addr) (ns : List Int), atI xs t = some (.ref a') ∧ SqT K H a' (ns.map V.int) ∧ atI (ns.map V.int) s = some (.int (mv h t s)) := by
  obtain ⟨ns, e1, e2, _⟩ := q.at ht.1 ht.2 hs.1 hs.2
  obtain ⟨v, e3, a', rfl, hS⟩ := hE.of e1
  exact ⟨a', ns, at_int ht.1 e3, hS, at_int hs.1 (at_map e2)⟩
theorem V_int (a b : Int) : decide (V.int a = V.int b) = decide (a = b) := by
  rw [Bool.eq_iff_iff, decide_eq_true_iff, decide_eq_true_iff]
  exact ⟨fun h => V.int.inj h, fun h => by rw [h]⟩
theorem V_bl (a b : Bool) : decide (V.bl a = V.bl b) = decide (a = b) := by
  rw [Bool.eq_iff_iff, decide_eq_true_iff, decide_eq_true_iff]
  exact ⟨fun h => V.bl.inj h, fun h => by rw [h]⟩
section
variable {P : Program} {w : World} {K : PySem.W.Frag} {mg : Str → Option Value} {base : Heap}
def spReadsMark (K : PySem.W.Frag) : Sp := fun vs H Q _ => ∃ (hv : V) (h : List (List Int)) (n : Nat) (pl : Int) (wv : V) (ws : List Int) (rd : Int), vs = [hv, .int pl, wv, .int rd] ∧ TII K H hv h ∧ Hb n h ∧ InR n pl ∧ TI K H wv ws ∧
  (∀ t ∈ ws, InR n t) ∧ Q (.bl (decide (mark h pl ws = rd))) H
theorem ok_reads_mark (F : Df K mg "reads_mark" st_reads_mark ["habit", "place", "word", "read"]) : Cal P w K mg base 1 "reads_mark" (spReadsMark K) := by
  refine mkCal F sc_reads_mark (fun vs H Q E h => ?_) (fun f cdv A outer s H vs Q E hr h => ?_)
  · obtain ⟨hv, h, n, pl, wv, ws, rd, rfl, _⟩ := h
    rfl
  · obtain ⟨hv, h, n, pl, wv, ws, rd, rfl, ⟨a, xs, rfl, hS, hE⟩, hb, hpl, ⟨aw, rfl, hW⟩, hws, q⟩ := h
    refine ⟨_, pss_cons (ps_set (i := 4) sc_reads_mark.nd rfl (.inl rfl) (pe_ix ix_tup (pe_ix ix_tup (pv 0) (pv 1) (fun _ _ => rfl)) (pv 1) (fun _ _ => rfl)))
      (pss_cons (ps_for PassesOwn.never rfl (pi_tup (pv 2)) (pg_name (i := 5) sc_reads_mark.nd rfl (.inl rfl)) (pss_one (ps_set (i := 4) sc_reads_mark.nd rfl (.inl rfl) (pe_ix ix_tup (pe_ix ix_tup (pv 0) (pv 5) (fun _ _ => rfl)) (pv 4) (fun _ _ => rfl)))))
      (pss_one (ps_ret (pe_cmpR op_eq (pv 4) (pv 3) (nomark _))))), ?_⟩
    obtain ⟨a1, ns1, e1, s1, e2⟩ := ix2 hE hb hpl hpl
    refine ⟨_, rfl, _, rfl, a, xs, pl, _, rfl, rfl, hS, e1, _, rfl, a1, _, pl, _, rfl, rfl, s1, e2, ?_⟩
    refine ⟨_, rfl, aw, rfl, ⟨_, hW⟩, ?_⟩
    refine for_tup (xs := ws.map V.int) (fun i σ H' => H' = H ∧ ∃ y, σ = [some (.ref a), some (.int pl), some (.ref aw), some (.int rd), some (.int (mark h pl (ws.take i))), y]) ⟨rfl, none, rfl⟩ (fun i σ H' _ h' => by rw [h'.1]; exact hW) (fun i x σ H' hx h' => ?_) (fun σ H' h' => ?_)
    · obtain ⟨t, ht, rfl⟩ := map_at hx
      obtain ⟨rfl, y, rfl⟩ := h'
      have hm : InR n (mark h pl (ws.take i)) := hb.mark hpl _ fun u hu => hws u (List.mem_of_mem_take hu)
      obtain ⟨a2, ns2, e3, s2, e4⟩ := ix2 hE hb (hws t (List.mem_of_getElem? ht)) hm
      refine ⟨_, rfl, _, rfl, a, xs, t, _, rfl, rfl, hS, e3, _, rfl, a2, _, _, _, rfl, rfl, s2, e4, rfl, some (.int t), ?_⟩
      rw [take_more ht, mark_snoc]
      rfl
    · obtain ⟨rfl, y, rfl⟩ := h'
      rw [List.length_map, List.take_length]
      refine ⟨_, rfl, _, rfl, rfl, ?_⟩
      rw [V_int]
      exact q
end
end RH
set_option Elab.async false
set_option linter.all false
set_option maxRecDepth 100000
set_option maxHeartbeats 2000000
namespace RH
open PySem PySem.Spec PyProof.Rows L2
/-! ### the law's own row of draws -/
/-- all but what stands at p is as it was -/
def But (p : Addr) (H H' : Hp) : Prop := ∀ b o, H b = some o → b ≠ p → H' b = some o
theorem But.refl (p : Addr) (H : Hp) : But p H H := fun _ _ e _ => e
theorem But.trans {p : Addr} {H H1 H2 : Hp} (a : But p H H1) (b : But p H1 H2) : But p H H2 := fun c o e n => b c o (a c o e n) n
theorem But.same {p : Addr} {H H1 : Hp} (a : Same H H1) : But p H H1 := fun c o e _ => a c o e
theorem But.upd {p : Addr} {H H1 : Hp} {o : HO} (a : But p H H1) : But p H (upd H1 p o) := fun c u e n => by
  rw [upd_ne n]
  exact a c u e n
/-- all that is no list is as it was -/
def Fix (H H' : Hp) : Prop := ∀ b o, H b = some o → (∀ xs, o ≠ .lst xs) → H' b = some o
theorem Fix.refl (H : Hp) : Fix H H := fun _ _ e _ => e
theorem Fix.trans {H H1 H2 : Hp} (a : Fix H H1) (b : Fix H1 H2) : Fix H H2 := fun c o e n => b c o (a c o e n) n
theorem Fix.same {H H1 : Hp} (a : Same H H1) : Fix H H1 := fun c o e _ => a c o e
theorem Fix.lst {H : Hp} {p : Addr} {xs : List V} {o : HO} (h : H p = some (.lst xs)) : Fix H (L2.upd H p o) := fun b u e n => by
  by_cases z : b = p
  · subst z
    rw [h] at e
    cases e
    exact absurd rfl (n _)
  · rw [upd_ne z]
    exact e
theorem Fix.tups {K : PySem.W.Frag} {H H' : Hp} (b : Fix H H') : Tups K H H' := fun a xs hS => by
  rcases hS with (hS | ⟨u, hS⟩) | hS
  · exact .inl (.inl (b _ _ hS (fun _ z => nomatch z)))
  · exact .inl (.inr ⟨u, b _ _ hS (fun _ z => nomatch z)⟩)
  · exact .inr hS
theorem But.fix {H H' : Hp} {p : Addr} {xs : List V} (h : H p = some (.lst xs)) (b : But p H H') : Fix H H' := fun c o e n => b c o e fun z => by
  subst z
  rw [h] at e
  cases e
  exact n _ rfl
/-- a list that never changes -/
def Fz (K : PySem.W.Frag) (H : Hp) (a : Addr) (xs : List V) : Prop := (∃ o, H a = some (.frz o (.lst xs))) ∨ ∀ H', SqL K H' a xs
theorem Fz.seq {K : PySem.W.Frag} {H : Hp} {a : Addr} {xs : List V} (h : Fz K H a xs) : SqL K H a xs := by
  rcases h with ⟨o, h⟩ | h
  · exact .inl (.inr ⟨o, h⟩)
  · exact h H
theorem Fz.on {K : PySem.W.Frag} {H H' : Hp} {a : Addr} {xs : List V} (f : Fix H H') (h : Fz K H a xs) : Fz K H' a xs := by
  rcases h with ⟨o, h⟩ | h
  · exact .inl ⟨o, f _ _ h (fun _ z => nomatch z)⟩
  · exact .inr h
theorem Fz.of {K : PySem.W.Frag} {H : Hp} {a : Addr} {xs : List V} (o : Only H) (h : SqL K H a xs) : Fz K H a xs := by
  rcases h with (h | h) | h
  · rcases o a with e | ⟨u, ys, e⟩
    · rw [e] at h
      cases h
    · rw [e] at h
      cases h
  · exact .inl h
  · exact .inr fun H' => .inr h
/-- row: the script, how many of it are taken, the running number, what is left of a great one -/
structure RowA (K : PySem.W.Frag) (H : Hp) (p a : Addr) (ns : List Int) (i r c : Int) : Prop where
  at_ : H p = some (.lst [.ref a, .int i, .int r, .int c])
  fz : Fz K H a (ns.map V.int)
  pos : 0 ≤ i
theorem RowA.scr {K : PySem.W.Frag} {H : Hp} {p a : Addr} {ns : List Int} {i r c : Int} (h : RowA K H p a ns i r c) : SqL K H a (ns.map V.int) := h.fz.seq
def Row (K : PySem.W.Frag) (H : Hp) (p : Addr) : Prop := ∃ a ns i r c, RowA K H p a ns i r c
theorem RowA.put {K : PySem.W.Frag} {H : Hp} {p a : Addr} {ns : List Int} {i r c i' r' c' : Int} (h : RowA K H p a ns i r c) (hi : 0 ≤ i') :
    RowA K (upd H p (.lst [.ref a, .int i', .int r', .int c'])) p a ns i' r' c' :=
  ⟨upd_same, h.fz.on (Fix.lst h.at_), hi⟩
theorem RowA.row {K : PySem.W.Frag} {H : Hp} {p a : Addr} {ns : List Int} {i r c : Int} (h : RowA K H p a ns i r c) : Row K H p := ⟨_, _, _, _, _, h⟩
theorem Row.lst {K : PySem.W.Frag} {H : Hp} {p : Addr} (h : Row K H p) : ∃ xs, H p = some (.lst xs) := by
  obtain ⟨a, ns, i, r, c, h⟩ := h
  exact ⟨_, h.at_⟩
theorem Row.fix {K : PySem.W.Frag} {H H' : Hp} {p : Addr} (h : Row K H p) (b : But p H H') : Fix H H' := by
  obtain ⟨xs, e⟩ := h.lst
  exact But.fix e b
theorem Row.on {K : PySem.W.Frag} {H H' : Hp} {p : Addr} (h : Row K H p) (f : Fix H H') (e : H' p = H p) : Row K H' p := by
  obtain ⟨a, ns, i, r, c, h⟩ := h
  exact ⟨a, ns, i, r, c, e.trans h.at_, h.fz.on f, h.pos⟩
theorem Row.same {K : PySem.W.Frag} {H H' : Hp} {p : Addr} (h : Row K H p) (s : Same H H') : Row K H' p := by
  obtain ⟨xs, e⟩ := h.lst
  exact h.on (Fix.same s) ((s _ _ e).trans e.symm)
/-- another list is written -/
theorem Row.lst_upd {K : PySem.W.Frag} {H : Hp} {p q : Addr} {xs : List V} {o : HO} (h : Row K H p) (e : H q = some (.lst xs)) (n : p ≠ q) : Row K (upd H q o) p := h.on (Fix.lst e) (upd_ne n)
/-- a new object -/
theorem Row.new {K : PySem.W.Frag} {H : Hp} {p q : Addr} {o : HO} (h : Row K H p) (e : H q = none) : Row K (upd H q o) p := h.same (same_new e)
theorem Row.ne {K : PySem.W.Frag} {H : Hp} {p q : Addr} (h : Row K H p) (e : H q = none) : p ≠ q := by
  obtain ⟨xs, e'⟩ := h.lst
  exact ne_of_none e' e
section
variable {P : Program} {w : World} {K : PySem.W.Frag} {mg : Str → Option Value} {base : Heap}
def spTaken (K : PySem.W.Frag) : Sp := fun vs H Q _ => ∃ (p : Addr) (m : Int), vs = [.ref p, .int m] ∧ Row K H p ∧ 0 < m ∧ m < 1048576 ∧ ∀ k H', 0 ≤ k → k < m → But p H H' → Row K H' p → Q (.int k) H'
theorem ok_taken (F : Df K mg "_law_taken" st__law_taken ["row", "many"]) (B : Bu mg) : Cal P w K mg base 1 "_law_taken" (spTaken K) := by
  refine mkCal F sc__law_taken (fun vs H Q E h => ?_) (fun f cdv A outer s H vs Q E hr h => ?_)
  · obtain ⟨p, m, rfl, _⟩ := h
    rfl
  · obtain ⟨p, m, rfl, ⟨a, ns, i, r, c, hR⟩, m0, m1, q⟩ := h
    refine ⟨_, pss_cons (ps_if (pt_cmpR op_gt (pe_ix ix_list (pv 0) pe_int (fun _ _ => rfl)) pe_int (nomark _))
        (pss_cons (ps_set (i := 2) sc__law_taken.nd rfl (.inl rfl) (pe_op op_mod (pe_callTy call_int1 (by rfl) B.int (by decide +kernel) (pa_cons (pe_ix ix_list (pv 0) pe_int (fun _ _ => rfl)) pa_nil)) (pv 1)))
        (pss_cons (ps_asg (pe_op op_fdiv (pe_ix ix_list (pv 0) pe_int (fun _ _ => rfl)) (pv 1)) (pg_sub (pv 0) pe_int set_list))
        (pss_one (ps_ret (pv 2))))) pss_nil)
      (pss_cons (ps_asg (pe_op op_add (pe_ix ix_list (pv 0) pe_int (fun _ _ => rfl)) pe_int) (pg_sub (pv 0) pe_int set_list))
      (pss_cons (ps_if (pt_cmpR op_gt (pe_ix ix_list (pv 0) pe_int (fun _ _ => rfl)) (pe_callB (cl_len K) (by rfl) B.len PySem.boot_len (pa_cons (pe_ix ix_list (pv 0) pe_int (fun _ _ => rfl)) pa_nil)) (nomark _))
        (pss_cons (ps_asg (pe_op op_mod (pe_callTy call_int1 (by rfl) B.int (by decide +kernel) (pa_cons (pe_op op_add (pe_op op_mul (pe_ix ix_list (pv 0) pe_int (fun _ _ => rfl)) pe_int) pe_int) pa_nil)) pe_int) (pg_sub (pv 0) pe_int set_list))
        (pss_one (ps_ret (pe_op op_mod (pe_callTy call_int1 (by rfl) B.int (by decide +kernel) (pa_cons (pe_op op_fdiv (pe_ix ix_list (pv 0) pe_int (fun _ _ => rfl)) pe_int) pa_nil)) (pv 1))))) pss_nil)
      (pss_cons (ps_set (i := 3) sc__law_taken.nd rfl (.inl rfl) (pe_ix ix_list (pe_ix ix_list (pv 0) pe_int (fun _ _ => rfl)) (pe_op op_sub (pe_ix ix_list (pv 0) pe_int (fun _ _ => rfl)) pe_int) (fun _ _ => rfl)))
      (pss_cons (ps_asg (pe_op op_mod (pe_callTy call_int1 (by rfl) B.int (by decide +kernel) (pa_cons (pe_op op_add (pe_op op_add (pe_op op_mul (pe_ix ix_list (pv 0) pe_int (fun _ _ => rfl)) pe_int) (pv 3)) pe_int) pa_nil)) pe_int) (pg_sub (pv 0) pe_int set_list))
      (pss_cons (ps_if (pt_cmpR op_ge (pv 3) (pe_op op_pow pe_int pe_int) (nomark _))
        (pss_one (ps_asg (pe_op op_fdiv (pv 3) (pv 1)) (pg_sub (pv 0) pe_int set_list))) pss_nil)
      (pss_one (ps_ret (pe_op op_mod (pe_callTy call_int1 (by rfl) B.int (by decide +kernel) (pa_cons (pv 3) pa_nil)) (pv 1))))))))), ?_⟩
    have L := hR.at_
    refine ⟨_, rfl, p, _, 3, .int c, rfl, rfl, lstAt L, rfl, c, 0, rfl, rfl, _, rfl, ite2 (fun e => ?_) (fun e => ?_)⟩
    · refine ⟨_, rfl, p, _, 3, .int c, rfl, rfl, lstAt L, rfl, .inl ⟨c, rfl, _, rfl, c, m, rfl, rfl, m0, ?_⟩⟩
      refine ⟨_, rfl, p, _, 3, .int c, rfl, rfl, lstAt L, rfl, _, rfl, c, m, rfl, rfl, ⟨m0, by omega⟩, _, rfl, p, _, 3, 3, rfl, rfl, L, rfl, ?_⟩
      exact ⟨_, rfl, q (c % m) _ (Int.emod_nonneg _ (by omega)) (Int.emod_lt_of_pos _ m0) (But.upd (But.refl p H)) (hR.put hR.pos).row⟩
    · refine ⟨_, rfl, p, _, 1, .int i, rfl, rfl, lstAt L, rfl, i, 1, rfl, rfl, _, rfl, p, _, 1, 1, rfl, rfl, L, rfl, ?_⟩
      have R1 : RowA K (upd H p (.lst [.ref a, .int (i + 1), .int r, .int c])) p a ns (i + 1) r c := hR.put (by have := hR.pos; omega)
      have L1 := R1.at_
      refine ⟨_, rfl, p, _, 1, .int (i + 1), rfl, rfl, lstAt L1, rfl, _, rfl, p, _, 0, .ref a, rfl, rfl, lstAt L1, rfl, a, _, rfl, .inl R1.scr, _, _, rfl, rfl, _, rfl, ite2 (fun e1 => ?_) (fun e1 => ?_)⟩
      · refine ⟨_, rfl, p, _, 2, .int r, rfl, rfl, lstAt L1, rfl, r, 48271, rfl, rfl, .inr ⟨by decide, by decide⟩, _, 11, rfl, rfl, .inl ⟨_, rfl, _, _, rfl, rfl, (by show (0 : Int) < 2147483647; decide), _, rfl, p, _, 2, 2, rfl, rfl, L1, rfl, ?_⟩⟩
        have R2 : RowA K (upd (upd H p (.lst [.ref a, .int (i + 1), .int r, .int c])) p (.lst [.ref a, .int (i + 1), .int ((r * 48271 + 11) % 2147483647), .int c])) p a ns (i + 1) ((r * 48271 + 11) % 2147483647) c := R1.put R1.pos
        refine ⟨_, rfl, p, _, 2, _, rfl, rfl, lstAt R2.at_, rfl, _, 7, rfl, rfl, ⟨by decide, by decide⟩, .inl ⟨_, rfl, _, rfl, _, m, rfl, rfl, m0, ?_⟩⟩
        exact q _ _ (Int.emod_nonneg _ (by omega)) (Int.emod_lt_of_pos _ m0) (But.upd (But.upd (But.refl p H))) R2.row
      · have hi : i < (ns.length : Int) := by
          rw [List.length_map] at e1
          have e9 : i + 1 ≤ (ns.length : Int) := by simpa using e1
          omega
        have hi0 := hR.pos
        obtain ⟨z, hz⟩ : ∃ z, ns[i.toNat]? = some z := ⟨ns[i.toNat]'(by omega), List.getElem?_eq_getElem (by omega)⟩
        refine ⟨_, rfl, p, _, 0, .ref a, rfl, rfl, lstAt L1, rfl, _, rfl, p, _, 1, .int (i + 1), rfl, rfl, lstAt L1, rfl, _, 1, rfl, rfl, a, _, i + 1 - 1, .int z, rfl, rfl, R1.scr, at_int (by omega) (at_map (by rw [show (i + 1 - 1).toNat = i.toNat by omega]; exact hz)), ?_⟩
        refine ⟨_, rfl, p, _, 2, .int r, rfl, rfl, lstAt L1, rfl, r, 48271, rfl, rfl, .inr ⟨by decide, by decide⟩, _, rfl, _, z, rfl, rfl, _, 11, rfl, rfl, .inl ⟨_, rfl, _, _, rfl, rfl, (by show (0 : Int) < 2147483647; decide), _, rfl, p, _, 2, 2, rfl, rfl, L1, rfl, ?_⟩⟩
        have R2 : RowA K (upd (upd H p (.lst [.ref a, .int (i + 1), .int r, .int c])) p (.lst [.ref a, .int (i + 1), .int ((r * 48271 + z + 11) % 2147483647), .int c])) p a ns (i + 1) ((r * 48271 + z + 11) % 2147483647) c := R1.put R1.pos
        refine ⟨_, rfl, 10, 18, rfl, rfl, ⟨by decide, by decide, by decide⟩, z, _, rfl, rfl, _, rfl, ite2 (fun e2 => ?_) (fun e2 => ?_)⟩
        · refine ⟨_, rfl, _, rfl, z, m, rfl, rfl, ⟨m0, by omega⟩, _, rfl, p, _, 3, 3, rfl, rfl, R2.at_, rfl, ?_⟩
          refine ⟨_, rfl, .inl ⟨z, rfl, _, rfl, z, m, rfl, rfl, m0, ?_⟩⟩
          exact q _ _ (Int.emod_nonneg _ (by omega)) (Int.emod_lt_of_pos _ m0) (But.upd (But.upd (But.upd (But.refl p H)))) (R2.put R2.pos).row
        · refine ⟨_, rfl, .inl ⟨z, rfl, _, rfl, z, m, rfl, rfl, m0, ?_⟩⟩
          exact q _ _ (Int.emod_nonneg _ (by omega)) (Int.emod_lt_of_pos _ m0) (But.upd (But.upd (But.refl p H))) R2.row
end
end RH
set_option Elab.async false
set_option linter.all false
set_option maxRecDepth 100000
set_option maxHeartbeats 2000000
namespace RH
open PySem PySem.Spec PyProof.Rows L2
theorem ix_nat {n : Nat} {k : Int} (h0 : 0 ≤ k) (h1 : k < n) : seqIndex? k n = some k.toNat := by
  unfold seqIndex?
  have e : (if k < 0 then k + (n : Int) else k) = k := if_neg (by omega)
  simp only [e]
  rw [if_pos]
  simp [h0, h1]
theorem But.fresh {p l : Addr} {H H1 : Hp} {o : HO} (a : But p H H1) (e : H l = none) : But p H (L2.upd H1 l o) := fun c u h n => by
  rw [upd_ne (ne_of_none h e)]
  exact a c u h n
theorem map_erase (ns : List Int) (k : Nat) : (ns.map V.int).eraseIdx k = (ns.eraseIdx k).map V.int := by
  induction ns generalizing k with
  | nil => rfl
  | cons n ns ih =>
    cases k with
    | zero => rfl
    | succ k =>
      show V.int n :: (ns.map V.int).eraseIdx k = V.int n :: (ns.eraseIdx k).map V.int
      rw [ih]
theorem perm_erase : ∀ {ls : List Int} {k : Nat} {y : Int}, ls[k]? = some y → ls.Perm (y :: ls.eraseIdx k)
  | [], k, y, h => by simp at h
  | a :: ls, 0, y, h => by
    have e : a = y := Option.some.inj h
    subst e
    exact List.Perm.refl _
  | a :: ls, k + 1, y, h => by
    have ih := perm_erase (ls := ls) (k := k) (y := y) h
    exact (ih.cons a).trans (List.Perm.swap ..)
section
variable {P : Program} {w : World} {K : PySem.W.Frag} {mg : Str → Option Value} {base : Heap}
def spPick (K : PySem.W.Frag) : Sp := fun vs H Q _ => ∃ (p l : Addr) (xs : List V), vs = [.ref p, .ref l] ∧ Row K H p ∧ H l = some (.lst xs) ∧ l ≠ p ∧ 0 < xs.length ∧ xs.length ≤ 1000 ∧
  ∀ (i : Nat) x H', xs[i]? = some x → But p H H' → Row K H' p → Q x H'
theorem ok_pick (F : Df K mg "_law_pick" st__law_pick ["row", "things"]) (B : Bu mg) (CT : Cal P w K mg base 1 "_law_taken" (spTaken K)) : Cal P w K mg base 2 "_law_pick" (spPick K) := by
  refine mkCal F sc__law_pick (fun vs H Q E h => ?_) (fun f cdv A outer s H vs Q E hr h => ?_)
  · obtain ⟨p, l, xs, rfl, _⟩ := h
    rfl
  · obtain ⟨p, l, xs, rfl, hR, hl, hlp, l0, l1, q⟩ := h
    refine ⟨_, pss_one (ps_ret (pe_ix ix_list (pv 1) (pc CT hr (pa_cons (pv 0) (pa_cons (pe_callB (cl_len K) (by rfl) B.len PySem.boot_len (pa_cons (pv 1) pa_nil)) pa_nil))) (fun _ _ => rfl))), ?_⟩
    refine ⟨_, rfl, _, rfl, _, rfl, l, xs, rfl, .inl (lstAt hl), p, xs.length, rfl, hR, by omega, by omega, fun k H' k0 k1 hB hR' => ?_⟩
    have hk : k.toNat < xs.length := by omega
    exact ⟨l, xs, k, _, rfl, rfl, lstAt (hB _ _ hl hlp), at_int k0 (List.getElem?_eq_getElem hk), q _ _ H' (List.getElem?_eq_getElem hk) hB hR'⟩
def spOrder (K : PySem.W.Frag) : Sp := fun vs H Q _ => ∃ (p : Addr) (n : Nat), vs = [.ref p, .int n] ∧ Row K H p ∧ n ≤ 1000 ∧ ∀ (H' : Hp) (q : Addr) (ns : List Int), ns.Perm (rg n) → But p H H' → Row K H' p → H q = none → FT H' q ns → Q (.ref q) H'
theorem ok_order (F : Df K mg "_law_order" st__law_order ["row", "many"]) (B : Bu mg) (CT : Cal P w K mg base 1 "_law_taken" (spTaken K)) : Cal P w K mg base 2 "_law_order" (spOrder K) := by
  refine mkCal F sc__law_order (fun vs H Q E h => ?_) (fun f cdv A outer s H vs Q E hr h => ?_)
  · obtain ⟨p, n, rfl, _⟩ := h
    rfl
  · obtain ⟨p, n, rfl, hR, hn, q⟩ := h
    refine ⟨_, pss_cons (ps_par (i := 2) (j := 3) rfl sc__law_order.nd rfl rfl (by decide) rfl rfl (pa_cons (pe_listRg rfl (by rfl) B.list (prg_1 (by rfl) B.range (pv 1))) (pa_cons (pe_lst pa_nil) pa_nil)) rfl)
      (pss_cons (ps_while PassesOwn.never (pt_cmpR (op_neD hr.units) (pv 2) (pe_lst pa_nil) (nomark _))
        (pss_one (ps_expr (pe_bm PySem.F.plainAttrs_list PySem.F.slot_list_append PySem.F.type_list_append mt_append (pv 3) (pa_cons (pe_bm PySem.F.plainAttrs_list PySem.F.slot_list_pop PySem.F.type_list_pop mt_popAt (pv 2)
          (pa_cons (pc CT hr (pa_cons (pv 0) (pa_cons (pe_callB (cl_len K) (by rfl) B.len PySem.boot_len (pa_cons (pv 2) pa_nil)) pa_nil))) pa_nil)) pa_nil)))))
      (pss_one (ps_ret (pe_tupleF (by rfl) B.tuple (pv 3))))), ?_⟩
    refine ⟨_, rfl, n, rfl, ⟨by omega, by omega, by omega, by omega, by omega⟩, fun l hl => ⟨Nat.zero_le _, fun g hg => ⟨_, _, rfl, ?_⟩⟩⟩
    have hlg : l ≠ g := ne_of_none upd_same hg
    have hgH : H g = none := by
      rw [upd_ne (Ne.symm hlg)] at hg
      exact hg
    have hpl : p ≠ l := hR.ne hl
    have hpg : p ≠ g := hR.ne hgH
    refine ⟨fun m σ H' => ∃ ls fs : List Int, m = ls.length ∧ σ = [some (.ref p), some (.int n), some (.ref l), some (.ref g)] ∧ But p H H' ∧ Row K H' p ∧ H' l = some (.lst (ls.map V.int)) ∧ H' g = some (.lst (fs.map V.int)) ∧ (fs ++ ls).Perm (rg n),
      ⟨(rg n).length, rg n, [], rfl, rfl, But.same (Same.trans (same_new hl) (same_new hg)), (hR.new hl).new hg, ?_, upd_same, List.Perm.refl _⟩, ?_⟩
    · rw [upd_ne hlg, upd_same, rgV_rg]
    rintro m σ H1 ⟨ls, fs, rfl, rfl, hB, hR1, e1, e2, hpm⟩
    refine ⟨_, rfl, Nat.zero_le _, fun z hz => ?_⟩
    have sz : Same H1 (upd H1 z (.lst [])) := same_new hz
    refine ⟨_, _, dp_lst (ns := ls) (lstAt (sz _ _ e1)), dp_lst (ns := []) (lstAt upd_same), PySem.W.ke_shaped_ints _, PySem.W.ke_shaped_ints _, _, rfl, ?_⟩
    rw [eqv_lst]
    have len1 : fs.length + ls.length = n := by
      have := hpm.length_eq
      rw [List.length_append, rg_len] at this
      exact this
    cases ls with
    | nil =>
      refine ifF rfl ⟨_, rfl, g, _, rfl, lstAt (sz _ _ e2), fun t ob ht hob => ?_⟩
      rw [List.append_nil] at hpm
      have st : Same H1 (upd (upd H1 z (.lst [])) t (.frz ob (.tup (fs.map V.int)))) := sz.trans (same_new ht)
      refine q _ t fs hpm (hB.trans (But.same st)) (hR1.same st) ?_ ⟨ob, upd_same, hob⟩
      cases e : H t with
      | none => rfl
      | some o =>
        exfalso
        by_cases zp : t = p
        · obtain ⟨xs, ep⟩ := hR1.lst
          rw [zp, sz _ _ ep] at ht
          cases ht
        · rw [sz _ _ (hB _ _ e zp)] at ht
          cases ht
    | cons y ls =>
      have hRz : Row K (upd H1 z (.lst [])) p := hR1.same sz
      have e1z := sz _ _ e1
      have e2z := sz _ _ e2
      refine ifT rfl ⟨fun σ' H' => ∃ m', m' < (y :: ls).length ∧ ∃ ls fs : List Int, m' = ls.length ∧ σ' = [some (.ref p), some (.int n), some (.ref l), some (.ref g)] ∧ But p H H' ∧ Row K H' p ∧ H' l = some (.lst (ls.map V.int)) ∧ H' g = some (.lst (fs.map V.int)) ∧ (fs ++ ls).Perm (rg n), fun _ _ h => h, ?_⟩
      refine ⟨_, rfl, .inl ⟨rfl, _, lstAt e2z⟩, _, rfl, .inl ⟨rfl, _, lstAt e1z⟩, _, rfl, _, rfl, l, _, rfl, .inl (lstAt e1z), p, _, rfl, hRz, ?_, ?_, fun k H3 k0 k1 hB3 hR3 => ?_⟩
      · rw [List.length_map, List.length_cons]
        omega
      · rw [List.length_map]
        omega
      rw [List.length_map] at k1
      have e1' := hB3 _ _ e1z (Ne.symm hpl)
      have e2' := hB3 _ _ e2z (Ne.symm hpg)
      have hk : k.toNat < (y :: ls).length := by omega
      obtain ⟨v, hv⟩ : ∃ v, (y :: ls)[k.toNat]? = some v := ⟨_, List.getElem?_eq_getElem hk⟩
      have e2u : (upd H3 l (.lst (((y :: ls).map V.int).eraseIdx k.toNat))) g = some (.lst (fs.map V.int)) := by
        rw [upd_ne (Ne.symm hlg)]
        exact e2'
      refine ⟨l, _, k, k.toNat, .int v, rfl, rfl, e1', by omega, by omega, ?_, at_map hv, g, _, .int v, rfl, rfl, e2u, ?_, ?_⟩
      · rw [List.length_map]
        exact ix_nat k0 k1
      · rw [List.length_map]
        exact small1000 (by have := List.length_cons (a := y) (as := ls); omega)
      · refine ⟨((y :: ls).eraseIdx k.toNat).length, ?_, (y :: ls).eraseIdx k.toNat, fs ++ [v], rfl, rfl, ?_, ?_, ?_, ?_, ?_⟩
        · rw [List.length_eraseIdx_of_lt hk]
          omega
        · exact (((hB.trans (But.same sz)).trans hB3).fresh hl).fresh hgH
        · exact (hR3.lst_upd e1' hpl).lst_upd e2u hpg
        · rw [upd_ne hlg, upd_same, map_erase]
        · rw [upd_same, List.map_append]
          rfl
        · have hp2 := perm_erase hv
          refine List.Perm.trans ?_ hpm
          rw [List.append_assoc]
          exact List.Perm.append_left fs hp2.symm
end
end RH
set_option Elab.async false
set_option linter.all false
set_option maxRecDepth 100000
set_option maxHeartbeats 2000000
namespace RH
open PySem PySem.Spec PyProof.Rows L2
section
variable {P : Program} {w : World} {K : PySem.W.Frag} {mg : Str → Option Value} {base : Heap}
def spLot (K : PySem.W.Frag) : Sp := fun vs H Q _ => ∃ (p : Addr) (n : Nat), vs = [.ref p, .int n] ∧ Row K H p ∧ 1 ≤ n ∧ n ≤ 1000 ∧
  ∀ (H' : Hp) (q : Addr) (ns : List Int), ns.Pairwise (· < ·) → 1 ≤ ns.length → ns.length ≤ n → (∀ i ∈ ns, InR n i) → But p H H' → Row K H' p → H' q = some (.tup (ns.map V.int)) → Q (.ref q) H'
theorem rg_lt (p : Nat) : (rg p).Pairwise (· < ·) := by
  unfold rg
  rw [List.pairwise_map]
  exact (List.pairwise_lt_range (n := p)).imp fun h => by omega
theorem ok_lot (F : Df K mg "_law_lot" st__law_lot ["row", "places"]) (B : Bu mg) (CT : Cal P w K mg base 1 "_law_taken" (spTaken K)) : Cal P w K mg base 2 "_law_lot" (spLot K) := by
  refine mkCal F sc__law_lot (fun vs H Q E h => ?_) (fun f cdv A outer s H vs Q E hr h => ?_)
  · obtain ⟨p, n, rfl, _⟩ := h
    rfl
  · obtain ⟨p, n, rfl, hR, n1, n2, q⟩ := h
    refine ⟨_, pss_cons (ps_setLc (i := 2) (own := [("place", 3)]) (g := gName 3) rfl sc__law_lot.nd rfl rfl (sw_true rfl rfl rfl (by decide +kernel)) (pi_range1 (by rfl) B.range (pa_cons (pv 1) pa_nil))
        (blkOk_by (N := ["row", "places", "found", "place"]) (sc := defScope st__law_lot) (by decide +kernel)) (fun _ _ _ _ _ => pg_name (i := 3) sc__law_lot.nd rfl (Or.inl rfl))
        (fun _ _ _ _ _ => pts_one (pt_cmpR op_gt (pc CT hr (pa_cons (pv 0) (pa_cons pe_int pa_nil))) pe_int (nomark _))) (fun _ _ _ _ _ => pv 3))
      (pss_one (ps_ret (pe_ifExp (pt_cmpR (op_neD hr.units) (pv 2) (pe_lst pa_nil) (nomark _)) (pe_tupleOf (by rfl) B.tuple (pv 2)) (pe_tupRg rfl (by rfl) B.tuple (prg_1 (by rfl) B.range (pv 1)))))), ?_⟩
    refine ⟨_, rfl, n, rfl, by omega, by omega, fun D hD => ?_⟩
    have hpD : p ≠ D := hR.ne hD
    rw [Int.toNat_natCast]
    refine lc_range (lo := 0) (n := n) (fun i H' => ∃ fs : List Int, But p H H' ∧ Row K H' p ∧ H' D = some (.lst (fs.map V.int)) ∧ fs.Pairwise (· < ·) ∧ (∀ x ∈ fs, InR i x) ∧ fs.length ≤ i)
      ⟨[], But.same (same_new hD), hR.new hD, upd_same, List.Pairwise.nil, fun x hx => absurd hx (List.not_mem_nil), Nat.le_refl _⟩ (fun i H' hi h' => ?_) (fun H' h' => ?_)
    · obtain ⟨fs, hB, hR', eD, hp, hin, hl⟩ := h'
      refine ⟨rfl, _, rfl, p, 3, rfl, hR', by decide, by decide, fun k H3 k0 k1 hB3 hR3 => ⟨_, _, rfl, rfl, _, rfl, ite2 (fun e => ?_) (fun e => ?_)⟩⟩
      · have eD3 := hB3 _ _ eD (Ne.symm hpD)
        refine ⟨_, rfl, _, eD3, ?_, fs ++ [(i : Int)], ?_, hR3.lst_upd eD3 hpD, ?_, ?_, ?_, ?_⟩
        · rw [List.length_map]
          exact small1000 (by omega)
        · exact (hB.trans hB3).fresh hD
        · rw [upd_same, List.map_append, Int.zero_add]
          rfl
        · rw [List.pairwise_append]
          refine ⟨hp, List.pairwise_singleton _ _, fun a ha b hb => ?_⟩
          have := (hin a ha).2
          have := List.mem_singleton.mp hb
          omega
        · intro x hx
          rcases List.mem_append.mp hx with h1 | h1
          · exact ⟨(hin x h1).1, by have := (hin x h1).2; omega⟩
          · have := List.mem_singleton.mp h1
            exact ⟨by omega, by omega⟩
        · rw [List.length_append]
          show fs.length + 1 ≤ i + 1
          omega
      · exact ⟨fs, hB.trans hB3, hR3, hB3 _ _ eD (Ne.symm hpD), hp, fun x hx => ⟨(hin x hx).1, by have := (hin x hx).2; omega⟩, by omega⟩
    · obtain ⟨fs, hB, hR', eD, hp, hin, hl⟩ := h'
      refine ⟨_, rfl, Nat.zero_le _, fun z hz => ⟨_, _, dp_lst (ns := fs) (lstAt (same_new hz _ _ eD)), dp_lst (ns := []) (lstAt upd_same), PySem.W.ke_shaped_ints _, PySem.W.ke_shaped_ints _, _, rfl, ?_⟩⟩
      rw [eqv_lst]
      refine ite2 (fun e => ?_) (fun e => ?_)
      · refine ⟨_, rfl, .inl ⟨D, _, rfl, lstAt (same_new hz _ _ eD), fun t ht => ?_⟩⟩
        have st := Same.trans (same_new (o := .lst []) hz) (same_new (o := .tup (fs.map V.int)) ht)
        refine q _ t fs hp ?_ hl hin (hB.trans (But.same st)) (hR'.same st) upd_same
        cases fs with
        | nil => exact absurd e (by decide)
        | cons x fs => exact Nat.succ_le_succ (Nat.zero_le _)
      · refine ⟨_, rfl, n, rfl, ⟨by omega, by omega, by omega, by omega, by omega⟩, fun t ht => ?_⟩
        rw [rgV_rg] at *
        have st := Same.trans (same_new (o := .lst []) hz) (same_new (o := .tup ((rg n).map V.int)) ht)
        exact q _ t (rg n) (rg_lt n) (by rw [rg_len]; exact n1) (by rw [rg_len]; exact Nat.le_refl _) (fun i hi => rg_mem.mp hi) (hB.trans (But.same st)) (hR'.same st) upd_same
/-! ### _law_alike: an int with an int, a tuple of ints with a tuple of ints -/
end
end RH
set_option Elab.async false
set_option linter.all false
set_option maxRecDepth 100000
set_option maxHeartbeats 2000000
namespace RH
open PySem PySem.Spec PyProof.Rows L2
/-! ### _law_alike of equal data -/
theorem Dp.on {K : PySem.W.Frag} {H H' : Hp} (s : Same H H') : ∀ (d : PyData) (v : V), Dp K H v d → Dp K H' v d
  | d, v, h => by
    refine Dp.rec (motive_1 := fun v d _ => Dp K H' v d) (motive_2 := fun vs ds _ => DpAll K H' vs ds) .non .bl .int .str ?_ ?_ .nil ?_ h
    · intro a xs ds h1 _ h2
      exact .lst (s.seq h1) h2
    · intro a xs ds h1 _ h2
      exact .tup (onT s h1) h2
    · intro v vs d ds _ _ h1 h2
      exact .cons h1 h2
theorem DpAll.len {K : PySem.W.Frag} {H : Hp} : ∀ {vs : List V} {ds : List PyData}, DpAll K H vs ds → vs.length = ds.length
  | _, _, .nil => rfl
  | _, _, .cons _ t => congrArg (· + 1) (DpAll.len t)
theorem DpAll.of {K : PySem.W.Frag} {H : Hp} : ∀ {vs : List V} {ds : List PyData} {i : Nat} {d : PyData}, DpAll K H vs ds → ds[i]? = some d → ∃ v, vs[i]? = some v ∧ Dp K H v d
  | _, _, _, _, .nil, e => by simp at e
  | _, _, 0, _, .cons h _, e => by
    have e' := Option.some.inj e
    subst e'
    exact ⟨_, rfl, h⟩
  | _, _, i + 1, _, .cons _ t, e => DpAll.of (i := i) t e
def okD : Nat → PyData → Prop
  | 0, .none => True
  | 0, .bool _ => True
  | 0, .int _ => True
  | 0, .str _ => True
  | 0, _ => False
  | _ + 1, .none => True
  | _ + 1, .bool _ => True
  | _ + 1, .int _ => True
  | _ + 1, .str _ => True
  | k + 1, .list ds => ds.length ≤ 1000 ∧ ∀ d ∈ ds, okD k d
  | k + 1, .tuple ds => ds.length ≤ 1000 ∧ ∀ d ∈ ds, okD k d
  | _ + 1, .dict _ => False
theorem kit2 {K : PySem.W.Frag} {t : String} {b1 b2 : Bool} (h1 : kitB t "tuple" = some b1) (h2 : kitB t "list" = some b2) : PySem.W.kitAny K (.type t) [.type "tuple", .type "list"] = some (b1 || b2) := by
  cases b1 with
  | true => exact kitAny_cons (kit_ty h1) (fun z => nomatch z) (fun _ => rfl)
  | false =>
    cases b2 with
    | true => exact kitAny_cons (kit_ty h1) (fun _ => kitAny_cons (kit_ty h2) (fun z => nomatch z) (fun _ => rfl)) (fun z => nomatch z)
    | false => exact kitAny_cons (kit_ty h1) (fun _ => kitAny_cons (kit_ty h2) (fun _ => kitAny_nil) (fun z => nomatch z)) (fun z => nomatch z)
theorem cls2 : Paired ClsV [V.ty "tuple", V.ty "list"] [Value.type "tuple", Value.type "list"] := .cons (.ty _) (.cons (.ty _) .nil)
theorem ty_lst {K : PySem.W.Frag} {H : Hp} {a : Addr} {xs : List V} (h : SqL K H a xs) : TyX K H (.ref a) (.type "list") := by
  rcases h with (h | ⟨o, h⟩) | ⟨o, vz, n, h, c, _⟩
  · exact .base (.lst h)
  · exact .base (.frz h)
  · exact .kList h c
theorem pss_no {X : Cx} {sts : List Stmt} : PSs X sts (fun _ _ _ => False) := ⟨fun _ _ _ _ _ _ h => h.elim⟩
section
variable {P : Program} {w : World} {K : PySem.W.Frag} {mg : Str → Option Value} {base : Heap}
def spAlike (K : PySem.W.Frag) (k : Nat) : Sp := fun vs H Q _ => ∃ (v u : V) (d : PyData), vs = [v, u] ∧ Dp K H v d ∧ Dp K H u d ∧ okD k d ∧ ∀ H', Same H H' → Q (.bl true) H'
theorem ok_alike0 (F : Df K mg "_law_alike" st__law_alike ["found", "due"]) (B : Bu mg) : Cal P w K mg base 1 "_law_alike" (spAlike K 0) := by
  refine mkCal F sc__law_alike (fun vs H Q E h => ?_) (fun f cdv A outer s H vs Q E hr h => ?_)
  · obtain ⟨v, u, d, rfl, _⟩ := h
    rfl
  · obtain ⟨v, u, d, rfl, hv, hu, hk, q⟩ := h
    refine ⟨_, pss_cons (ps_if (pt_val (pe_callB call_isiT (by rfl) B.isi (by decide +kernel) (pa_cons (pv 1) (pa_cons (pe_tup (pa_cons (pe_bltn (v := .ty "tuple") (by rfl) B.tuple (by decide +kernel) rfl) (pa_cons (pe_bltn (v := .ty "list") (by rfl) B.list (by decide +kernel) rfl) pa_nil))) pa_nil)))) pss_no pss_nil)
      (pss_cons (ps_if (PW.pt (pw_or (pt_cmp (pc_isN (pv 1))) (pw_or1 (pt_val (pe_callB call_isi (by rfl) B.isi (by decide +kernel) (pa_cons (pv 1) (pa_cons (pe_bltn (v := .ty "str") (by rfl) B.str (by decide +kernel) rfl) pa_nil)))))))
        (pss_one (ps_ret (pe_and (pe_cmpR op_eq (pv 0) (pv 1) (nomark _)) (pe_one (pe_cmpR op_eq (pe_callB call_isi (by rfl) B.isi (by decide +kernel) (pa_cons (pv 0) (pa_cons (pe_bltn (v := .ty "str") (by rfl) B.str (by decide +kernel) rfl) pa_nil)))
          (pe_callB call_isi (by rfl) B.isi (by decide +kernel) (pa_cons (pv 1) (pa_cons (pe_bltn (v := .ty "str") (by rfl) B.str (by decide +kernel) rfl) pa_nil))) (nomark _)))))) pss_nil)
      (pss_one (ps_ret (pe_and (pe_callB call_isi (by rfl) B.isi (by decide +kernel) (pa_cons (pv 0) (pa_cons (pe_bltn (v := .ty "int") (by rfl) B.int (by decide +kernel) rfl) pa_nil)))
        (pe_and (pe_cmpR op_eq (pe_callB call_isi (by rfl) B.isi (by decide +kernel) (pa_cons (pv 0) (pa_cons (pe_bltn (v := .ty "bool") (by rfl) B.bool (by decide +kernel) rfl) pa_nil)))
          (pe_callB call_isi (by rfl) B.isi (by decide +kernel) (pa_cons (pv 1) (pa_cons (pe_bltn (v := .ty "bool") (by rfl) B.bool (by decide +kernel) rfl) pa_nil))) (nomark _)) (pe_one (pe_cmpR op_eq (pv 0) (pv 1) (nomark _)))))))), ?_⟩
    cases hv with
    | non =>
      cases hu
      refine ⟨_, rfl, (by show 2 ≤ sizeLine; decide), fun t ht => ⟨.non, t, _, _, _, false, rfl, upd_same, cls2, .base .non, kit2 (b1 := false) (b2 := false) (by decide +kernel) (by decide +kernel), _, rfl, ifF rfl ?_⟩⟩
      refine ⟨_, rfl, _, rfl, ifT (decide_eq_true rfl) (ifT rfl ?_)⟩
      exact ⟨_, rfl, _, rfl, rfl, _, rfl, ifT (decide_eq_true rfl) ⟨_, rfl, .non, .ty "str", _, _, false, rfl, .ty "str", .base .non, kit_ty (by decide +kernel), _, rfl, .non, .ty "str", _, _, false, rfl, .ty "str", .base .non, kit_ty (by decide +kernel), rfl, q _ (same_new ht)⟩⟩
    | bl b =>
      cases hu
      refine ⟨_, rfl, (by show 2 ≤ sizeLine; decide), fun t ht => ⟨.bl b, t, _, _, _, false, rfl, upd_same, cls2, .base (.bl b), kit2 (b1 := false) (b2 := false) (by decide +kernel) (by decide +kernel), _, rfl, ifF rfl ?_⟩⟩
      refine ⟨_, rfl, _, rfl, ifF (decide_eq_false (fun z => nomatch z)) ⟨_, rfl, .bl b, .ty "str", _, _, false, rfl, .ty "str", .base (.bl b), kit_ty (by decide +kernel), _, rfl, ifF rfl ?_⟩⟩
      refine ⟨_, rfl, .bl b, .ty "int", _, _, true, rfl, .ty "int", .base (.bl b), kit_ty (by decide +kernel), _, rfl, ifT rfl ?_⟩
      refine ⟨_, rfl, .bl b, .ty "bool", _, _, true, rfl, .ty "bool", .base (.bl b), kit_ty (by decide +kernel), _, rfl, .bl b, .ty "bool", _, _, true, rfl, .ty "bool", .base (.bl b), kit_ty (by decide +kernel), rfl, _, rfl, ifT (decide_eq_true rfl) ?_⟩
      refine ⟨_, rfl, _, rfl, rfl, ?_⟩
      rw [decide_eq_true (rfl : V.bl b = V.bl b)]
      exact q _ (same_new ht)
    | int i =>
      cases hu
      refine ⟨_, rfl, (by show 2 ≤ sizeLine; decide), fun t ht => ⟨.int i, t, _, _, _, false, rfl, upd_same, cls2, .base (.int i), kit2 (b1 := false) (b2 := false) (by decide +kernel) (by decide +kernel), _, rfl, ifF rfl ?_⟩⟩
      refine ⟨_, rfl, _, rfl, ifF (decide_eq_false (fun z => nomatch z)) ⟨_, rfl, .int i, .ty "str", _, _, false, rfl, .ty "str", .base (.int i), kit_ty (by decide +kernel), _, rfl, ifF rfl ?_⟩⟩
      refine ⟨_, rfl, .int i, .ty "int", _, _, true, rfl, .ty "int", .base (.int i), kit_ty (by decide +kernel), _, rfl, ifT rfl ?_⟩
      refine ⟨_, rfl, .int i, .ty "bool", _, _, false, rfl, .ty "bool", .base (.int i), kit_ty (by decide +kernel), _, rfl, .int i, .ty "bool", _, _, false, rfl, .ty "bool", .base (.int i), kit_ty (by decide +kernel), rfl, _, rfl, ifT (decide_eq_true rfl) ?_⟩
      refine ⟨_, rfl, _, rfl, rfl, ?_⟩
      rw [decide_eq_true (rfl : V.int i = V.int i)]
      exact q _ (same_new ht)
    | str x =>
      cases hu
      refine ⟨_, rfl, (by show 2 ≤ sizeLine; decide), fun t ht => ⟨.str x, t, _, _, _, false, rfl, upd_same, cls2, .base (.str x), kit2 (b1 := false) (b2 := false) (by decide +kernel) (by decide +kernel), _, rfl, ifF rfl ?_⟩⟩
      refine ⟨_, rfl, _, rfl, ifF (decide_eq_false (fun z => nomatch z)) ⟨_, rfl, .str x, .ty "str", _, _, true, rfl, .ty "str", .base (.str x), kit_ty (by decide +kernel), _, rfl, ifT rfl ?_⟩⟩
      exact ⟨_, rfl, _, rfl, rfl, _, rfl, ifT (decide_eq_true rfl) ⟨_, rfl, .str x, .ty "str", _, _, true, rfl, .ty "str", .base (.str x), kit_ty (by decide +kernel), _, rfl, .str x, .ty "str", _, _, true, rfl, .ty "str", .base (.str x), kit_ty (by decide +kernel), rfl, q _ (same_new ht)⟩⟩
    | lst _ _ => exact hk.elim
    | tup _ _ => exact hk.elim
end
end RH
set_option Elab.async false
set_option linter.all false
set_option maxRecDepth 100000
set_option maxHeartbeats 2000000
namespace RH
open PySem PySem.Spec PyProof.Rows L2
theorem lenV (a b : Nat) : (!decide (V.int (a : Int) = V.int (b : Int))) = !decide (a = b) := by
  rw [V_int]
  congr 1
  rw [Bool.eq_iff_iff, decide_eq_true_iff, decide_eq_true_iff]
  omega
end RH
set_option Elab.async false
set_option linter.all false
set_option maxRecDepth 100000
set_option maxHeartbeats 2000000
namespace RH
open PySem PySem.Spec PyProof.Rows L2
theorem ixN_int {n : Nat} {k : Int} (h0 : 0 ≤ k) (h1 : k < n) : ixN n k = some k.toNat := by
  unfold ixN
  rw [if_pos h0, if_pos h1]
def tF (n pl : Nat) : List Int := (List.range n).map fun s : Nat => ((s : Int) + (pl : Int)) % (n : Int)
def mF (n pl : Nat) : List Int := (List.range n).map fun s : Nat => (s : Int) + (if decide ((s : Int) < (pl : Int)) = true then 1 else 0)
def fF (n pl : Nat) : List Int := (mF n pl).take pl ++ [0] ++ (mF n pl).drop (pl + 1)
def sF (n pl : Nat) : List Int := ((rg n).set pl ((pl - 1 : Nat) : Int)).set (pl - 1) (pl : Int)
theorem perm_all : ∀ n, n < 6 → ∀ pl, pl < n → (tF n pl).isPerm (rg n) = true ∧ (fF n pl).isPerm (rg n) = true ∧ (sF n pl).isPerm (rg n) = true := by decide +kernel
theorem mF_len (n pl : Nat) : (mF n pl).length = n := by
  unfold mF
  rw [List.length_map, List.length_range]
theorem range_more {f : Nat → Int} (i : Nat) : ((List.range (i + 1)).map f).map V.int = ((List.range i).map f).map V.int ++ [V.int (f i)] := by
  rw [List.range_succ, List.map_append, List.map_append]
  rfl
/-- the permutations found so far -/
def HI (K : PySem.W.Frag) (p g : Addr) (H : Hp) (n i : Nat) (H' : Hp) : Prop := ∃ (xs : List V) (hs : List (List Int)), But p H H' ∧ Row K H' p ∧ H' g = some (.lst xs) ∧ Each (TI K H') xs hs ∧ hs.length = i ∧ ∀ ns ∈ hs, ns.Perm (rg n)
theorem HI.step {K : PySem.W.Frag} {p g : Addr} {H H1 H5 : Hp} {n i : Nat} (h : HI K p g H n i H1) (hg : H g = none) (hpg : p ≠ g) (b : But p H1 H5) (r : Row K H5 p) :
    ∃ xs, H5 g = some (.lst xs) ∧ xs.length = i ∧ ∀ (q : Addr) (ns : List Int) (H6 : Hp), Same H5 H6 → SqT K H6 q (ns.map V.int) → ns.Perm (rg n) → HI K p g H n (i + 1) (upd H6 g (.lst (xs ++ [.ref q]))) := by
  obtain ⟨xs, hs, hB, hR, e, hE, hl, hp⟩ := h
  have e5 := b _ _ e (Ne.symm hpg)
  refine ⟨xs, e5, hE.len.trans hl, fun q ns H6 s6 hq hpm => ⟨xs ++ [.ref q], hs ++ [ns], ?_, ?_, upd_same, ?_, ?_, ?_⟩⟩
  · exact ((hB.trans b).trans (But.same s6)).fresh hg
  · exact (r.same s6).lst_upd (s6 _ _ e5) hpg
  · have f1 : Fix H1 (upd H6 g (.lst (xs ++ [.ref q]))) := (hR.fix b).trans ((Fix.same s6).trans (Fix.lst (s6 _ _ e5)))
    exact Each.snoc ⟨q, rfl, Fix.tups (Fix.lst (s6 _ _ e5)) _ _ hq⟩ (hE.imp fun _ _ z => z.on f1.tups)
  · rw [List.length_append, hl]
    rfl
  · intro ns' hm
    rcases List.mem_append.mp hm with h1 | h1
    · exact hp _ h1
    · rw [List.mem_singleton.mp h1]
      exact hpm
section
variable {P : Program} {w : World} {K : PySem.W.Frag} {mg : Str → Option Value} {base : Heap}
def spHabit (K : PySem.W.Frag) : Sp := fun vs H Q _ => ∃ (p : Addr) (n : Nat), vs = [.ref p, .int n] ∧ Row K H p ∧ 2 ≤ n ∧ n ≤ 5 ∧ ∀ (H' : Hp) (v : V) (h : List (List Int)), Hb n h → But p H H' → Row K H' p → TII K H' v h → Q v H'
theorem ok_habit (F : Df K mg "_law_habit" st__law_habit ["row", "places"]) (B : Bu mg) (CT : Cal P w K mg base 1 "_law_taken" (spTaken K)) (CO : Cal P w K mg base 2 "_law_order" (spOrder K)) : Cal P w K mg base 3 "_law_habit" (spHabit K) := by
  refine mkCal F sc__law_habit (fun vs H Q E h => ?_) (fun f cdv A outer s H vs Q E hr h => ?_)
  · obtain ⟨p, n, rfl, _⟩ := h
    rfl
  · obtain ⟨p, n, rfl, hR, n2, n5, q⟩ := h
    refine ⟨_, pss_cons (ps_par (i := 2) (j := 3) rfl sc__law_habit.nd rfl rfl (by decide) rfl rfl (pa_cons (pc CT hr (pa_cons (pv 0) (pa_cons pe_int pa_nil))) (pa_cons (pe_lst pa_nil) pa_nil)) rfl)
      (pss_cons (ps_for PassesOwn.never rfl (pi_range1 (by rfl) B.range (pa_cons (pv 1) pa_nil)) (pg_name (i := 4) sc__law_habit.nd rfl (Or.inr rfl))
        (pss_one (ps_if (pt_cmpR op_eq (pv 2) pe_int (nomark _))
          (pss_one (ps_expr (pe_bm PySem.F.plainAttrs_list PySem.F.slot_list_append PySem.F.type_list_append mt_append (pv 3) (pa_cons (pe_tupleOf (by rfl) B.tuple (pe_lc (own := [("spot", 7)]) (g := gName 7) (tt := tYes) rfl sc__law_habit.nd
            (pi_range1 (by rfl) B.range (pa_cons (pv 1) pa_nil)) (blkOk_by (N := ["row", "places", "way", "found", "place", "moved", "other", "spot"]) (sc := defScope st__law_habit) (by decide +kernel)) (fun _ _ _ _ _ => pg_name (i := 7) sc__law_habit.nd rfl (Or.inl rfl))
            (fun _ _ _ _ _ => pts_nil) (fun _ _ _ _ _ => pe_op op_mod (pe_op op_add (pv 7) (pv 4)) (pv 1)))) pa_nil))))
        (pss_one (ps_if (pt_cmpR op_eq (pv 2) pe_int (nomark _))
          (pss_cons (ps_setLc (i := 5) (own := [("spot", 7)]) (g := gName 7) (tt := tYes) rfl sc__law_habit.nd rfl rfl (sw_true rfl rfl rfl (by decide +kernel)) (pi_range1 (by rfl) B.range (pa_cons (pv 1) pa_nil))
            (blkOk_by (N := ["row", "places", "way", "found", "place", "moved", "other", "spot"]) (sc := defScope st__law_habit) (by decide +kernel)) (fun _ _ _ _ _ => pg_name (i := 7) sc__law_habit.nd rfl (Or.inl rfl))
            (fun _ _ _ _ _ => pts_nil) (fun _ _ _ _ _ => pe_op op_add (pv 7) (pe_callTy call_int1 (by rfl) B.int (by decide +kernel) (pa_cons (pe_cmpR op_lt (pv 7) (pv 4) (nomark _)) pa_nil))))
          (pss_one (ps_expr (pe_bm PySem.F.plainAttrs_list PySem.F.slot_list_append PySem.F.type_list_append mt_append (pv 3) (pa_cons (pe_tupleOf (by rfl) B.tuple (pe_op op_cat (pe_op op_cat (pe_slice sl_list (pv 5) po_none (po_some (pv 4))) (pe_lst (pa_cons pe_int pa_nil)))
            (pe_slice sl_list (pv 5) (po_some (pe_op op_add (pv 4) pe_int)) po_none))) pa_nil)))))
        (pss_one (ps_if (pt_cmpR op_eq (pv 2) pe_int (nomark _))
          (pss_cons (ps_set (i := 6) sc__law_habit.nd rfl (.inl rfl) (pe_callB (call_max2 rfl) (by rfl) B.max (by decide +kernel) (pa_cons pe_int (pa_cons (pe_op op_sub (pv 4) pe_int) pa_nil))))
          (pss_cons (ps_set (i := 5) sc__law_habit.nd rfl (.inl rfl) (pe_listRg rfl (by rfl) B.list (prg_1 (by rfl) B.range (pv 1))))
          (pss_cons (ps_asg (pe_tup (pa_cons (pv 6) (pa_cons (pv 4) pa_nil))) (pg_tup rfl (pgs_cons (pg_sub (pv 5) (pv 4) set_list) (pgs_cons (pg_sub (pv 5) (pv 6) set_list) pgs_nil))))
          (pss_one (ps_expr (pe_bm PySem.F.plainAttrs_list PySem.F.slot_list_append PySem.F.type_list_append mt_append (pv 3) (pa_cons (pe_tupleOf (by rfl) B.tuple (pv 5)) pa_nil)))))))
        (pss_one (ps_if (PW.pt (pw_and (pt_cmpR op_eq (pv 2) pe_int (nomark _)) (pw_and1 (pt_cmpR op_eq (pc CT hr (pa_cons (pv 0) (pa_cons pe_int pa_nil))) pe_int (nomark _)))))
          (pss_one (ps_expr (pe_bm PySem.F.plainAttrs_list PySem.F.slot_list_append PySem.F.type_list_append mt_append (pv 3) (pa_cons (pe_tupRg rfl (by rfl) B.tuple (prg_1 (by rfl) B.range (pv 1))) pa_nil))))
          (pss_one (ps_expr (pe_bm PySem.F.plainAttrs_list PySem.F.slot_list_append PySem.F.type_list_append mt_append (pv 3) (pa_cons (pc CO hr (pa_cons (pv 0) (pa_cons (pv 1) pa_nil))) pa_nil))))))))))))) 
      (pss_one (ps_ret (pe_tupleOf (by rfl) B.tuple (pv 3))))), ?_⟩
    refine ⟨_, rfl, p, 5, rfl, hR, by decide, by decide, fun wy H0 w0 w1 hB0 hR0 => ⟨Nat.zero_le _, fun g hg0 => ⟨_, _, rfl, ?_⟩⟩⟩
    have hpg : p ≠ g := hR0.ne hg0
    have hg : H g = none := by
      cases e : H g with
      | none => rfl
      | some o =>
        rw [hB0 _ _ e (Ne.symm hpg)] at hg0
        cases hg0
    refine ⟨_, rfl, n, rfl, by omega, by omega, ?_⟩
    rw [Int.toNat_natCast]
    refine for_range (lo := 0) (n := n) (fun i σ H' => HI K p g H n i H' ∧ ∃ y4 y5 y6 y7, σ = [some (.ref p), some (.int n), some (.int wy), some (.ref g), y4, y5, y6, y7])
      ⟨⟨[], [], hB0.fresh hg, hR0.new hg0, upd_same, .nil, rfl, fun _ hm => absurd hm (List.not_mem_nil)⟩, none, none, none, none, rfl⟩ (fun i σ H1 hi h' => ?_) (fun σ H' h' => ?_)
    · obtain ⟨hI, y4, y5, y6, y7, rfl⟩ := h'
      obtain ⟨pT, pF, pS⟩ := perm_all n (by omega) i hi
      have hR1 : Row K H1 p := hI.choose_spec.choose_spec.2.1
      rw [Int.zero_add]
      refine ⟨_, rfl, rfl, _, rfl, ite2 (fun _ => ?_) (fun _ => ?_)⟩
      · -- turned round
        obtain ⟨xs, e1, xl, st⟩ := hI.step hg hpg (But.refl p H1) hR1
        refine ⟨_, rfl, .inl ⟨rfl, _, lstAt e1⟩, _, rfl, n, rfl, by omega, by omega, fun D hD => ?_⟩
        rw [Int.toNat_natCast]
        refine lc_range (lo := 0) (n := n) (fun j H' => Same H1 H' ∧ H' D = some (.lst (((List.range j).map fun s : Nat => ((s : Int) + (i : Int)) % (n : Int)).map V.int))) ⟨same_new hD, upd_same⟩ (fun j H' hj h' => ?_) (fun H' h' => ?_)
        · obtain ⟨sm, eD⟩ := h'
          refine ⟨rfl, _, rfl, _, rfl, _, _, rfl, rfl, _, rfl, _, n, rfl, rfl, by omega, _, eD, ?_, ?_, ?_⟩
          · rw [List.length_map, List.length_map, List.length_range]
            exact small1000 (by omega)
          · intro b o e
            rw [upd_ne (ne_of_none e hD)]
            exact sm b o e
          · rw [upd_same, range_more, Int.zero_add]
        · obtain ⟨sm, eD⟩ := h'
          refine .inl ⟨D, _, rfl, lstAt eD, fun t ht => ?_⟩
          have sT := sm.trans (same_new (o := .tup ((tF n i).map V.int)) ht)
          refine ⟨g, xs, .ref t, rfl, rfl, sT _ _ e1, small1000 (by omega), st t (tF n i) _ sT (tupAt upd_same) (List.isPerm_iff.mp pT), _, _, _, _, rfl⟩
      · refine ⟨_, rfl, rfl, _, rfl, ite2 (fun _ => ?_) (fun _ => ?_)⟩
        · -- to the front
          refine ⟨_, rfl, n, rfl, by omega, by omega, fun D hD => ?_⟩
          rw [Int.toNat_natCast]
          refine lc_range (lo := 0) (n := n) (fun j H' => Same H1 H' ∧ H' D = some (.lst (((List.range j).map fun s : Nat => (s : Int) + (if decide ((s : Int) < (i : Int)) = true then 1 else 0)).map V.int))) ⟨same_new hD, upd_same⟩ (fun j H' hj h' => ?_) (fun H' h' => ?_)
          · obtain ⟨sm, eD⟩ := h'
            refine ⟨rfl, _, rfl, _, rfl, _, rfl, _, _, rfl, rfl, .inr ⟨_, rfl, _, _, rfl, rfl, _, eD, ?_, ?_, ?_⟩⟩
            · rw [List.length_map, List.length_map, List.length_range]
              exact small1000 (by omega)
            · intro b o e
              rw [upd_ne (ne_of_none e hD)]
              exact sm b o e
            · rw [upd_same, range_more, Int.zero_add]
          · obtain ⟨sm, eD⟩ := h'
            have hR2 := hR1.same sm
            obtain ⟨xs, e1, xl, st⟩ := hI.step hg hpg (But.same sm) hR2
            have hDl : ((List.range n).map fun s : Nat => (s : Int) + (if decide ((s : Int) < (i : Int)) = true then 1 else 0)) = mF n i := rfl
            rw [hDl] at eD
            refine ⟨_, rfl, .inl ⟨rfl, _, lstAt e1⟩, _, rfl, _, rfl, (i : Int), rfl, D, _, rfl, lstAt eD, fun a1 ha1 => ⟨by show 1 ≤ sizeLine; decide, fun a2 ha2 => ?_⟩⟩
            rw [cut_to] at *
            have q1 := same_new (o := .lst (((mF n i).map V.int).take i)) ha1
            have q2 := same_new (o := .lst [.int 0]) ha2
            refine ⟨a1, a2, ((mF n i).map V.int).take i, [.int 0], rfl, rfl, q2 _ _ upd_same, upd_same, ?_, fun a3 ha3 => ?_⟩
            · rw [List.length_take, List.length_map, mF_len]
              exact Nat.le_of_lt (small1000 (by show min i n + 1 ≤ 1000; omega))
            have q3 := same_new (o := .lst (((mF n i).map V.int).take i ++ [.int 0])) ha3
            refine ⟨_, rfl, _, rfl, (i : Int), 1, rfl, rfl, (i : Int) + 1, rfl, D, _, rfl, lstAt (q3 _ _ (q2 _ _ (q1 _ _ eD))), fun a4 ha4 => ?_⟩
            have q4 := same_new (o := .lst (cutV ((mF n i).map V.int) (some ((i : Int) + 1)) none)) ha4
            have ec : cutV ((mF n i).map V.int) (some ((i : Int) + 1)) none = ((mF n i).map V.int).drop (i + 1) := cut_from _ (i + 1)
            refine ⟨a3, a4, _, _, rfl, rfl, q4 _ _ upd_same, upd_same, ?_, fun a5 ha5 => ?_⟩
            · rw [ec, List.length_append, List.length_take, List.length_drop, List.length_map, mF_len]
              exact Nat.le_of_lt (small1000 (by show min i n + 1 + (n - (i + 1)) ≤ 1000; omega))
            have q5 := same_new (o := .lst ((((mF n i).map V.int).take i ++ [.int 0]) ++ cutV ((mF n i).map V.int) (some ((i : Int) + 1)) none)) ha5
            refine .inl ⟨a5, _, rfl, lstAt upd_same, fun t ht => ?_⟩
            have q6 := same_new (o := .tup ((((mF n i).map V.int).take i ++ [.int 0]) ++ cutV ((mF n i).map V.int) (some ((i : Int) + 1)) none)) ht
            have qq := q1.trans (q2.trans (q3.trans (q4.trans (q5.trans q6))))
            have et : ((((mF n i).map V.int).take i ++ [.int 0]) ++ cutV ((mF n i).map V.int) (some ((i : Int) + 1)) none) = (fF n i).map V.int := by
              rw [ec]
              unfold fF
              rw [List.map_append, List.map_append, List.map_take, List.map_drop]
              rfl
            exact ⟨g, xs, .ref t, rfl, rfl, qq _ _ e1, small1000 (by omega), st t (fF n i) _ qq (tupAt (by rw [upd_same, et])) (List.isPerm_iff.mp pF), _, _, _, _, rfl⟩
        · refine ⟨_, rfl, rfl, _, rfl, ite2 (fun _ => ?_) (fun _ => ?_)⟩
          · -- neighbours
            refine ⟨_, rfl, (i : Int), 1, rfl, rfl, 0, (i : Int) - 1, rfl, ?_⟩
            have eo : (if (i : Int) - 1 > 0 then (i : Int) - 1 else 0) = ((i - 1 : Nat) : Int) := by
              split <;> omega
            rw [eo]
            refine ⟨_, rfl, n, rfl, ⟨by omega, by omega, by omega, by omega, by omega⟩, fun m hm => ?_⟩
            rw [rgV_rg] at *
            have hpm : p ≠ m := hR1.ne hm
            have s1 := same_new (o := .lst ((rg n).map V.int)) hm
            refine ⟨_, rfl, _, rfl, by show 2 ≤ sizeLine; decide, fun t ht => ?_⟩
            have s2 := same_new (o := .tup [.int ((i - 1 : Nat) : Int), .int (i : Int)]) ht
            have em := s2 _ _ (upd_same (H := H1) (a := m) (o := .lst ((rg n).map V.int)))
            have ll : ((rg n).map V.int).length = n := by rw [List.length_map, rg_len]
            refine ⟨t, _, rfl, tupAt upd_same, rfl, _, _, rfl, _, rfl, _, rfl, m, _, (i : Int), i, rfl, rfl, em, ?_, ?_⟩
            · have := ixN_int (n := ((rg n).map V.int).length) (k := (i : Int)) (by omega) (by omega)
              exact this
            refine ⟨_, _, rfl, _, rfl, _, rfl, m, _, ((i - 1 : Nat) : Int), i - 1, rfl, rfl, upd_same, ?_, rfl, ?_⟩
            · have := ixN_int (n := (((rg n).map V.int).set i (.int ((i - 1 : Nat) : Int))).length) (k := ((i - 1 : Nat) : Int)) (by omega) (by rw [List.length_set]; omega)
              exact this
            have et : (((rg n).map V.int).set i (.int ((i - 1 : Nat) : Int))).set (i - 1) (.int (i : Int)) = (sF n i).map V.int := by
              unfold sF
              rw [List.map_set, List.map_set]
            rw [et]
            have hR5 := ((hR1.same (s1.trans s2)).lst_upd (o := .lst (((rg n).map V.int).set i (.int ((i - 1 : Nat) : Int)))) em hpm).lst_upd (o := .lst ((sF n i).map V.int)) upd_same hpm
            obtain ⟨xs, e1, xl, st⟩ := hI.step hg hpg (((But.same (s1.trans s2)).fresh (o := .lst (((rg n).map V.int).set i (.int ((i - 1 : Nat) : Int)))) hm).fresh (o := .lst ((sF n i).map V.int)) hm) hR5
            refine ⟨_, rfl, .inl ⟨rfl, _, lstAt e1⟩, _, rfl, .inl ⟨m, _, rfl, lstAt upd_same, fun t2 ht2 => ?_⟩⟩
            have s6 := same_new (o := .tup ((sF n i).map V.int)) ht2
            exact ⟨g, xs, .ref t2, rfl, rfl, s6 _ _ e1, small1000 (by omega), st t2 (sF n i) _ s6 (tupAt upd_same) (List.isPerm_iff.mp pS), _, _, _, _, rfl⟩
          · have any : ∀ H3, But p H1 H3 → Row K H3 p → ∃ xs, H3 g = some (.lst xs) ∧ xs.length = i ∧ ∀ (q : Addr) (ns : List Int) (H6 : Hp), Same H3 H6 → SqT K H6 q (ns.map V.int) → ns.Perm (rg n) → HI K p g H n (i + 1) (upd H6 g (.lst (xs ++ [.ref q]))) := fun H3 b3 r3 => hI.step hg hpg b3 r3
            refine ⟨_, rfl, rfl, _, rfl, ite2 (fun _ => ?_) (fun _ => ?_)⟩
            · refine ⟨_, rfl, p, 2, rfl, hR1, by decide, by decide, fun k H3 k0 k1 hB3 hR3 => ⟨rfl, _, rfl, ite2 (fun _ => ?_) (fun _ => ?_)⟩⟩
              · obtain ⟨xs, e1, xl, st⟩ := any H3 hB3 hR3
                refine ⟨_, rfl, .inl ⟨rfl, _, lstAt e1⟩, _, rfl, n, rfl, ⟨by omega, by omega, by omega, by omega, by omega⟩, fun t ht => ?_⟩
                rw [rgV_rg] at *
                have s6 := same_new (o := .tup ((rg n).map V.int)) ht
                exact ⟨g, xs, .ref t, rfl, rfl, s6 _ _ e1, small1000 (by omega), st t (rg n) _ s6 (tupAt upd_same) (List.Perm.refl _), _, _, _, _, rfl⟩
              · obtain ⟨xs, e1, xl, st⟩ := any H3 hB3 hR3
                refine ⟨_, rfl, .inl ⟨rfl, _, lstAt e1⟩, _, rfl, _, rfl, p, n, rfl, hR3, by omega, fun H4 t ns pm b4 r4 _ e4 => ?_⟩
                obtain ⟨xs', e1', xl', st'⟩ := any H4 (hB3.trans b4) r4
                exact ⟨g, xs', .ref t, rfl, rfl, e1', small1000 (by omega), st' t ns _ (Same.refl H4) (.inl (FT.kx e4)) pm, _, _, _, _, rfl⟩
            · obtain ⟨xs, e1, xl, st⟩ := any H1 (But.refl p H1) hR1
              refine iteF ⟨_, rfl, .inl ⟨rfl, _, lstAt e1⟩, _, rfl, _, rfl, p, n, rfl, hR1, by omega, fun H4 t ns pm b4 r4 _ e4 => ?_⟩
              obtain ⟨xs', e1', xl', st'⟩ := any H4 b4 r4
              exact ⟨g, xs', .ref t, rfl, rfl, e1', small1000 (by omega), st' t ns _ (Same.refl H4) (.inl (FT.kx e4)) pm, _, _, _, _, rfl⟩
    · obtain ⟨⟨xs, hs, hB, hR', e, hE, hl, hp⟩, y4, y5, y6, y7, rfl⟩ := h'
      refine ⟨_, rfl, .inl ⟨g, xs, rfl, lstAt e, fun t ht => q _ _ hs ⟨hl, hp, n2, n5⟩ (hB.trans (But.same (same_new ht))) (hR'.new ht) ⟨t, xs, rfl, tupAt upd_same, hE.imp fun _ _ z => z.on (Same.tups (same_new ht))⟩⟩⟩
end
end RH
set_option Elab.async false
set_option linter.all false
set_option maxRecDepth 100000
set_option maxHeartbeats 2000000
namespace RH
open PySem PySem.Spec PyProof.Rows L2
/-! ### a search level by level, with words -/
abbrev SW := List Int × List Int
def exq (st : Int → List Int → List Int) (ts : List Int) (q : SW) : List SW := (ts).map fun p => (st p q.1, q.2 ++ [p])
def exl (st : Int → List Int → List Int) (ts : List Int) (l : List SW) : List SW := l.flatMap (exq st ts)
/-- those that are new: in no state of F, nor ahead -/
def ddS (F : List (List Int)) (acc : List SW) (q : SW) : List SW := if q.1 ∈ F ∨ q.1 ∈ acc.map Prod.fst then acc else acc ++ [q]
def dd (F : List (List Int)) (l : List SW) : List SW := l.foldl (ddS F) []
theorem dd_app (F : List (List Int)) (l m : List SW) : dd F (l ++ m) = m.foldl (ddS F) (dd F l) := List.foldl_append ..
theorem dd_snoc (F : List (List Int)) (l : List SW) (q : SW) : dd F (l ++ [q]) = ddS F (dd F l) q := dd_app F l [q]
theorem nd_one {α : Type} (a : α) : [a].Nodup := List.nodup_cons.mpr ⟨List.not_mem_nil, List.nodup_nil⟩
theorem snoc_ind {α : Type} {P : List α → Prop} (h0 : P []) (hs : ∀ l q, P l → P (l ++ [q])) : ∀ l, P l := by
  have : ∀ r : List α, P r.reverse := fun r => by
    induction r with
    | nil => exact h0
    | cons a r ih =>
      rw [List.reverse_cons]
      exact hs _ _ ih
  intro l
  have := this l.reverse
  rwa [List.reverse_reverse] at this
theorem ddS_in {F : List (List Int)} {acc : List SW} {q : SW} (h : q.1 ∈ F ∨ q.1 ∈ acc.map Prod.fst) : ddS F acc q = acc := if_pos h
theorem ddS_new {F : List (List Int)} {acc : List SW} {q : SW} (h : ¬ (q.1 ∈ F ∨ q.1 ∈ acc.map Prod.fst)) : ddS F acc q = acc ++ [q] := if_neg h
theorem dd_mono {F : List (List Int)} : ∀ {m acc : List SW} {q : SW}, q ∈ acc → q ∈ m.foldl (ddS F) acc
  | [], _, _, h => h
  | x :: m, acc, q, h => by
    rw [List.foldl_cons]
    refine dd_mono (m := m) ?_
    unfold ddS
    split
    · exact h
    · exact List.mem_append_left _ h
theorem dd_has (F : List (List Int)) : ∀ l : List SW, ∀ q ∈ l, q.1 ∈ F ∨ q.1 ∈ (dd F l).map Prod.fst := by
  refine snoc_ind (fun q hq => nomatch hq) fun l x ih q hq => ?_
  rw [dd_snoc]
  rcases List.mem_append.mp hq with z | z
  · rcases ih q z with y | y
    · exact .inl y
    · refine .inr ?_
      unfold ddS
      split
      · exact y
      · rw [List.map_append]
        exact List.mem_append_left _ y
  · rw [List.mem_singleton.mp z]
    by_cases hx : x.1 ∈ F ∨ x.1 ∈ (dd F l).map Prod.fst
    · rw [ddS_in hx]
      exact hx
    · rw [ddS_new hx, List.map_append]
      exact .inr (List.mem_append_right _ (List.mem_singleton.mpr rfl))
structure DdOk (F : List (List Int)) (l d : List SW) : Prop where
  sub : ∀ q ∈ d, q ∈ l
  new : ∀ q ∈ d, q.1 ∉ F
  nd : (d.map Prod.fst).Nodup
theorem dd_ok (F : List (List Int)) : ∀ l : List SW, DdOk F l (dd F l) := by
  refine snoc_ind ⟨fun q hq => (nomatch hq), fun q hq => (nomatch hq), List.nodup_nil⟩ fun l x ih => ?_
  rw [dd_snoc]
  by_cases hx : x.1 ∈ F ∨ x.1 ∈ (dd F l).map Prod.fst
  · rw [ddS_in hx]
    exact ⟨fun q hq => List.mem_append_left _ (ih.sub q hq), ih.new, ih.nd⟩
  · rw [ddS_new hx]
    refine ⟨fun q hq => ?_, fun q hq => ?_, ?_⟩
    · rcases List.mem_append.mp hq with z | z
      · exact List.mem_append_left _ (ih.sub q z)
      · exact List.mem_append_right _ z
    · rcases List.mem_append.mp hq with z | z
      · exact ih.new q z
      · rw [List.mem_singleton.mp z]
        exact fun y => hx (.inl y)
    · rw [List.map_append, List.nodup_append]
      refine ⟨ih.nd, nd_one _, fun a ha b hb e => ?_⟩
      rw [List.map_singleton, List.mem_singleton] at hb
      rw [e, hb] at ha
      exact hx (.inr ha)
/-- what is found, and the level, behind k levels -/
def bf (st : Int → List Int → List Int) (ts : List Int) (L : List Int) : Nat → List SW × List SW
  | 0 => ([(L, [])], [(L, [])])
  | k + 1 => ((bf st ts L k).1 ++ dd ((bf st ts L k).1.map Prod.fst) (exl st ts (bf st ts L k).2), dd ((bf st ts L k).1.map Prod.fst) (exl st ts (bf st ts L k).2))
def fd (st : Int → List Int → List Int) (ts : List Int) (L : List Int) (k : Nat) : List SW := (bf st ts L k).1
def lv (st : Int → List Int → List Int) (ts : List Int) (L : List Int) (k : Nat) : List SW := (bf st ts L k).2
section
variable {st : Int → List Int → List Int} {ts : List Int} {L : List Int}
theorem fd_succ (k : Nat) : fd st ts L (k + 1) = fd st ts L k ++ lv st ts L (k + 1) := rfl
theorem lv_succ (k : Nat) : lv st ts L (k + 1) = dd ((fd st ts L k).map Prod.fst) (exl st ts (lv st ts L k)) := rfl
theorem fd_mono {k j : Nat} (hk : k ≤ j) {q : SW} (hq : q ∈ fd st ts L k) : q ∈ fd st ts L j := by
  induction hk with
  | refl => exact hq
  | step _ ih => exact List.mem_append_left _ ih
theorem lv_fd {k : Nat} {q : SW} (hq : q ∈ lv st ts L k) : q ∈ fd st ts L k := by
  cases k with
  | zero => exact hq
  | succ k => exact List.mem_append_right _ hq
theorem lv_ex {k : Nat} {q : SW} (hq : q ∈ lv st ts L k) {p : Int} (hp : p ∈ ts) : st p q.1 ∈ (fd st ts L (k + 1)).map Prod.fst := by
  have hm : (st p q.1, q.2 ++ [p]) ∈ exl st ts (lv st ts L k) := List.mem_flatMap.mpr ⟨q, hq, List.mem_map.mpr ⟨p, hp, rfl⟩⟩
  rw [fd_succ, List.map_append, List.mem_append]
  exact dd_has _ _ _ hm
theorem fd_ex {q : SW} {p : Int} (hp : p ∈ ts) : ∀ {k : Nat}, q ∈ fd st ts L k → st p q.1 ∈ (fd st ts L (k + 1)).map Prod.fst
  | 0, hq => lv_ex (k := 0) hq hp
  | k + 1, hq => by
    rw [fd_succ, List.mem_append] at hq
    rcases hq with hq | hq
    · have := fd_ex hp hq
      rw [fd_succ (k + 1), List.map_append, List.mem_append]
      exact .inl this
    · exact lv_ex hq hp
theorem exl_len {l : List SW} {k : Nat} (hl : ∀ q ∈ l, q.2.length = k) : ∀ q ∈ exl st ts l, q.2.length = k + 1 := fun q hq => by
  obtain ⟨x, hx, hq⟩ := List.mem_flatMap.mp hq
  obtain ⟨p, _, rfl⟩ := List.mem_map.mp hq
  rw [List.length_append, hl x hx]
  rfl
theorem lv_len : ∀ k : Nat, ∀ q ∈ lv st ts L k, q.2.length = k
  | 0, q, hq => by
    rw [List.mem_singleton.mp hq]
    rfl
  | k + 1, q, hq => exl_len (lv_len k) q ((dd_ok _ _).sub q hq)
theorem fd_len : ∀ k : Nat, ∀ q ∈ fd st ts L k, q.2.length ≤ k
  | 0, q, hq => by
    rw [List.mem_singleton.mp hq]
    exact Nat.le_refl _
  | k + 1, q, hq => by
    rw [fd_succ, List.mem_append] at hq
    rcases hq with hq | hq
    · exact Nat.le_succ_of_le (fd_len k q hq)
    · exact Nat.le_of_eq (lv_len (k + 1) q hq)
theorem fd_nd : ∀ k : Nat, ((fd st ts L k).map Prod.fst).Nodup
  | 0 => nd_one _
  | k + 1 => by
    rw [fd_succ, List.map_append, List.nodup_append]
    refine ⟨fd_nd k, (dd_ok _ _).nd, fun a ha b hb e => ?_⟩
    obtain ⟨x, hx, rfl⟩ := List.mem_map.mp hb
    exact (dd_ok _ _).new x hx (e ▸ ha)
theorem lv_done {a : Nat} (e : lv st ts L a = []) : ∀ j : Nat, lv st ts L (a + j) = [] ∧ fd st ts L (a + j) = fd st ts L a
  | 0 => ⟨e, rfl⟩
  | j + 1 => by
    obtain ⟨h1, h2⟩ := lv_done e j
    have h3 : lv st ts L (a + j + 1) = [] := by
      rw [lv_succ, h1]
      rfl
    refine ⟨h3, ?_⟩
    show fd st ts L (a + j + 1) = _
    rw [fd_succ, h3, List.append_nil, h2]
theorem fd_all {a k : Nat} (ha : lv st ts L a = []) {q : SW} (hq : q ∈ fd st ts L k) : q ∈ fd st ts L a := by
  rcases Nat.le_total k a with z | z
  · exact fd_mono z hq
  · obtain ⟨j, rfl⟩ := Nat.exists_eq_add_of_le z
    rw [← (lv_done ha j).2]
    exact hq
theorem fd_start (k : Nat) : (L, []) ∈ fd st ts L k := fd_mono (Nat.zero_le k) (List.mem_singleton.mpr rfl)
theorem fd_least {C : List Int → Prop} (h0 : C L) (hs : ∀ s, C s → ∀ p ∈ ts, C (st p s)) : ∀ k : Nat, ∀ q ∈ fd st ts L k, C q.1
  | 0, q, hq => by
    rw [List.mem_singleton.mp hq]
    exact h0
  | k + 1, q, hq => by
    rw [fd_succ, List.mem_append] at hq
    rcases hq with hq | hq
    · exact fd_least h0 hs k q hq
    · have := (dd_ok _ _).sub q hq
      obtain ⟨x, hx, hq⟩ := List.mem_flatMap.mp this
      obtain ⟨p, hp, rfl⟩ := List.mem_map.mp hq
      exact hs _ (fd_least h0 hs k x (lv_fd hx)) p hp
end
theorem nd_len {α : Type} [DecidableEq α] : ∀ {l m : List α}, l.Nodup → (∀ x ∈ l, x ∈ m) → l.length ≤ m.length
  | [], _, _, _ => Nat.zero_le _
  | a :: l, m, nd, hs => by
    rw [List.nodup_cons] at nd
    have ha := hs a (List.mem_cons_self ..)
    have := nd_len (l := l) (m := m.erase a) nd.2 fun x hx => (List.mem_erase_of_ne (fun e => nd.1 (by rw [← e]; exact hx))).mpr (hs x (List.mem_cons_of_mem _ hx))
    rw [List.length_erase_of_mem ha] at this
    have hm := List.length_pos_of_mem ha
    rw [List.length_cons]
    omega
theorem nd_full {α : Type} [DecidableEq α] {l m : List α} (nd : l.Nodup) (hs : ∀ x ∈ l, x ∈ m) (hl : m.length ≤ l.length) : ∀ x ∈ m, x ∈ l := fun x hx => by
  by_cases h : x ∈ l
  · exact h
  · have := nd_len (l := x :: l) (m := m) (List.nodup_cons.mpr ⟨h, nd⟩) fun y hy => by
      rcases List.mem_cons.mp hy with rfl | hy
      · exact hx
      · exact hs y hy
    rw [List.length_cons] at this
    omega
/-- what is new behind m expansions of the k-th level -/
def prt (st : Int → List Int → List Int) (ts : List Int) (L : List Int) (k m : Nat) : List SW := dd ((fd st ts L k).map Prod.fst) ((exl st ts (lv st ts L k)).take m)
section
variable {st : Int → List Int → List Int} {ts : List Int} {L : List Int}
theorem exl_cons (q : SW) (l : List SW) : exl st ts (q :: l) = exq st ts q ++ exl st ts l := rfl
theorem prt_zero (k : Nat) : prt st ts L k 0 = [] := by
  unfold prt
  rw [List.take_zero]
  rfl
theorem exq_len (q : SW) : (exq st ts q).length = ts.length := List.length_map ..
theorem exl_length : ∀ l : List SW, (exl st ts l).length = l.length * ts.length
  | [] => by
    rw [List.length_nil, Nat.zero_mul]
    rfl
  | q :: l => by
    rw [exl_cons, List.length_append, exq_len, exl_length l, List.length_cons, Nat.succ_mul, Nat.add_comm]
theorem exl_at : ∀ {l : List SW} {i j : Nat} {q : SW} {p : Int}, l[i]? = some q → ts[j]? = some p → (exl st ts l)[i * ts.length + j]? = some (st p q.1, q.2 ++ [p])
  | [], _, _, _, _, e, _ => by simp at e
  | a :: l, 0, j, q, p, e, hj => by
    cases Option.some.inj e
    rw [exl_cons, Nat.zero_mul, Nat.zero_add, List.getElem?_append_left (by rw [exq_len]; exact (List.getElem?_eq_some_iff.mp hj).1)]
    unfold exq
    rw [List.getElem?_map, hj]
    rfl
  | a :: l, i + 1, j, q, p, e, hj => by
    rw [exl_cons, List.getElem?_append_right (by rw [exq_len, Nat.succ_mul]; omega), exq_len, show (i + 1) * ts.length + j - ts.length = i * ts.length + j by rw [Nat.succ_mul]; omega]
    exact exl_at (l := l) (i := i) e hj
theorem prt_all (k : Nat) : prt st ts L k ((lv st ts L k).length * ts.length) = lv st ts L (k + 1) := by
  unfold prt
  rw [← exl_length, List.take_length, lv_succ]
theorem prt_old {k i j : Nat} {q : SW} {p : Int} (hq : (lv st ts L k)[i]? = some q) (hj : ts[j]? = some p) (hk : st p q.1 ∈ (fd st ts L k ++ prt st ts L k (i * ts.length + j)).map Prod.fst) : prt st ts L k (i * ts.length + j + 1) = prt st ts L k (i * ts.length + j) := by
  unfold prt at hk ⊢
  rw [take_more (exl_at hq hj), dd_snoc, ddS_in]
  rw [List.map_append, List.mem_append] at hk
  exact hk
theorem prt_new {k i j : Nat} {q : SW} {p : Int} (hq : (lv st ts L k)[i]? = some q) (hj : ts[j]? = some p) (hk : st p q.1 ∉ (fd st ts L k ++ prt st ts L k (i * ts.length + j)).map Prod.fst) :
    prt st ts L k (i * ts.length + j + 1) = prt st ts L k (i * ts.length + j) ++ [(st p q.1, q.2 ++ [p])] := by
  unfold prt at hk ⊢
  rw [take_more (exl_at hq hj), dd_snoc, ddS_new]
  rw [List.map_append, List.mem_append] at hk
  exact hk
theorem prt_sub {k m : Nat} {q : SW} (hq : q ∈ prt st ts L k m) : q ∈ lv st ts L (k + 1) := by
  rw [lv_succ, ← List.take_append_drop m (exl st ts (lv st ts L k)), dd_app]
  exact dd_mono hq
theorem prt_fd {k m : Nat} {q : SW} (hq : q ∈ fd st ts L k ++ prt st ts L k m) : q ∈ fd st ts L (k + 1) := by
  rcases List.mem_append.mp hq with z | z
  · exact List.mem_append_left _ z
  · exact lv_fd (prt_sub z)
theorem prt_nd (k m : Nat) : ((fd st ts L k ++ prt st ts L k m).map Prod.fst).Nodup := by
  rw [List.map_append, List.nodup_append]
  refine ⟨fd_nd k, (dd_ok _ _).nd, fun a ha b hb e => ?_⟩
  obtain ⟨x, hx, rfl⟩ := List.mem_map.mp hb
  exact (dd_ok _ _).new x hx (e ▸ ha)
/-- how far the search is from its end -/
def mea (st : Int → List Int → List Int) (ts : List Int) (L : List Int) (k : Nat) : Nat := 2 * (120 - (fd st ts L k).length) + (if lv st ts L k = [] then 0 else 1)
end
/-! ### few states -/
/-- the states are of C, of which there are few -/
structure Sys (st : Int → List Int → List Int) (ts : List Int) (C : List Int → Prop) (U : List (List Int)) : Prop where
  go : ∀ s, C s → ∀ p ∈ ts, C (st p s)
  few : ∀ s, C s → s ∈ U
  num : U.length ≤ 120
  len : ∀ s, C s → s.length ≤ 1000
  tl : ts.length ≤ 1000
/-- the state behind a word -/
def rn (st : Int → List Int → List Int) (L w : List Int) : List Int := w.foldl (fun s p => st p s) L
theorem rn_snoc (st : Int → List Int → List Int) (L w : List Int) (p : Int) : rn st L (w ++ [p]) = st p (rn st L w) := by
  unfold rn
  rw [List.foldl_append]
  rfl
section
variable {st : Int → List Int → List Int} {ts : List Int} {L : List Int} {C : List Int → Prop} {U : List (List Int)}
theorem Sys.fd_C (q : Sys st ts C U) (hL : C L) (k : Nat) : ∀ x ∈ fd st ts L k, C x.1 := fd_least hL q.go k
theorem Sys.cnt (q : Sys st ts C U) {l : List SW} (nd : (l.map Prod.fst).Nodup) (hp : ∀ x ∈ l, C x.1) : l.length ≤ 120 := by
  have := nd_len nd (m := U) fun s hs => by
    obtain ⟨x, hx, rfl⟩ := List.mem_map.mp hs
    exact q.few _ (hp x hx)
  rw [List.length_map] at this
  exact Nat.le_trans this q.num
theorem Sys.prt_few (q : Sys st ts C U) (hL : C L) (k m : Nat) : (fd st ts L k ++ prt st ts L k m).length ≤ 120 :=
  q.cnt (prt_nd k m) fun x hx => q.fd_C hL (k + 1) x (prt_fd hx)
theorem Sys.fd_few (q : Sys st ts C U) (hL : C L) (k : Nat) : (fd st ts L k).length ≤ 120 := q.cnt (fd_nd k) (q.fd_C hL k)
theorem Sys.lv_C (q : Sys st ts C U) (hL : C L) (k : Nat) : ∀ x ∈ lv st ts L k, C x.1 := fun x hx => q.fd_C hL k x (lv_fd hx)
theorem Sys.mea_less (q : Sys st ts C U) (hL : C L) {k : Nat} (e : lv st ts L k ≠ []) : mea st ts L (k + 1) < mea st ts L k := by
  unfold mea
  rw [if_neg e, fd_succ, List.length_append]
  have h1 := q.fd_few hL (k + 1)
  rw [fd_succ, List.length_append] at h1
  by_cases z : lv st ts L (k + 1) = []
  · rw [if_pos z, z, List.length_nil]
    omega
  · rw [if_neg z]
    have : 0 < (lv st ts L (k + 1)).length := List.length_pos_iff.mpr z
    omega
theorem low : ∀ k : Nat, lv st ts L k ≠ [] → k + 1 ≤ (fd st ts L k).length
  | 0, _ => Nat.le_refl _
  | k + 1, e => by
    have e1 : lv st ts L k ≠ [] := fun z => e (by rw [lv_succ, z]; rfl)
    have := low k e1
    have h2 : 0 < (lv st ts L (k + 1)).length := List.length_pos_iff.mpr e
    rw [fd_succ, List.length_append]
    omega
/-- what is found is come to by its word -/
theorem fd_rn : ∀ k : Nat, ∀ q ∈ fd st ts L k, rn st L q.2 = q.1 ∧ ∀ p ∈ q.2, p ∈ ts
  | 0, q, hq => by
    rw [List.mem_singleton.mp hq]
    exact ⟨rfl, fun _ z => nomatch z⟩
  | k + 1, q, hq => by
    rw [fd_succ, List.mem_append] at hq
    rcases hq with hq | hq
    · exact fd_rn k q hq
    · have := (dd_ok _ _).sub q hq
      obtain ⟨x, hx, hq⟩ := List.mem_flatMap.mp this
      obtain ⟨p, hp, rfl⟩ := List.mem_map.mp hq
      obtain ⟨h1, h2⟩ := fd_rn k x (lv_fd hx)
      refine ⟨by rw [rn_snoc, h1], fun r hr => ?_⟩
      rcases List.mem_append.mp hr with z | z
      · exact h2 r z
      · rw [List.mem_singleton.mp z]
        exact hp
/-- what a word leads to is found -/
theorem rn_fd : ∀ w : List Int, (∀ p ∈ w, p ∈ ts) → rn st L w ∈ (fd st ts L w.length).map Prod.fst := by
  refine snoc_ind (fun _ => List.mem_map.mpr ⟨_, fd_start 0, rfl⟩) fun w p ih h => ?_
  obtain ⟨x, hx, e⟩ := List.mem_map.mp (ih fun r hr => h r (List.mem_append_left _ hr))
  rw [rn_snoc, ← e, List.length_append]
  exact fd_ex (h p (List.mem_append_right _ (List.mem_singleton.mpr rfl))) hx
theorem rn_all {a : Nat} (ha : lv st ts L a = []) {w : List Int} (h : ∀ p ∈ w, p ∈ ts) : ∃ x ∈ fd st ts L a, x.1 = rn st L w := by
  obtain ⟨x, hx, e⟩ := List.mem_map.mp (rn_fd (st := st) (L := L) w h)
  exact ⟨x, fd_all ha hx, e⟩
/-- a least one of some -/
structure Lst1 (st : Int → List Int → List Int) (ts L : List Int) (gp : List Int → Bool) (w : List Int) : Prop where
  wd : ∀ p ∈ w, p ∈ ts
  at_ : gp (rn st L w) = true
  min : ∀ v : List Int, (∀ p ∈ v, p ∈ ts) → gp (rn st L v) = true → w.length ≤ v.length
theorem lst1_of {gp : List Int → Bool} {k : Nat} {s w : List Int} (hm : (s, w) ∈ fd st ts L (k + 1)) (hg : gp s = true) (hlo : ∀ x ∈ fd st ts L k, gp x.1 = false) : Lst1 st ts L gp w := by
  obtain ⟨h1, h2⟩ := fd_rn (k + 1) _ hm
  refine ⟨h2, by rw [h1]; exact hg, fun v hv hgv => ?_⟩
  rcases Nat.lt_or_ge v.length (k + 1) with z | z
  · exfalso
    obtain ⟨x, hx, e⟩ := List.mem_map.mp (rn_fd (st := st) (L := L) v hv)
    have := hlo x (fd_mono (by omega) hx)
    rw [e, hgv] at this
    cases this
  · have h3 : w.length ≤ k + 1 := fd_len (k + 1) _ hm
    omega
end
end RH
set_option Elab.async false
set_option linter.all false
set_option maxRecDepth 100000
set_option maxHeartbeats 2000000
namespace RH
open PySem PySem.Spec PyProof.Rows L2
open NdefX (NScope CellsAt Caps slotAt cells_of startF ncx)
/-! ### the search for depths -/
/-- tuples stay -/
def TK (H H' : Hp) : Prop := ∀ b xs, Rd H b (.tup xs) → Rd H' b (.tup xs)
theorem TK.refl (H : Hp) : TK H H := fun _ _ e => e
theorem TK.trans {H H1 H2 : Hp} (a : TK H H1) (b : TK H1 H2) : TK H H2 := fun c xs e => b c xs (a c xs e)
theorem TK.same {H H1 : Hp} (a : Same H H1) : TK H H1 := fun c xs e => by
  rcases e with e | ⟨o, e⟩
  · exact .inl (a c _ e)
  · exact .inr ⟨o, a c _ e⟩
/-- what holds no tuple -/
def NoT (o : HO) : Prop := (∀ xs, o ≠ .tup xs) ∧ ∀ ob u, o ≠ .frz ob u
theorem TK.upd {H : Hp} {p : Addr} {o o' : HO} (h : H p = some o) (n : NoT o) : TK H (upd H p o') := fun b xs e => by
  by_cases z : b = p
  · subst z
    rcases e with e | ⟨ob, e⟩
    · rw [h] at e
      exact absurd (Option.some.inj e) (n.1 xs)
    · rw [h] at e
      exact absurd (Option.some.inj e) (n.2 ob _)
  · rcases e with e | ⟨ob, e⟩
    · exact .inl (by rw [upd_ne z]; exact e)
    · exact .inr ⟨ob, by rw [upd_ne z]; exact e⟩
theorem EX.on {H H' : Hp} {xs : List V} {ls : List (List Int)} (e : TK H H') (h : EX H xs ls) : EX H' xs ls := h.imp fun b s z => e b _ z
theorem KB.on {H H' : Hp} {as : List (List Int × V)} {bs : List Addr} (e : TK H H') (h : KB H as bs) : KB H' as bs := h.imp fun b s z => e b _ z
theorem Same.upd {H H' : Hp} {p : Addr} {o : HO} (a : Same H H') (h : H p = none) : Same H (upd H' p o) := fun b u e => by
  rw [upd_ne (ne_of_none e h)]
  exact a b u e
theorem not_tup_l {xs : List V} : NoT (.lst xs) := ⟨fun _ z => (nomatch z), fun _ _ z => (nomatch z)⟩
theorem not_tup_d {φ : Heap → Prop} : NoT (.ext φ) := ⟨fun _ z => (nomatch z), fun _ _ z => (nomatch z)⟩
section
variable {P : Program} {w : World} {K : PySem.W.Frag} {mg : Str → Option Value} {base : Heap}
theorem fst_snoc {bs : List (List Int × V)} {ls : List SW} {x : List Int × V} {y : SW} (h : bs.map Prod.fst = ls.map Prod.fst) (e : x.1 = y.1) : (bs ++ [x]).map Prod.fst = (ls ++ [y]).map Prod.fst := by
  rw [List.map_append, List.map_append, h, List.map_singleton, List.map_singleton, e]
/-- what stands within a level -/
def MidB (P : Program) (w : World) (H : Hp) (st : Int → List Int → List Int) (ts : List Int) (L : List Int) (R : Hp → List SW → List (List Int × V) → Prop) (k : Nat) (d l u : Addr) (xs : List V) (i j : Nat) (H' : Hp) : Prop :=
  ∃ (as : List (List Int × V)) (ks : List Addr) (us : List V), Same H H' ∧ H' d = some (DE P w as ks d) ∧ KB H' as ks ∧ as.map Prod.fst = (fd st ts L k ++ prt st ts L k (i * ts.length + j)).map Prod.fst ∧ R H' (fd st ts L k ++ prt st ts L k (i * ts.length + j)) as ∧
    H' l = some (.lst xs) ∧ EX H' xs ((lv st ts L k).map Prod.fst) ∧ H' u = some (.lst us) ∧ EX H' us ((prt st ts L k (i * ts.length + j)).map Prod.fst)
theorem lv_row {st : Int → List Int → List Int} {ts : List Int} {L : List Int} {k i : Nat} {xs : List V} {x : V} {H : Hp} (hE : EX H xs ((lv st ts L k).map Prod.fst)) (hx : xs[i]? = some x) : ∃ (q : SW) (b : Addr), (lv st ts L k)[i]? = some q ∧ x = .ref b ∧ KX H b q.1 := by
  have hi : i < (lv st ts L k).length := by
    have h1 := (List.getElem?_eq_some_iff.mp hx).1
    rw [hE.len, List.length_map] at h1
    exact h1
  have hq : (lv st ts L k)[i]? = some (lv st ts L k)[i] := List.getElem?_eq_getElem hi
  have hs : ((lv st ts L k).map Prod.fst)[i]? = some ((lv st ts L k)[i]).1 := by
    rw [List.getElem?_map, hq]
    rfl
  obtain ⟨b, h1, h2⟩ := hE.at hs
  rw [hx] at h1
  exact ⟨_, b, hq, Option.some.inj h1, h2⟩
theorem MidB.row {P : Program} {w : World} {H H' : Hp} {st : Int → List Int → List Int} {ts : List Int} {L : List Int} {R : Hp → List SW → List (List Int × V) → Prop} {k : Nat} {d l u : Addr} {xs : List V} {i : Nat} (m : MidB P w H st ts L R k d l u xs i ts.length H') : MidB P w H st ts L R k d l u xs (i + 1) 0 H' := by
  unfold MidB at m ⊢
  rw [show (i + 1) * ts.length + 0 = i * ts.length + ts.length by rw [Nat.succ_mul]; rfl]
  exact m
end
/-! ### the way back, the least word -/
theorem nd_val {s w w' : List Int} : ∀ {l : List SW}, (l.map Prod.fst).Nodup → (s, w) ∈ l → (s, w') ∈ l → w = w'
  | [], _, z, _ => nomatch z
  | x :: l, nd, a, b => by
    rw [List.map_cons, List.nodup_cons] at nd
    rcases List.mem_cons.mp a with e1 | a
    · rcases List.mem_cons.mp b with e2 | b
      · rw [← e1] at e2
        exact (Prod.mk.inj e2).2.symm
      · rw [← e1] at nd
        exact absurd (List.mem_map.mpr ⟨_, b, rfl⟩) nd.1
    · rcases List.mem_cons.mp b with e2 | b
      · rw [← e2] at nd
        exact absurd (List.mem_map.mpr ⟨_, a, rfl⟩) nd.1
      · exact nd_val nd.2 a b
/-- from where each state was come to -/
def CW (L : List Int) (H : Hp) (l : List SW) (as : List (List Int × V)) : Prop := as.map Prod.fst = l.map Prod.fst ∧ ∀ q ∈ as, (q.1 = L ∧ q.2 = .non ∧ (L, []) ∈ l) ∨
  ∃ (t b : Addr) (p : Int) (s' w' : List Int), q.2 = .ref t ∧ Rd H t (.tup [.ref b, .int p]) ∧ KX H b s' ∧ (s', w') ∈ l ∧ (q.1, w' ++ [p]) ∈ l
theorem CW.on {L : List Int} {H H' : Hp} {l : List SW} {as : List (List Int × V)} (e : TK H H') (c : CW L H l as) : CW L H' l as := ⟨c.1, fun q hq => by
  rcases c.2 q hq with z | ⟨t, b, p, s', w', h1, h2, h3, h4⟩
  · exact .inl z
  · exact .inr ⟨t, b, p, s', w', h1, e _ _ h2, e _ _ h3, h4⟩⟩
theorem CW.snoc {L : List Int} {H : Hp} {l : List SW} {as : List (List Int × V)} {s s' w' : List Int} {t b : Addr} {p : Int} (c : CW L H l as) (h2 : Rd H t (.tup [.ref b, .int p])) (h3 : KX H b s') (h4 : (s', w') ∈ l) : CW L H (l ++ [(s, w' ++ [p])]) (as ++ [(s, .ref t)]) := by
  refine ⟨fst_snoc c.1 rfl, fun q hq => ?_⟩
  rcases List.mem_append.mp hq with hq | hq
  · rcases c.2 q hq with ⟨z1, z2, z3⟩ | ⟨t, b, p, s', w', h1, h2, h3, h4, h5⟩
    · exact .inl ⟨z1, z2, List.mem_append_left _ z3⟩
    · exact .inr ⟨t, b, p, s', w', h1, h2, h3, List.mem_append_left _ h4, List.mem_append_left _ h5⟩
  · rw [List.mem_singleton.mp hq]
    exact .inr ⟨t, b, p, s', w', rfl, h2, h3, List.mem_append_left _ h4, List.mem_append_right _ (List.mem_singleton.mpr rfl)⟩
theorem fns : ∀ {as : List (List Int × V)} {s : List Int} {v w : V}, (as.map Prod.fst).Nodup → (s, v) ∈ as → (s, w) ∈ as → v = w
  | q :: as, s, v, w, nd, h1, h2 => by
    rw [List.map_cons, List.nodup_cons] at nd
    rcases List.mem_cons.mp h1 with e1 | h1
    · rcases List.mem_cons.mp h2 with e2 | h2
      · exact (Prod.mk.inj (e1.trans e2.symm)).2
      · rw [← e1] at nd
        exact absurd (List.mem_map.mpr ⟨_, h2, rfl⟩) nd.1
    · rcases List.mem_cons.mp h2 with e2 | h2
      · rw [← e2] at nd
        exact absurd (List.mem_map.mpr ⟨_, h1, rfl⟩) nd.1
      · exact fns nd.2 h1 h2
theorem ref_non (t : Addr) : decide (V.ref t = V.non) = false := decide_eq_false fun z => nomatch z
section
variable {P : Program} {w : World} {K : PySem.W.Frag} {mg : Str → Option Value} {base : Heap}
def spTraced (P : Program) (w : World) : Sp := fun vs H Q _ => ∃ (c b : Addr) (as : List (List Int × V)) (ks : List Addr) (s L wd : List Int) (l : List SW), vs = [.ref c, .ref b] ∧ H c = some (DE P w as ks c) ∧ KB H as ks ∧ KX H b s ∧ (l.map Prod.fst).Nodup ∧ CW L H l as ∧ (s, wd) ∈ l ∧ wd.length ≤ 1000 ∧
  ∀ (H' : Hp) (q : Addr), Same H H' → H' q = some (.tup (wd.map V.int)) → Q (.ref q) H'
theorem ok_traced (F : Df K mg "traced" st_traced ["came", "state"]) (B : Bu mg) : Cal P w K mg base 1 "traced" (spTraced P w) := by
  refine mkCal F sc_traced (fun vs H Q E h => ?_) (fun f cdv A outer s H vs Q E hr h => ?_)
  · obtain ⟨c, b, as, ks, s, L, wd, l, rfl, _⟩ := h
    rfl
  · obtain ⟨c, b, as, ks, s, L, wd, sl, rfl, hc, hkb, hb, hnd, hR, hs, hd, q⟩ := h
    refine ⟨_, pss_cons (ps_set (i := 2) sc_traced.nd rfl (.inl rfl) (pe_lst pa_nil))
      (pss_cons (ps_while PassesOwn.never (pt_cmp (pc_notN (pe_dgetE (hu_of hr) (pv 0) (pv 1) (fun _ _ => rfl))))
        (pss_cons (ps_asg (pe_dgetE (hu_of hr) (pv 0) (pv 1) (fun _ _ => rfl)) (pg_tup rfl (pgs_cons (pg_name (i := 1) sc_traced.nd rfl (Or.inl rfl)) (pgs_cons (pg_name (i := 3) sc_traced.nd rfl (Or.inl rfl)) pgs_nil))))
        (pss_one (ps_expr (pe_bm PySem.F.plainAttrs_list PySem.F.slot_list_append PySem.F.type_list_append mt_append (pv 2) (pa_cons (pv 3) pa_nil))))))
      (pss_cons (ps_expr (pe_bm0 PySem.F.plainAttrs_list PySem.F.slot_list_reverse PySem.F.type_list_reverse mt_reverse (pv 2)))
      (pss_one (ps_ret (pe_tupleOf (by rfl) B.tuple (pv 2)))))), ?_⟩
    have hnd2 : (as.map Prod.fst).Nodup := by rw [hR.1]; exact hnd
    have has : ∀ {x y : List Int}, (x, y) ∈ sl → x ∈ as.map Prod.fst := fun hx => by
      rw [hR.1]
      exact List.mem_map.mpr ⟨_, hx, rfl⟩
    refine ⟨Nat.zero_le _, fun l hl => ?_⟩
    refine ⟨fun m σ H' => ∃ (b' : Addr) (s' w' ws : List Int), m = w'.length ∧ (∃ y, σ = [some (.ref c), some (.ref b'), some (.ref l), y]) ∧ Same H H' ∧ KX H' b' s' ∧ (s', w') ∈ sl ∧ H' l = some (.lst (ws.map V.int)) ∧ wd = w' ++ ws.reverse,
      ⟨wd.length, b, s, wd, [], rfl, ⟨none, rfl⟩, same_new hl, TK.same (same_new hl) _ _ hb, hs, upd_same, (List.append_nil _).symm⟩, ?_⟩
    rintro m σ H1 ⟨b', s', w', ws, rfl, ⟨y, rfl⟩, sm, eb, hs', eL, hlen⟩
    have hkb1 := hkb.on (TK.same sm)
    have hl2 : wd.length = w'.length + ws.length := by rw [hlen, List.length_append, List.length_reverse]
    refine ⟨_, rfl, _, rfl, c, b', as, ks, s', rfl, rfl, sm _ _ hc, hkb1, eb, has hs', fun v hvm => ⟨_, rfl, ?_⟩⟩
    rcases hR.2 _ hvm with ⟨e1, e2, e3⟩ | ⟨t, b2, p, s2, w2, e1, h2, h3, h4, h5⟩
    · have e2 : v = .non := e2
      have e1' : s' = L := e1
      subst e2
      have ew : w' = [] := nd_val hnd hs' (by rw [e1']; exact e3)
      refine ifF rfl ⟨_, rfl, .inl ⟨rfl, _, lstAt eL⟩, l, _, rfl, rfl, eL, ?_⟩
      have el : (upd H1 l (.lst (ws.map V.int).reverse)) l = some (.lst (ws.map V.int).reverse) := upd_same
      refine ⟨_, rfl, .inl ⟨l, _, rfl, lstAt el, fun r hr2 => q _ r ((Same.upd sm hl).trans (same_new hr2)) ?_⟩⟩
      rw [upd_same, hlen, ew, List.nil_append, List.map_reverse]
    · have e1 : v = .ref t := e1
      subst e1
      have h5 : (s', w2 ++ [p]) ∈ sl := h5
      have ew : w' = w2 ++ [p] := nd_val hnd hs' h5
      have ewl : w'.length = w2.length + 1 := by rw [ew, List.length_append]; rfl
      refine ifT (by rw [ref_non]; rfl) ⟨fun σ' H' => ∃ m', m' < w'.length ∧ ∃ (b' : Addr) (s' w' ws : List Int), m' = w'.length ∧ (∃ y, σ' = [some (.ref c), some (.ref b'), some (.ref l), y]) ∧ Same H H' ∧ KX H' b' s' ∧ (s', w') ∈ sl ∧ H' l = some (.lst (ws.map V.int)) ∧ wd = w' ++ ws.reverse, fun _ _ h => h, ?_⟩
      refine ⟨_, rfl, _, rfl, c, b', as, ks, s', rfl, rfl, sm _ _ hc, hkb1, eb, has hs', fun v2 hvm2 => ?_⟩
      have ev2 : v2 = .ref t := fns hnd2 hvm2 hvm
      subst ev2
      refine ⟨t, _, rfl, .inl (TK.same sm _ _ h2), rfl, _, _, rfl, _, _, rfl, rfl, ?_⟩
      refine ⟨_, rfl, .inl ⟨rfl, _, lstAt eL⟩, _, rfl, l, _, .int p, rfl, rfl, eL, by rw [List.length_map]; exact small1000 (by omega), ?_⟩
      refine ⟨w2.length, by omega, b2, s2, w2, ws ++ [p], rfl, ⟨_, rfl⟩, Same.upd sm hl, ?_, h4, ?_, ?_⟩
      · exact TK.upd eL not_tup_l _ _ (TK.same sm _ _ h3)
      · rw [upd_same, List.map_append]
        rfl
      · rw [hlen, ew, List.reverse_append, List.append_assoc]
        rfl
end
theorem none_of {H H' : Hp} {p : Addr} (a : Same H H') (h : H' p = none) : H p = none := by
  cases e : H p with
  | none => rfl
  | some o =>
    rw [a _ _ e] at h
    cases h
theorem FT.same {H H' : Hp} {b : Addr} {s : List Int} (e : Same H H') (h : FT H b s) : FT H' b s := let ⟨ob, h1, h2⟩ := h; ⟨ob, e _ _ h1, h2⟩
theorem FT.fix {H H' : Hp} {b : Addr} {s : List Int} (f : Fix H H') (h : FT H b s) : FT H' b s := let ⟨ob, h1, h2⟩ := h; ⟨ob, f _ _ h1 (fun xs z => nomatch z), h2⟩
theorem eqv_tup (ns ms : List Int) : PyData.eqv (.tuple (ns.map PyData.int)) (.tuple (ms.map PyData.int)) = decide (ns = ms) := by
  rw [PyData.eqv]
  exact PySem.W.ked_eqvAll ns ms
theorem slT_to {K : PySem.W.Frag} {H : Hp} {a : Addr} {xs : List V} {Q : VK} (z : Int) (k : Nat) (hz : z = (k : Int)) (h : SqT K H a xs) (q : ∀ b H2, Same H H2 → SqT K H2 b (xs.take k) → Q (.ref b) H2) : rSlA K (.ref a) none (some z) H Q := by
  subst hz
  refine ⟨a, xs, rfl, h, fun hf => q a H (Same.refl H) ?_, fun _ p hp => q p _ (same_new hp) (tupAt (by rw [upd_same, cut_to]))⟩
  have e := hf.2
  rw [HT.sIx_nat] at e
  rw [List.take_of_length_le (by omega)]
  exact h
section
variable {P : Program} {w : World} {K : PySem.W.Frag} {mg : Str → Option Value} {base : Heap} {CX : CXT} {k : Nat} {f : Addr} {live live' : Hp → Prop} {sp sp' : Sp} {outer : List Env} {s : Shared} {H : Hp}
theorem Callable.imp (c : Callable P w K mg base CX k f live sp outer s H) (hl : ∀ H, live' H → live H) (hs : ∀ vs H Q E, live' H → sp' vs H Q E → sp vs H Q E) : Callable P w K mg base CX k f live' sp' outer s H :=
  ⟨fun X e1 e2 e3 e4 e5 e6 pins σ H' s' I l => c.at_ X e1 e2 e3 e4 e5 e6 pins σ H' s' I (hl _ l),
    fun X e1 e2 e3 e4 e5 e6 e7 e8 e9 hr pins σ H' s' us vs Q E I l r hx q => c.run X e1 e2 e3 e4 e5 e6 e7 e8 e9 hr pins σ H' s' us vs Q E I (hl _ l) r hx (hs _ _ _ _ l q)⟩
end
def lamP : Expr → Arguments
  | .Lambda p _ _ _ => p
  | _ => defArgs st_law
def lamB : Expr → Expr
  | .Lambda _ b _ _ => b
  | e => e
def lamS : Expr → Scope
  | .Lambda _ _ sc _ => sc
  | _ => defScope st_law
def lamO : Expr → Pos
  | .Lambda _ _ _ p => p
  | _ => ⟨0, 0, 0, 0⟩
/-- what the search for a goal is handed -/
structure GL where
  f : Addr
  live : Hp → Prop
  st : Int → List Int → List Int
  ts : List Int
  C : List Int → Prop
  U : List (List Int)
  f2 : Addr
  live2 : Hp → Prop
  gp : List Int → Bool
section
variable {P : Program} {w : World} {K : PySem.W.Frag} {mg : Str → Option Value} {base : Heap}
/-- what a step promises -/
def spStepG (st : Int → List Int → List Int) (ts : List Int) (C : List Int → Prop) : Sp := fun vs H Q _ => ∃ (a : Addr) (L : List Int) (p : Int), vs = [.ref a, .int p] ∧ KX H a L ∧ C L ∧ p ∈ ts ∧
  ∀ H' q, Same H H' → H q = none → KX H' q (st p L) → Q (.ref q) H'
/-- is it a goal? -/
def spGoalG (C : List Int → Prop) (gp : List Int → Bool) : Sp := fun vs H Q _ => ∃ (a : Addr) (L : List Int), vs = [.ref a] ∧ KX H a L ∧ C L ∧ Q (.bl (gp L)) H
def preL (P : Program) (w : World) (K : PySem.W.Frag) (mg : Str → Option Value) (base : Heap) (g : GL) : List Env → Shared → Hp → Prop := fun outer s H =>
  Callable P w K mg base CX0 2 g.f g.live (spStepG g.st g.ts g.C) outer s H ∧ Callable P w K mg base CX0 2 g.f2 g.live2 (spGoalG g.C g.gp) outer s H
def spLeast (K : PySem.W.Frag) (g : GL) : Sp := fun vs H Q _ => ∃ (a t : Addr) (L : List Int), vs = [.ref a, .ref t, .ref g.f, .ref g.f2] ∧ KX H a L ∧ SqT K H t (g.ts.map V.int) ∧
  (∀ H', Same H H' → g.live H') ∧ (∀ H', Same H H' → g.live2 H') ∧ Sys g.st g.ts g.C g.U ∧ g.C L ∧
  (∀ (H' : Hp) (q : Addr) (wd : List Int), Same H H' → Lst1 g.st g.ts L g.gp wd → H' q = some (.tup (wd.map V.int)) → wd.length ≤ 120 → Q (.ref q) H') ∧
  (∀ (H' : Hp), Same H H' → (∀ v, (∀ p ∈ v, p ∈ g.ts) → g.gp (rn g.st L v) = false) → Q .non H')
theorem ok_least {f : Addr} {fdat : FuncData} (F : Fun K "least_word" "least_word" st_least_word f fdat) (B : Bu mg) (CT : Cal P w K mg base 1 "traced" (spTraced P w)) (g : GL) : FnC P w K mg base CX0 3 f fdat ["start", "touches", "step", "is_goal"] (preL P w K mg base g) (spLeast K g) := by
  refine fnC_of F sc_least_word (fun vs H Q E h => ?_) (fun cdv A outer s H vs Q E hr hP h => ?_)
  · obtain ⟨a, t, L, rfl, _⟩ := h
    rfl
  · obtain ⟨a, t, L, rfl, ha, ht, hlive, hlive2, sy, hL, qy, qn0⟩ := h
    obtain ⟨hP1, hP2⟩ := hP
    refine ⟨_, pss_cons (ps_if (pt_val (pe_can hP2 rfl hr (by decide) pass0 (i := 3) rfl (Or.inl rfl) (pa_cons (pv 0) pa_nil))) (pss_one (ps_ret (pe_tup pa_nil))) pss_nil)
      (pss_cons (ps_set (i := 4) sc_least_word.nd rfl (.inl rfl) (pe_disp1E hr.units0 (pv 0) pe_non))
      (pss_cons (ps_set (i := 5) sc_least_word.nd rfl (.inl rfl) (pe_lst (pa_cons (pv 0) pa_nil)))
      (pss_cons (ps_while PassesOwn.never (pt_truth (pv 5) (by intro _; rfl))
        (pss_cons (ps_set (i := 6) sc_least_word.nd rfl (.inl rfl) (pe_lst pa_nil))
        (pss_cons (ps_for PassesOwn.never rfl (pi_list (pv 5)) (pg_name (i := 7) sc_least_word.nd rfl (Or.inl rfl))
          (pss_one (ps_for PassesOwn.never rfl (pi_tup (pv 1)) (pg_name (i := 8) sc_least_word.nd rfl (Or.inl rfl))
            (pss_cons (ps_set (i := 9) sc_least_word.nd rfl (.inl rfl) (pe_can hP1 rfl hr (by decide) pass0 (i := 2) rfl (Or.inl rfl) (pa_cons (pv 7) (pa_cons (pv 8) pa_nil))))
            (pss_one (ps_if (pt_cmp (pc_dnotinE (hu_of hr) (pv 9) (pv 4)))
              (pss_cons (ps_dputE (hu_of hr) (pv 4) (pv 9) (pe_tup (pa_cons (pv 7) (pa_cons (pv 8) pa_nil))) rfl)
              (pss_cons (ps_if (pt_val (pe_can hP2 rfl hr (by decide) pass0 (i := 3) rfl (Or.inl rfl) (pa_cons (pv 9) pa_nil))) (pss_one (ps_ret (pc CT hr (pa_cons (pv 4) (pa_cons (pv 9) pa_nil))))) pss_nil)
              (pss_one (ps_expr (pe_bm PySem.F.plainAttrs_list PySem.F.slot_list_append PySem.F.type_list_append mt_append (pv 6) (pa_cons (pv 9) pa_nil)))))) pss_nil))))))
        (pss_one (ps_set (i := 5) sc_least_word.nd rfl (.inl rfl) (pv 6))))))
      (pss_one (ps_ret pe_non))))), ?_⟩
    refine ⟨rfl, hlive2 _ (Same.refl H), _, rfl, hlive2 _ (Same.refl H), a, L, rfl, ha, hL, _, rfl, ite2 (fun eg => ?_) (fun eg => ?_)⟩
    · exact ⟨Nat.zero_le _, fun r hr2 => qy _ r [] (same_new hr2) ⟨fun _ z => (nomatch z), eg, fun _ _ _ => Nat.zero_le _⟩ upd_same (Nat.zero_le _)⟩
    have eg : g.gp L = false := by simpa using eg
    intro d hd
    refine ⟨_, rfl, upd_same, a, L, rfl, TK.same (same_new hd) _ _ ha, ?_⟩
    have hd1 : Same H (upd (upd H d (DE P w [] [] d)) d (DE P w [(L, .non)] [a] d)) := Same.upd (same_new hd) hd
    refine ⟨_, rfl, by show 1 ≤ sizeLine; decide, fun l hl => ?_⟩
    refine ⟨fun m σ H' => ∃ (k : Nat) (as : List (List Int × V)) (ks : List Addr) (xs : List V) (l : Addr), m = mea g.st g.ts L k ∧ (∃ y6 y7 y8 y9, σ = [some (.ref a), some (.ref t), some (.ref g.f), some (.ref g.f2), some (.ref d), some (.ref l), y6, y7, y8, y9]) ∧
      Same H H' ∧ H' d = some (DE P w as ks d) ∧ KB H' as ks ∧ CW L H' (fd g.st g.ts L k) as ∧ (∀ x ∈ fd g.st g.ts L k, g.gp x.1 = false) ∧ H' l = some (.lst xs) ∧ EX H' xs ((lv g.st g.ts L k).map Prod.fst), ⟨mea g.st g.ts L 0, 0, [(L, .non)], [a], [.ref a], l, rfl, ⟨none, none, none, none, rfl⟩, hd1.trans (same_new hl), same_new hl _ _ upd_same, ?_, ?_, ?_, upd_same, ?_⟩, ?_⟩
    · exact .cons (TK.same (hd1.trans (same_new hl)) _ _ ha) .nil
    · refine ⟨rfl, fun q hq => .inl ?_⟩
      rw [List.mem_singleton.mp hq]
      exact ⟨rfl, rfl, fd_start 0⟩
    · intro x hx
      rw [List.mem_singleton.mp hx]
      exact eg
    · exact .cons (TK.same (hd1.trans (same_new hl)) _ _ ha) .nil
    rintro m σ H1 ⟨k, as, ks, xs, l, rfl, ⟨y6, y7, y8, y9, rfl⟩, sm, eD, kb, hv, hg, eL, hE⟩
    have lx : xs.length = (lv g.st g.ts L k).length := hE.len.trans (List.length_map ..)
    refine ⟨_, rfl, !xs.isEmpty, .inl ⟨xs, lstAt eL, rfl⟩, ite2 (fun ex => ?_) (fun ex => ?_)⟩
    · have hne : lv g.st g.ts L k ≠ [] := by
        intro z
        rw [z] at lx
        rw [List.eq_nil_of_length_eq_zero lx] at ex
        cases ex
      have hk : k + 1 ≤ 120 := by
        have h1 := low k hne
        have h2 := sy.fd_few hL k
        omega
      refine ⟨fun σ' H' => ∃ m', m' < mea g.st g.ts L k ∧ ∃ (k : Nat) (as : List (List Int × V)) (ks : List Addr) (xs : List V) (l : Addr), m' = mea g.st g.ts L k ∧ (∃ y6 y7 y8 y9, σ' = [some (.ref a), some (.ref t), some (.ref g.f), some (.ref g.f2), some (.ref d), some (.ref l), y6, y7, y8, y9]) ∧
        Same H H' ∧ H' d = some (DE P w as ks d) ∧ KB H' as ks ∧ CW L H' (fd g.st g.ts L k) as ∧ (∀ x ∈ fd g.st g.ts L k, g.gp x.1 = false) ∧ H' l = some (.lst xs) ∧ EX H' xs ((lv g.st g.ts L k).map Prod.fst), fun _ _ h => h, ?_⟩
      refine ⟨Nat.zero_le _, fun u hu => ?_⟩
      have su := same_new (o := .lst []) hu
      have hlu : l ≠ u := ne_of_none eL hu
      have huH := none_of sm hu
      refine ⟨_, rfl, l, rfl, ⟨_, lstAt (su _ _ eL)⟩, ?_⟩
      refine for_list (xs := xs) (fun i σ H' => MidB P w H g.st g.ts L (fun H' l as => CW L H' l as ∧ (∀ x ∈ l, g.gp x.1 = false)) k d l u xs i 0 H' ∧ ∃ y7 y8 y9, σ = [some (.ref a), some (.ref t), some (.ref g.f), some (.ref g.f2), some (.ref d), some (.ref l), some (.ref u), y7, y8, y9])
        ⟨⟨as, ks, [], sm.trans su, su _ _ eD, kb.on (TK.same su), ?_, ?_, su _ _ eL, hE.on (TK.same su), upd_same, ?_⟩, _, _, _, rfl⟩ (fun i σ H' _ h' => ?_) (fun i x σ H2 hx h' => ?_) (fun σ H2 h' => ?_)
      · rw [Nat.zero_mul, prt_zero, List.append_nil]
        exact hv.1
      · rw [Nat.zero_mul, prt_zero, List.append_nil]
        exact ⟨hv.on (TK.same su), hg⟩
      · rw [Nat.zero_mul, prt_zero]
        exact .nil
      · obtain ⟨⟨_, _, _, _, _, _, _, _, e, _⟩, _⟩ := h'
        exact lstAt e
      · obtain ⟨hM, z7, z8, z9, rfl⟩ := h'
        obtain ⟨q0, b, hq0, rfl, _⟩ := lv_row hE hx
        have hp0 := sy.lv_C hL k q0 (List.mem_of_getElem? hq0)
        refine ⟨_, rfl, t, rfl, ⟨_, onT (hM.choose_spec.choose_spec.choose_spec.1) ht⟩, ?_⟩
        refine for_tup (xs := g.ts.map V.int) (fun j σ H' => MidB P w H g.st g.ts L (fun H' l as => CW L H' l as ∧ (∀ x ∈ l, g.gp x.1 = false)) k d l u xs i j H' ∧ ∃ y8 y9, σ = [some (.ref a), some (.ref t), some (.ref g.f), some (.ref g.f2), some (.ref d), some (.ref l), some (.ref u), some (.ref b), y8, y9])
          ⟨hM, _, _, rfl⟩ (fun j σ H' _ h' => onT (h'.1.choose_spec.choose_spec.choose_spec.1) ht) (fun j x2 σ H3 hx2 h' => ?_) (fun σ H3 h' => ?_)
        · obtain ⟨⟨bs, ks, us, sm3, eD3, kb3, hf3, hv3, eL3, hE3, eU3, hF3⟩, w8, w9, rfl⟩ := h'
          obtain ⟨pj, hpj, rfl⟩ := map_at hx2
          obtain ⟨q0', b', hq0', eb', hb3⟩ := lv_row hE3 hx
          cases eb'
          rw [hq0] at hq0'
          cases hq0'
          have hfew := sy.prt_few hL k (i * g.ts.length + j)
          have blen : bs.length ≤ 120 := by
            have := congrArg List.length hf3
            rw [List.length_map, List.length_map] at this
            omega
          have ulen : us.length ≤ 120 := by
            have h1 := hF3.len
            rw [List.length_map] at h1
            rw [List.length_append] at hfew
            omega
          have hin0 : (q0.1, q0.2) ∈ fd g.st g.ts L k ++ prt g.st g.ts L k (i * g.ts.length + j) := List.mem_append_left _ (lv_fd (List.mem_of_getElem? hq0))
          refine ⟨rfl, hlive _ sm3, _, rfl, _, rfl, hlive _ sm3, b, q0.1, pj, rfl, hb3, hp0, List.mem_of_getElem? hpj, fun H4 qn s4 nq eq4 => ?_⟩
          have sm4 := sm3.trans s4
          have eD4 := s4 _ _ eD3
          have eU4 := s4 _ _ eU3
          have kb4 := kb3.on (TK.same s4)
          have hv4 := hv3.1.on (TK.same s4)
          refine ⟨_, rfl, _, rfl, d, qn, bs, ks, g.st pj q0.1, rfl, rfl, eD4, kb4, eq4, _, rfl, ?_⟩
          by_cases hm : g.st pj q0.1 ∈ bs.map Prod.fst
          · have hm2 := hm
            rw [hf3] at hm2
            have ep := prt_old hq0 hpj hm2
            refine ifF (by rw [decide_eq_true hm]; rfl) ⟨⟨bs, ks, us, sm4, eD4, kb4, ?_, ?_, s4 _ _ eL3, hE3.on (TK.same s4), eU4, ?_⟩, _, _, rfl⟩
            · rw [show i * g.ts.length + (j + 1) = i * g.ts.length + j + 1 from rfl, ep]
              exact hf3
            · rw [show i * g.ts.length + (j + 1) = i * g.ts.length + j + 1 from rfl, ep]
              exact ⟨hv4, hv3.2⟩
            · rw [show i * g.ts.length + (j + 1) = i * g.ts.length + j + 1 from rfl, ep]
              exact hF3.on (TK.same s4)
          · have hm2 := hm
            rw [hf3] at hm2
            have ep := prt_new hq0 hpj hm2
            refine ifT (by rw [decide_eq_false hm]; rfl) ?_
            refine ⟨_, rfl, _, rfl, by show 2 ≤ sizeLine; decide, fun T hT => ?_⟩
            have sT := same_new (o := .tup [.ref b, .int pj]) hT
            have eT : Rd (upd H4 T (.tup [.ref b, .int pj])) T (.tup [.ref b, .int pj]) := .inl upd_same
            have smT := sm4.trans sT
            have eDT := sT _ _ eD4
            have eUT := sT _ _ eU4
            have eLT := sT _ _ (s4 _ _ eL3)
            have eqT := TK.same sT _ _ eq4
            have kbT := kb4.on (TK.same sT)
            have tk4T := TK.same (s4.trans sT)
            have hbT := tk4T _ _ hb3
            have hvT := hv4.on (TK.same sT)
            generalize (upd H4 T (.tup [.ref b, .int pj])) = HT at *
            refine ⟨_, rfl, _, rfl, d, qn, bs, ks, g.st pj q0.1, rfl, rfl, eDT, kbT, eqT, hm, small1000 (by omega), ?_⟩
            have hv5 : CW L HT (fd g.st g.ts L k ++ prt g.st g.ts L k (i * g.ts.length + j + 1)) (bs ++ [(g.st pj q0.1, V.ref T)]) := by
              rw [ep, ← List.append_assoc]
              exact hvT.snoc eT hbT hin0
            have tk5 : TK HT (upd HT d (DE P w (bs ++ [(g.st pj q0.1, V.ref T)]) (ks ++ [qn]) d)) := TK.upd eDT not_tup_d
            have eU5 : (upd HT d (DE P w (bs ++ [(g.st pj q0.1, V.ref T)]) (ks ++ [qn]) d)) u = some (.lst us) := by
              rw [upd_ne (ne_of eUT eDT (fun z => nomatch z))]
              exact eUT
            have eL5 : (upd HT d (DE P w (bs ++ [(g.st pj q0.1, V.ref T)]) (ks ++ [qn]) d)) l = some (.lst xs) := by
              rw [upd_ne (ne_of eLT eDT (fun z => nomatch z))]
              exact eLT
            have sm5 : Same H (upd HT d (DE P w (bs ++ [(g.st pj q0.1, V.ref T)]) (ks ++ [qn]) d)) := Same.upd smT hd
            have eD5 : (upd HT d (DE P w (bs ++ [(g.st pj q0.1, V.ref T)]) (ks ++ [qn]) d)) d = some (DE P w (bs ++ [(g.st pj q0.1, V.ref T)]) (ks ++ [qn]) d) := upd_same
            have hv6 := hv5.on tk5
            have eq5 := tk5 _ _ eqT
            have tk45 := tk4T.trans tk5
            have kb5 : KB (upd HT d (DE P w (bs ++ [(g.st pj q0.1, V.ref T)]) (ks ++ [qn]) d)) (bs ++ [(g.st pj q0.1, V.ref T)]) (ks ++ [qn]) := (kbT.on tk5).snoc (q := (g.st pj q0.1, V.ref T)) (b := qn) eq5
            have hnew : (g.st pj q0.1, q0.2 ++ [pj]) ∈ fd g.st g.ts L k ++ prt g.st g.ts L k (i * g.ts.length + j + 1) := by
              rw [ep]
              exact List.mem_append_right _ (List.mem_append_right _ (List.mem_singleton.mpr rfl))
            have hp2 := sy.fd_C hL (k + 1) _ (prt_fd hnew)
            have hw120 : (q0.2 ++ [pj]).length ≤ 120 := by
              have := fd_len (k + 1) _ (prt_fd hnew)
              have : (q0.2 ++ [pj]).length ≤ k + 1 := this
              omega
            have hwl : (q0.2 ++ [pj]).length ≤ 1000 := by omega
            refine ⟨rfl, hlive2 _ sm5, _, rfl, hlive2 _ sm5, qn, _, rfl, eq5, hp2, _, rfl, ite2 (fun e2 => ?_) (fun e2 => ?_)⟩
            · have hf2 : (g.st pj q0.1, q0.2 ++ [pj]) ∈ fd g.st g.ts L (k + 1) := prt_fd hnew
              exact ⟨_, rfl, _, rfl, d, qn, _, _, g.st pj q0.1, L, q0.2 ++ [pj], _, rfl, eD5, kb5, eq5, prt_nd k (i * g.ts.length + j + 1), hv6, hnew, hwl, fun H' r s' er => qy H' r _ (sm5.trans s') (lst1_of hf2 e2 hg) er hw120⟩
            · have e2 : g.gp (g.st pj q0.1) = false := by simpa using e2
              refine ⟨_, rfl, .inl ⟨rfl, _, lstAt eU5⟩, _, rfl, u, us, .ref qn, rfl, rfl, eU5, small1000 (by omega), ?_⟩
              have tk6 : TK (upd HT d (DE P w (bs ++ [(g.st pj q0.1, V.ref T)]) (ks ++ [qn]) d)) (upd (upd HT d (DE P w (bs ++ [(g.st pj q0.1, V.ref T)]) (ks ++ [qn]) d)) u (.lst (us ++ [.ref qn]))) := TK.upd eU5 not_tup_l
              have tk46 := tk45.trans tk6
              refine ⟨⟨bs ++ [(g.st pj q0.1, V.ref T)], ks ++ [qn], us ++ [.ref qn], Same.upd sm5 huH, ?_, kb5.on tk6, ?_, ⟨hv6.on tk6, ?_⟩, ?_, hE3.on tk46, upd_same, ?_⟩, _, _, rfl⟩
              · rw [upd_ne (ne_of eD5 eU5 (fun z => nomatch z))]
                exact eD5
              · exact hv6.1
              · rw [show i * g.ts.length + (j + 1) = i * g.ts.length + j + 1 from rfl, ep, ← List.append_assoc]
                intro x hx
                rcases List.mem_append.mp hx with z | z
                · exact hv3.2 x z
                · rw [List.mem_singleton.mp z]
                  exact e2
              · rw [upd_ne hlu]
                exact eL5
              · rw [show i * g.ts.length + (j + 1) = i * g.ts.length + j + 1 from rfl, ep, List.map_append]
                exact EX.snoc (tk6 _ _ eq5) (hF3.on tk46)
        · obtain ⟨hM3, w8, w9, rfl⟩ := h'
          rw [List.length_map] at hM3
          exact ⟨hM3.row, _, _, _, rfl⟩
      · obtain ⟨⟨bs, ks, us, sm3, eD3, kb3, hf3, hv3, eL3, hE3, eU3, hF3⟩, w7, w8, w9, rfl⟩ := h'
        rw [lx, Nat.add_zero, prt_all] at hv3 hF3
        exact ⟨_, rfl, mea g.st g.ts L (k + 1), sy.mea_less hL hne, k + 1, bs, ks, us, u, rfl, ⟨_, _, _, _, rfl⟩, sm3, eD3, kb3, hv3.1, hv3.2, eU3, hF3⟩
    · have hnil : lv g.st g.ts L k = [] := by
        cases xs with
        | nil => exact List.eq_nil_of_length_eq_zero lx.symm
        | cons x r => exact absurd rfl ex
      refine qn0 H1 sm fun v hv2 => ?_
      obtain ⟨x, hx, e⟩ := rn_all hnil hv2
      rw [← e]
      exact hg x hx
end
end RH
set_option Elab.async false
set_option linter.all false
set_option maxRecDepth 100000
set_option maxHeartbeats 2000000
namespace RH
open PySem PySem.Spec PyProof.Rows L2
open NdefX (NScope CellsAt Caps slotAt slotAt_of cells_of startF ncx)
open LamX (Tabs TabS TabB ExtN CodeO codeO_ne)
/-! ### the defs that make a step -/
theorem frs_free {X : Cx} {pins : List (Addr × Obj)} {σ : L2.St} {H : Hp} {s : Shared} (I : Inv X pins σ H s) (hf : ∀ x, X.fn x = true) {y : Str} {c : Addr} (h : X.env.cells.lookup y = some c) : c ∉ frs X.stack := by
  have out : c ∉ frs X.outer := fun z => by
    obtain ⟨_, o, e, _⟩ := I.ok.funs.mem z
    have h1 := Heap.lt_size e
    exact absurd (Nat.lt_of_lt_of_le h1 (I.ok.cab y c (hf y) h)) (Nat.lt_irrefl _)
  rcases I.ok.stk with e | ⟨e, ef⟩
  · rw [e]
    exact out
  · rw [e]
    intro z
    have z2 : c = X.env.locals ∨ c ∈ frs X.outer := by
      unfold frs at z ⊢
      rw [List.filterMap_cons, ef] at z
      exact List.mem_cons.mp z
    rcases z2 with z2 | z2
    · obtain ⟨m, hn, _⟩ := I.loc
      obtain ⟨o, es, ep, e1, e2, _⟩ := hn
      obtain ⟨v, o2, e3, e4⟩ := I.cell y c h
      rw [z2, e1] at e3
      cases e3
      rw [e2] at e4
      cases e4
    · exact out z2
/-- a def of the text with its code object -/
structure DfC (K : PySem.W.Frag) (mg : Str → Option Value) (x : Str) (st : Stmt) (ps : List Str) (c : Addr) : Prop where
  ex : ∃ (f : Addr) (oc : Value) (od : Option Addr) (kV doc pm : Value) (an : Option Addr) (ct : Value) (osl : Array (Option Value)), K.lookup f = some ⟨oc, od, .func (PySem.W.fnOf x x (defArgs st) (defBody st) (defScope st) .none kV doc pm an (.ref c) ct), osl⟩ ∧
    PySem.W.codeIn K (.ref c) x = true ∧ PySem.W.keepIn K (.ref f) = true ∧ mg x = some (.ref f) ∧ Binds K (PySem.W.fnOf x x (defArgs st) (defBody st) (defScope st) .none kV doc pm an (.ref c) ct) ps []
section
variable {P : Program} {w : World} {K : PySem.W.Frag} {mg : Str → Option Value} {base : Heap}
theorem mkCalC {x : Str} {st : Stmt} {N ps : List Str} {k : Nat} {sp : Sp} {c : Addr} (F : DfC K mg x st ps c) (S : FnScope N ps (defScope st)) (len : ∀ vs H Q E, sp vs H Q E → vs.length = ps.length)
    (hbody : ∀ (f : Addr) (A : Around) (outer : List Env) (s : Shared) (H : Hp) (vs : List V) (Q : VK) (E : XK), Room k (A.deeper (envOfC x (defScope st) s.heap.objs.size f (.ref c))) → sp vs H Q E →
      ∃ t, PSs (cxOf CX0 P w K mg base N x (defScope st) f (.ref c) A outer s H E).nox (defBody st) t ∧ t { nx := fun _ H' => Q .non H', rt := Q } (start N vs) H) : Cal P w K mg base (k + 1) x sp := by
  obtain ⟨f, oc, od, kV, doc, pm, an, ct, osl, lk, hcd, kp, g, b⟩ := F.ex
  refine ⟨f, _, ps, fn_of lk hcd S len fun A outer s H vs Q E hr hsp => ?_, g, kp, b⟩
  obtain ⟨t, h, q⟩ := hbody f A outer s H vs Q E hr hsp
  exact ⟨t, h.nox, q⟩
end
section
theorem extN_tups {K : PySem.W.Frag} {H H' : Hp} (e : ExtN H H') : Tups K H H' := fun a xs hs => by
  rcases hs with (hs | ⟨o, hs⟩) | hs
  · exact .inl (.inl (e _ _ hs (fun ps z => nomatch z)))
  · exact .inl (.inr ⟨o, e _ _ hs (fun ps z => nomatch z)⟩)
  · exact .inr hs
theorem extN_tk {H H' : Hp} (e : ExtN H H') : TK H H' := fun b xs h => by
  rcases h with h | ⟨ob, h⟩
  · exact .inl (e _ _ h (fun ps z => nomatch z))
  · exact .inr ⟨ob, e _ _ h (fun ps z => nomatch z)⟩
theorem extN_same {H H' : Hp} (e : Same H H') : ExtN H H' := ExtN.of fun b o h => e b o h
theorem tabs_same {T : List (Addr × Str)} {H H' : Hp} (t : Tabs T H) (e : Same H H') : Tabs T H' := t.ext fun b o h => e b o h
end
/-! ### pairs of marks -/
def stP (h o : List (List Int)) (p : Int) : List Int → List Int
  | [a, b] => [mv h p a, mv o p b]
  | s => s
def CP (n : Nat) (s : List Int) : Prop := ∃ a b, s = [a, b] ∧ InR n a ∧ InR n b
def UP (n : Nat) : List (List Int) := (rg n).flatMap fun a => (rg n).map fun b => [a, b]
theorem UP_few : ∀ n, n < 6 → (UP n).length ≤ 120 := by decide +kernel
theorem Hb.mvR {n : Nat} {h : List (List Int)} (q : Hb n h) {p s : Int} (hp : InR n p) (hs : InR n s) : InR n (mv h p s) := (q.at hp.1 hp.2 hs.1 hs.2).choose_spec.2.2
theorem sysP {n : Nat} {h o : List (List Int)} (hb : Hb n h) (ho : Hb n o) {lot : List Int} (hin : ∀ i ∈ lot, InR n i) (hl : lot.length ≤ 1000) : Sys (stP h o) lot (CP n) (UP n) where
  go := fun s ⟨a, b, e, h1, h2⟩ p hp => by
    subst e
    exact ⟨_, _, rfl, hb.mvR (hin p hp) h1, ho.mvR (hin p hp) h2⟩
  few := fun s ⟨a, b, e, h1, h2⟩ => by
    subst e
    exact List.mem_flatMap.mpr ⟨a, rg_mem.mpr h1, List.mem_map.mpr ⟨b, rg_mem.mpr h2, rfl⟩⟩
  num := UP_few n (by have := hb.hi; omega)
  len := fun s ⟨a, b, e, _⟩ => by
    subst e
    show 2 ≤ 1000
    decide
  tl := hl
def fpr (h o : List (List Int)) (pl : Int) : List Int := [mv h pl pl, mv o pl pl]
theorem rn_pair (h o : List (List Int)) (pl : Int) : ∀ w : List Int, rn (stP h o) (fpr h o pl) w = [mark h pl w, mark o pl w] := by
  refine snoc_ind rfl fun w p ih => ?_
  rw [rn_snoc, ih, mark_snoc, mark_snoc]
  rfl
/-- the first place at which just one of two marks stands -/
def trd (lot : List Int) : List Int → Option Int
  | [a, b] => lot.find? fun r => decide (r = a) != decide (r = b)
  | _ => none
def gpT (lot s : List Int) : Bool := (trd lot s).isSome
theorem find_at {α : Type} {f : α → Bool} {l : List α} {i : Nat} {r : α} (h : l[i]? = some r) (h1 : (l.take i).find? f = none) (h2 : f r = true) : l.find? f = some r := by
  obtain ⟨hi, e⟩ := List.getElem?_eq_some_iff.mp h
  have e2 : l.drop i = r :: l.drop (i + 1) := by rw [List.drop_eq_getElem_cons hi, e]
  have e3 : l.find? f = (l.take i ++ l.drop i).find? f := by rw [List.take_append_drop]
  rw [e3, List.find?_append, h1, e2, List.find?_cons_of_pos h2]
  rfl
def optV : Option Int → V
  | none => .non
  | some r => .int r
section
variable {P : Program} {w : World} {K : PySem.W.Frag} {mg : Str → Option Value} {base : Heap}
def spTelling (K : PySem.W.Frag) : Sp := fun vs H Q _ => ∃ (a : Addr) (x y : Int) (lv : V) (lot : List Int), vs = [.ref a, lv] ∧ KX H a [x, y] ∧ TI K H lv lot ∧ Q (optV (trd lot [x, y])) H
theorem ok_telling (F : Df K mg "telling_read" st_telling_read ["pair", "lot"]) : Cal P w K mg base 1 "telling_read" (spTelling K) := by
  refine mkCal F sc_telling_read (fun vs H Q E h => ?_) (fun f cdv A outer s H vs Q E hr h => ?_)
  · obtain ⟨a, x, y, lv, lot, rfl, _⟩ := h
    rfl
  · obtain ⟨a, x, y, lv, lot, rfl, hk, ⟨al, rfl, hL⟩, q⟩ := h
    refine ⟨_, pss_cons (ps_asg (pv 0) (pg_tup rfl (pgs_cons (pg_name (i := 2) sc_telling_read.nd rfl (.inl rfl)) (pgs_cons (pg_name (i := 3) sc_telling_read.nd rfl (.inl rfl)) pgs_nil))))
      (pss_cons (ps_for PassesOwn.never rfl (pi_tup (pv 1)) (pg_name (i := 4) sc_telling_read.nd rfl (.inl rfl))
        (pss_one (ps_if (pt_cmpR op_ne (pe_cmpR op_eq (pv 4) (pv 2) (nomark _)) (pe_cmpR op_eq (pv 4) (pv 3) (nomark _)) (nomark _)) (pss_one (ps_ret (pv 4))) pss_nil)))
      (pss_one (ps_ret pe_non))), ?_⟩
    refine ⟨_, rfl, a, _, rfl, .inl hk, rfl, _, _, rfl, _, _, rfl, rfl, ?_⟩
    refine ⟨_, rfl, al, rfl, ⟨_, hL⟩, ?_⟩
    refine for_tup (xs := lot.map V.int) (fun i σ H' => H' = H ∧ ((lot.take i).find? fun r => decide (r = x) != decide (r = y)) = none ∧ ∃ z, σ = [some (.ref a), some (.ref al), some (.int x), some (.int y), z]) ⟨rfl, rfl, none, rfl⟩ (fun i σ H' _ h' => by rw [h'.1]; exact hL) (fun i v σ H' hx h' => ?_) (fun σ H' h' => ?_)
    · obtain ⟨r, hr', rfl⟩ := map_at hx
      obtain ⟨rfl, hn, z, rfl⟩ := h'
      refine ⟨_, rfl, _, rfl, rfl, _, rfl, _, rfl, rfl, rfl, _, rfl, ?_⟩
      rw [V_int, V_int, V_bl]
      refine ite2 (fun e => ?_) (fun e => ?_)
      · refine ⟨_, rfl, ?_⟩
        have e2 : trd lot [x, y] = some r := find_at hr' hn e
        rw [e2] at q
        exact q
      · refine ⟨rfl, ?_, _, rfl⟩
        rw [take_more hr', List.find?_append, hn, Option.none_or, List.find?_cons_of_neg (by exact e)]
        rfl
    · obtain ⟨rfl, hn, z, rfl⟩ := h'
      rw [List.length_map, List.take_length] at hn
      have e : trd lot [x, y] = none := hn
      rw [e] at q
      exact q
def spFirst (K : PySem.W.Frag) : Sp := fun vs H Q _ => ∃ (v u : V) (h o : List (List Int)) (n : Nat) (lv : V) (lot : List Int), vs = [v, u, lv] ∧ TII K H v h ∧ TII K H u o ∧ Hb n h ∧ Hb n o ∧ TI K H lv lot ∧ (∀ i ∈ lot, InR n i) ∧ lot.length ≤ 1000 ∧
  ∀ (H' : Hp) (l : Addr) (xs : List V), Same H H' → H' l = some (.lst xs) → EX H' xs (lot.map (fpr h o)) → Q (.ref l) H'
theorem ok_first (F : Df K mg "first_pairs" st_first_pairs ["habit", "other", "lot"]) : Cal P w K mg base 1 "first_pairs" (spFirst K) := by
  refine mkCal F sc_first_pairs (fun vs H Q E h => ?_) (fun f cdv A outer s H vs Q E hr h => ?_)
  · obtain ⟨v, u, h, o, n, lv, lot, rfl, _⟩ := h
    rfl
  · obtain ⟨v, u, h, o, n, lv, lot, rfl, hT, hU, hb, ho, ⟨al, rfl, hL⟩, hin, hlen, q⟩ := h
    obtain ⟨ah, hxs, rfl, hS, hE⟩ := id hT
    obtain ⟨ao, oxs, rfl, oS, oE⟩ := id hU
    refine ⟨_, pss_one (ps_ret (pe_lc (own := [("place", 3)]) (g := gName 3) (tt := tYes) rfl sc_first_pairs.nd (pi_tup (pv 2)) (blkOk_by (N := ["habit", "other", "lot", "place"]) (sc := defScope st_first_pairs) (by decide +kernel))
      (fun _ _ _ _ _ => pg_name (i := 3) sc_first_pairs.nd rfl (Or.inl rfl)) (fun _ _ _ _ _ => pts_nil)
      (fun _ _ _ _ _ => pe_tup (pa_cons (pe_ix (ixT K) (pe_ix (ixT K) (pv 0) (pv 3) (fun _ _ => rfl)) (pv 3) (fun _ _ => rfl)) (pa_cons (pe_ix (ixT K) (pe_ix (ixT K) (pv 1) (pv 3) (fun _ _ => rfl)) (pv 3) (fun _ _ => rfl)) pa_nil))))), ?_⟩
    refine ⟨_, rfl, al, rfl, ⟨_, hL⟩, fun D hD => ?_⟩
    refine lc_tup (xs := lot.map V.int) (fun i H' => Same H H' ∧ ∃ ys, H' D = some (.lst ys) ∧ EX H' ys ((lot.take i).map (fpr h o))) ⟨same_new hD, [], upd_same, .nil⟩ (fun i H' _ h' => onT h'.1 hL) (fun i x H' hx h' => ?_) (fun H' h' => ?_)
    · obtain ⟨pl, hpl, rfl⟩ := map_at hx
      obtain ⟨sm, ys, eD, hY⟩ := h'
      have hp := hin pl (List.mem_of_getElem? hpl)
      obtain ⟨a1, ns1, e1, s1, e2⟩ := ix2 hE hb hp hp
      obtain ⟨a2, ns2, e3, s2, e4⟩ := ix2 oE ho hp hp
      refine ⟨rfl, _, rfl, _, rfl, ah, hxs, pl, _, rfl, rfl, onT sm hS, e1, _, rfl, a1, _, pl, _, rfl, rfl, onT sm s1, e2, _, rfl, _, rfl, ao, oxs, pl, _, rfl, rfl, onT sm oS, e3, _, rfl, a2, _, pl, _, rfl, rfl, onT sm s2, e4, by show 2 ≤ sizeLine; decide, fun T hT2 => ?_⟩
      have sT := same_new (o := .tup [.int (mv h pl pl), .int (mv o pl pl)]) hT2
      have eDT := sT _ _ eD
      refine ⟨_, eDT, ?_, Same.upd (sm.trans sT) hD, _, upd_same, ?_⟩
      · have := hY.len
        rw [List.length_map, List.length_take] at this
        exact small1000 (by omega)
      · rw [take_more hpl, List.map_append]
        have tk : TK _ (upd (upd H' T (.tup [.int (mv h pl pl), .int (mv o pl pl)])) D (.lst (ys ++ [.ref T]))) := TK.upd eDT not_tup_l
        exact EX.snoc (tk _ _ (.inl upd_same)) (hY.on ((TK.same sT).trans tk))
    · obtain ⟨sm, ys, eD, hY⟩ := h'
      rw [List.length_map, List.take_length] at hY
      exact q H' D ys sm eD hY
/-! ### the step of a pair, handed back -/
def retLam (st : Stmt) : Expr := match defBody st with
  | [.Return (some e) _] => e
  | _ => .Constant .none 0 ⟨0, 0, 0, 0⟩
abbrev lamA : Expr := retLam st_pair_step
theorem nsA : NScope ["pair", "touch", "habit", "other"] ["pair", "touch"] ["habit", "other"] (lamS lamA) := NdefX.nscope_by (by decide +kernel)
def spLamA (K : PySem.W.Frag) (h o : List (List Int)) (n : Nat) (lot : List Int) : List (Option V) → Sp := fun ws vs H Q E => ∃ v u, ws = [some v, some u] ∧ TII K H v h ∧ TII K H u o ∧ Hb n h ∧ Hb n o ∧ (∀ i ∈ lot, InR n i) ∧ spStepG (stP h o) lot (CP n) vs H Q E
theorem lokA (h o : List (List Int)) (n : Nat) (lot : List Int) (q : Str) (cl : List (Str × Addr)) (c f : Addr) : LOk P w K mg base CX0 2 f ⟨q, lamP lamA, lamB lamA, lamS lamA, cl, c⟩ ["pair", "touch"] ["habit", "other"] (spLamA K h o n lot) := by
  refine lok_of nsA (fun pm ctv us hl => ?_) (fun ws vs H Q E hq => ?_) (fun A outer s H vs ws Q E hr _ hsp => ?_)
  · match us, hl with
    | [_, _], _ => rfl
  · obtain ⟨v, u, _, _, _, _, _, _, a, L, p, rfl, _⟩ := hq
    rfl
  · obtain ⟨v, u, rfl, hT, hU, hb, ho, hin, a, L, p, rfl, ha, ⟨x, y, rfl, hx, hy⟩, hp, q⟩ := hsp
    obtain ⟨ah, hxs, rfl, hS, hE⟩ := id hT
    obtain ⟨ao, oxs, rfl, oS, oE⟩ := id hU
    refine ⟨_, pe_tup (pa_cons (pe_ix ix_tup (pe_ix ix_tup (pv 2) (pv 1) (fun _ _ => rfl)) (pe_ix ix_tup (pv 0) pe_int (fun _ _ => rfl)) (fun _ _ => rfl)) (pa_cons (pe_ix ix_tup (pe_ix ix_tup (pv 3) (pv 1) (fun _ _ => rfl)) (pe_ix ix_tup (pv 0) pe_int (fun _ _ => rfl)) (fun _ _ => rfl)) pa_nil)), ?_⟩
    have hp' := hin p hp
    obtain ⟨a1, ns1, e1, s1, e2⟩ := ix2 hE hb hp' hx
    obtain ⟨a2, ns2, e3, s2, e4⟩ := ix2 oE ho hp' hy
    refine ⟨_, rfl, _, rfl, ah, hxs, p, _, rfl, rfl, hS, e1, _, rfl, a, _, 0, .int x, rfl, rfl, .inl ha, rfl, a1, _, x, _, rfl, rfl, s1, e2, _, rfl, _, rfl, ao, oxs, p, _, rfl, rfl, oS, e3, _, rfl, a, _, 1, .int y, rfl, rfl, .inl ha, rfl, a2, _, y, _, rfl, rfl, s2, e4, by show 2 ≤ sizeLine; decide, fun T hT2 => ?_⟩
    exact q _ T (same_new hT2) hT2 (.inl upd_same)
/-- the name that a lambda of the def x bears -/
def lamQ (x : Str) : Str := (envOfC x (defScope st_pair_step) 0 0 .none).qual ++ "<lambda>"
def tabsT (P1 P2 : Addr) : List (Addr × Str) := [(P1, lamQ "pair_step"), (P2, lamQ "shortest_test")]
/-- the lambda that pair_step made -/
structure StepL (f : Addr) (F : LF) (v u : V) (l : CL) (H : Hp) : Prop where
  fe : ∃ q cl c, F = ⟨q, lamP lamA, lamB lamA, lamS lamA, cl, c⟩
  live : LiveK f F l H
  cap : Cap F ["habit", "other"] [v, u] l
def spPairStep (T : List (Addr × Str)) : Sp := fun vs H Q _ => ∃ (v u : V), vs = [v, u] ∧ Tabs T H ∧ ∀ (f : Addr) (F : LF) (l : CL) (H' : Hp), ExtN H H' → Tabs T H' → StepL f F v u l H' → Q (.ref f) H'
theorem cells_kind {y : Str} {c : Addr} : ∀ (names : List (Str × NameKind)) (n : Nat) (acc : List (Str × Addr)), (PySem.cellsFrom n names acc).lookup y = some c → (y, NameKind.cell) ∈ names ∨ acc.lookup y = some c
  | [], _, _, h => .inr h
  | (x, k) :: r, n, acc, h => by
    unfold PySem.cellsFrom at h
    split at h
    · rename_i hk
      have hk : k = .cell := by simpa using hk
      rcases cells_kind r _ _ h with z | z
      · exact .inl (List.mem_cons_of_mem _ z)
      · rw [List.lookup_cons] at z
        split at z
        · rename_i e
          have e : y = x := by simpa using e
          rw [e, hk]
          exact .inl (List.mem_cons_self ..)
        · exact .inr z
    · rcases cells_kind r _ _ h with z | z
      · exact .inl (List.mem_cons_of_mem _ z)
      · exact .inr z
theorem two_of {a1 a2 : Addr} {v u : V} {b : Addr} {y : V} (h : ([(a1, v), (a2, u)] : CL).lookup b = some y) : (b = a1 ∧ y = v) ∨ (b = a2 ∧ y = u) := by
  rw [List.lookup_cons] at h
  split at h
  · rename_i e
    exact .inl ⟨by simpa using e, (Option.some.inj h).symm⟩
  · rw [List.lookup_cons] at h
    split at h
    · rename_i e
      exact .inr ⟨by simpa using e, (Option.some.inj h).symm⟩
    · cases h
theorem ok_pair_step {c P1 P2 : Addr} (F : DfC K mg "pair_step" st_pair_step ["habit", "other"] c) (TB : TabB base mg c P1) (hPP : P1 ≠ P2) : Cal P w K mg base 1 "pair_step" (spPairStep (tabsT P1 P2)) := by
  obtain ⟨f, oc, od, kV, doc, pm, an, ct, osl, lk, hcd, kp, g, b⟩ := F.ex
  refine ⟨f, _, _, fnR_of lk hcd sc_pair_step (fun vs H Q E h => ?_) (fun A outer s H vs Q E hr h => ?_), g, kp, b⟩
  · obtain ⟨v, u, rfl, _⟩ := h
    rfl
  · obtain ⟨v, u, rfl, hT, q⟩ := h
    have hfree : ∀ y ∈ (lamS lamA).names, y.2 = .free → (defScope st_pair_step).names.lookup y.1 = some .cell ∨ (defScope st_pair_step).names.lookup y.1 = some .free := by decide +kernel
    let X : Cx := cxOf CX0 P w K mg base ["habit", "other"] "pair_step" (defScope st_pair_step) f (.ref c) A outer s H E
    have hfX : ∀ y ∈ (lamS lamA).names, y.2 = .free → X.env.scope.names.lookup y.1 = some .cell ∨ X.env.scope.names.lookup y.1 = some .free := hfree
    let mk : Addr → LF := fun c' => ⟨X.env.qual ++ "<lambda>", lamP lamA, lamB lamA, lamS lamA, cloFrom X.env.cells (lamS lamA).names [], c'⟩
    refine ⟨fun r σ' H' => ∃ f1 c1, r = .ref f1 ∧ σ' = [some v, some u] ∧ ExtN H H' ∧ Tabs (tabsT P1 P2) H' ∧ H' f1 = some (FnL f1 (mk c1)) ∧ H' c1 = some (CodeO c1 (mk c1).qual), _,
      psr_ret (X := X) (pe_lam (T := tabsT P1 P2) (params := lamP lamA) (body := lamB lamA) (scope := lamS lamA) (pos := lamO lamA) TB rfl (by exact List.Mem.head _) (fun p hp e => ?_) rfl hfX), ⟨hT, fun f1 c1 H1 ex nn T1 nf e1 e2 => ⟨f1, c1, rfl, rfl, ex, T1, e1, e2⟩⟩, fun s' σ' H' r ur J rv hR => ?_⟩
    · rcases List.mem_cons.mp hp with rfl | hp
      · rfl
      · rw [List.mem_singleton.mp hp] at e
        exact absurd e.symm hPP
    · obtain ⟨f1, c1, rfl, rfl, ex, T1, e1, e2⟩ := hR
      have kA : (defScope st_pair_step).names.lookup ("habit" : Str) = some NameKind.cell := by decide +kernel
      have kB : (defScope st_pair_step).names.lookup ("other" : Str) = some NameKind.cell := by decide +kernel
      have only : ∀ y ∈ (defScope st_pair_step).names, y.2 = NameKind.cell → y.1 = ("habit" : Str) ∨ y.1 = ("other" : Str) := by decide +kernel
      have fA : (("habit" : Str), NameKind.free) ∈ (lamS lamA).names := by decide +kernel
      have fB : (("other" : Str), NameKind.free) ∈ (lamS lamA).names := by decide +kernel
      obtain ⟨a1, ha1⟩ := J.ok.has "habit" (.inl kA)
      obtain ⟨a2, ha2⟩ := J.ok.has "other" (.inl kB)
      have hne : a1 ≠ a2 := fun z => by
        have := J.ok.inj "habit" "other" a1 ha1 (by rw [z]; exact ha2)
        exact absurd this (by decide)
      have l1 : ([(a1, v), (a2, u)] : CL).lookup a1 = some v := by rw [List.lookup_cons]; simp
      have l2 : ([(a1, v), (a2, u)] : CL).lookup a2 = some u := by
        rw [List.lookup_cons]
        have : (a2 == a1) = false := by simpa using Ne.symm hne
        rw [this, List.lookup_cons]
        simp
      have up : ∀ b o, H' b = some o → lay [(a1, v), (a2, u)] H' b = some o := fun b o e => by
        cases z : ([(a1, v), (a2, u)] : CL).lookup b with
        | none => exact (lay_no z).trans e
        | some y =>
          exfalso
          rcases two_of z with ⟨rfl, _⟩ | ⟨rfl, _⟩
          · rw [J.freeC "habit" _ ha1] at e
            cases e
          · rw [J.freeC "other" _ ha2] at e
            cases e
      have hfm : ∀ y ∈ (lamS lamA).names, y.2 = .free → ∃ c, X.env.cells.lookup y.1 = some c := fun y hy e => (hfX y hy e).elim (fun z => J.ok.has _ (.inl z)) fun z => J.ok.has _ (.inr z)
      refine ce_lay (X := X) (l := [(a1, v), (a2, u)]) (fun _ => rfl) J rfl rfl (fun b y e => ?_) rv (q f1 (mk c1) [(a1, v), (a2, u)] _ (fun b o e n => up _ _ (ex b o e n)) (T1.ext up) ⟨⟨_, _, _, rfl⟩, ⟨up _ _ e1, up _ _ e2, Stand.lay _ _⟩, rfl, fun y c e => ?_, fun x y c ex1 ey1 => J.ok.inj x y c (NdefX.clo_cm hfm ex1) (NdefX.clo_cm hfm ey1), fun i y e => ?_⟩)
      · rcases two_of e with ⟨rfl, rfl⟩ | ⟨rfl, rfl⟩
        · exact ⟨"habit", 0, ha1, rfl, rfl, kA⟩
        · exact ⟨"other", 1, ha2, rfl, rfl, kB⟩
      · have h1 := NdefX.clo_cm hfm e
        have h2 : (PySem.cellsFrom (s.heap.objs.size + 1) (defScope st_pair_step).names []).lookup y = some c := h1
        rcases cells_kind _ _ _ h2 with z | z
        · rcases only _ z rfl with w1 | w1
          · have w1 : y = ("habit" : Str) := w1
            subst w1
            have := ha1.symm.trans h1
            rw [← Option.some.inj this]
            exact ⟨_, l1⟩
          · have w1 : y = ("other" : Str) := w1
            subst w1
            have := ha2.symm.trans h1
            rw [← Option.some.inj this]
            exact ⟨_, l2⟩
        · cases z
      · match i, e with
        | 0, e =>
          cases Option.some.inj e
          exact ⟨a1, NdefX.clo_has hfm fA ha1, fun v' ev => by rw [← Option.some.inj ev]; exact l1⟩
        | 1, e =>
          cases Option.some.inj e
          exact ⟨a2, NdefX.clo_has hfm fB ha2, fun v' ev => by rw [← Option.some.inj ev]; exact l2⟩
        | i + 2, e => simp at e
end
end RH
set_option Elab.async false
set_option linter.all false
set_option maxRecDepth 100000
set_option maxHeartbeats 2000000
namespace RH
open PySem PySem.Spec PyProof.Rows L2
open NdefX (NScope CellsAt Caps slotAt slotAt_of cells_of startF ncx)
open LamX (Tabs TabS TabB ExtN CodeO codeO_ne)
/-! ### the shortest test -/
theorem era_tups {K : PySem.W.Frag} {l : CL} {H : Hp} (s : Stand l H) : Tups K H (era l H) := fun a xs hs => by
  rcases hs with hs | hs
  · exact .inl (s.rd hs)
  · exact .inr hs
/-- the lambda that asks whether a pair tells -/
def lamOf : List Stmt → Expr
  | .Assign _ (.Call _ as _ _) _ :: _ => as.getD 3 (.Constant .none 0 ⟨0, 0, 0, 0⟩)
  | _ => .Constant .none 0 ⟨0, 0, 0, 0⟩
def forBody : List Stmt → List Stmt
  | _ :: _ :: .For _ _ b _ _ :: _ => b
  | _ => []
abbrev lamT : Expr := lamOf (forBody (defBody st_shortest_test))
theorem nsT : NScope ["pair", "lot"] ["pair"] ["lot"] (lamS lamT) := NdefX.nscope_by (by decide +kernel)
section
variable {P : Program} {w : World} {K : PySem.W.Frag} {mg : Str → Option Value} {base : Heap}
def spLamT (K : PySem.W.Frag) (n : Nat) (lot : List Int) : List (Option V) → Sp := fun ws vs H Q E => ∃ lb, ws = [some lb] ∧ TI K H lb lot ∧ spGoalG (CP n) (gpT lot) vs H Q E
theorem lokT (CTR : Cal P w K mg base 1 "telling_read" (spTelling K)) (n : Nat) (lot : List Int) (q : Str) (cl : List (Str × Addr)) (c f : Addr) : LOk P w K mg base CX0 2 f ⟨q, lamP lamT, lamB lamT, lamS lamT, cl, c⟩ ["pair"] ["lot"] (spLamT K n lot) := by
  refine lok_of nsT (fun pm ctv us hl => ?_) (fun ws vs H Q E hq => ?_) (fun A outer s H vs ws Q E hr _ hsp => ?_)
  · match us, hl with
    | [_], _ => rfl
  · obtain ⟨lb, _, _, a, L, rfl, _⟩ := hq
    rfl
  · obtain ⟨lb, rfl, hL, a, L, rfl, ha, ⟨x, y, rfl, hx, hy⟩, q⟩ := hsp
    refine ⟨_, pe_cmp (pc_notN (pc CTR hr (pa_cons (pv 0) (pa_cons (pv 1) pa_nil)))), ?_⟩
    refine ⟨_, rfl, _, rfl, a, x, y, lb, lot, rfl, ha, hL, ?_⟩
    have e : (!decide (optV (trd lot [x, y]) = V.non)) = gpT lot [x, y] := by
      unfold gpT
      cases trd lot [x, y] with
      | none => rfl
      | some r =>
        show (!decide (V.int r = V.non)) = true
        rw [decide_eq_false (fun z => nomatch z)]
        rfl
    show Q (.bl (!decide (optV (trd lot [x, y]) = V.non))) H
    rw [e]
    exact q
/-- a step that was handed back, as it may be called -/
structure GS where
  f : Addr
  F : LF
  l : CL
  v : V
  u : V
  fe : ∃ q cl c, F = ⟨q, lamP lamA, lamB lamA, lamS lamA, cl, c⟩
  cap : Cap F ["habit", "other"] [v, u] l
theorem StepL.ext {f : Addr} {F : LF} {v u : V} {l : CL} {H H' : Hp} (s : StepL f F v u l H) (e : ExtN H H') : StepL f F v u l H' := ⟨s.fe, s.live.ext e, s.cap⟩
theorem EX.get {H : Hp} {xs : List V} {ls : List (List Int)} {i : Nat} {x : V} {s : List Int} (h : EX H xs ls) (hx : xs[i]? = some x) (hs : ls[i]? = some s) : ∃ b, x = .ref b ∧ KX H b s := by
  obtain ⟨b, h1, h2⟩ := h.at hs
  rw [hx] at h1
  exact ⟨b, Option.some.inj h1, h2⟩
/-- which test is the shortest, of those that begin at some places -/
def ShR (h o : List (List Int)) (lot pre : List Int) : Option (Int × List Int × Int) → Prop
  | none => ∀ pl ∈ pre, ∀ w : List Int, (∀ p ∈ w, p ∈ lot) → trd lot [mark h pl w, mark o pl w] = none
  | some (pl, w, r) => pl ∈ pre ∧ (∀ p ∈ w, p ∈ lot) ∧ trd lot [mark h pl w, mark o pl w] = some r ∧ ∀ pl' ∈ pre, ∀ w' : List Int, (∀ p ∈ w', p ∈ lot) → (trd lot [mark h pl' w', mark o pl' w']).isSome = true → w.length ≤ w'.length
def ResV (K : PySem.W.Frag) (H : Hp) (val : V) : Option (Int × List Int × Int) → Prop
  | none => val = .non
  | some (pl, w, r) => ∃ t aw, val = .ref t ∧ Rd H t (.tup [.int pl, .ref aw, .int r]) ∧ Rd H aw (.tup (w.map V.int)) ∧ w.length ≤ 120
theorem ResV.on {K : PySem.W.Frag} {H H' : Hp} (e : TK H H') {val : V} : ∀ {res : Option (Int × List Int × Int)}, ResV K H val res → ResV K H' val res
  | none, h => h
  | some _, ⟨t, aw, h1, h2, h3, h4⟩ => ⟨t, aw, h1, e _ _ h2, e _ _ h3, h4⟩
def spShort (K : PySem.W.Frag) (T : List (Addr × Str)) : Sp := fun vs H Q _ => ∃ (v u : V) (h o : List (List Int)) (n : Nat) (lv : V) (lot : List Int), vs = [v, u, lv] ∧ TII K H v h ∧ TII K H u o ∧ Hb n h ∧ Hb n o ∧ TI K H lv lot ∧ (∀ i ∈ lot, InR n i) ∧ lot.length ≤ 1000 ∧ Tabs T H ∧
  ∀ (H' : Hp) (val : V) (res : Option (Int × List Int × Int)), ExtN H H' → Tabs T H' → ShR h o lot lot res → ResV K H' val res → Q val H'
theorem ok_short {c P1 P2 : Addr} (F : DfC K mg "shortest_test" st_shortest_test ["habit", "other", "lot"] c) (FD : Df K mg "least_word" st_least_word ["start", "touches", "step", "is_goal"]) (B : Bu mg) (TB : TabB base mg c P2) (hPP : P1 ≠ P2)
    (CT : Cal P w K mg base 1 "traced" (spTraced P w)) (CTR : Cal P w K mg base 1 "telling_read" (spTelling K)) (CFP : Cal P w K mg base 1 "first_pairs" (spFirst K)) (CPS : Cal P w K mg base 1 "pair_step" (spPairStep (tabsT P1 P2))) : Cal P w K mg base 4 "shortest_test" (spShort K (tabsT P1 P2)) := by
  obtain ⟨fD, fdD, FunD, gD, bD⟩ := FD.ex
  refine mkCalC F sc_shortest_test (fun vs H Q E h => ?_) (fun f A outer s H vs Q E hr h => ?_)
  · obtain ⟨v, u, h, o, n, lv, lot, rfl, _⟩ := h
    rfl
  · obtain ⟨v, u, h, o, n, lv, lot, rfl, hT, hU, hb, ho, hL, hin, hlen, hTb, q⟩ := h
    have hfr : ∀ y ∈ (lamS lamT).names, y.2 = .free → (defScope st_shortest_test).names.lookup y.1 = some .cell ∨ (defScope st_shortest_test).names.lookup y.1 = some .free := by decide +kernel
    have hcT : ∀ y ∈ (["lot"] : List Str), (y, NameKind.free) ∈ (lamS lamT).names := by decide +kernel
    let X : Cx := (cxOf CX0 P w K mg base ["habit", "other", "lot", "best", "step", "place", "first", "word", "marks", "touch"] "shortest_test" (defScope st_shortest_test) f (.ref c) A outer s H E).nox
    have hf2 : ∀ y ∈ (lamS lamT).names, y.2 = .free → X.env.scope.names.lookup y.1 = some .cell ∨ X.env.scope.names.lookup y.1 = some .free := hfr
    let mk2 : Addr → LF := fun c' => ⟨X.env.qual ++ "<lambda>", lamP lamT, lamB lamT, lamS lamT, cloFrom X.env.cells (lamS lamT).names [], c'⟩
    let preS : GL → L2.St → Hp → Prop := fun g σ H => ∃ (F1 : LF) (l : CL) (v1 u1 : V) (c2 : Addr) (lb : V), StepL g.f F1 v1 u1 l H ∧ σ[2]? = some (some lb) ∧ H g.f2 = some (FnL g.f2 (mk2 c2)) ∧ H c2 = some (CodeO c2 (mk2 c2).qual) ∧
      g.live = (fun H' => LiveK g.f F1 l H' ∧ TII K H' v1 h ∧ TII K H' u1 o) ∧ g.live2 = (fun H' => liveL g.f2 (mk2 c2) H' ∧ TI K H' lb lot) ∧ g.st = stP h o ∧ g.ts = lot ∧ g.C = CP n ∧ g.gp = gpT lot
    have stepC : ∀ (f1 : Addr) (F1 : LF) (l : CL) (v1 u1 : V) (outer : List Env) (s : Shared) (H0 : Hp), (∃ q cl c, F1 = ⟨q, lamP lamA, lamB lamA, lamS lamA, cl, c⟩) → Cap F1 ["habit", "other"] [v1, u1] l →
        Callable P w K mg base CX0 2 f1 (fun H' => LiveK f1 F1 l H' ∧ TII K H' v1 h ∧ TII K H' u1 o) (spStepG (stP h o) lot (CP n)) outer s H0 := by
      rintro f1 F1 l v1 u1 outer s H0 ⟨qn, cl, cc, rfl⟩ cap
      refine (callable_kept (lokA (P := P) (w := w) (K := K) (mg := mg) (base := base) h o n lot qn cl cc f1) cap).imp (fun H' lv => lv.1) (fun vs H' Q E lv hs => ?_)
      obtain ⟨lk, t1, t2⟩ := lv
      obtain ⟨a, L, p, rfl, ha, hC, hp, q⟩ := hs
      refine ⟨v1, u1, rfl, t1.on (era_tups lk.st), t2.on (era_tups lk.st), hb, ho, hin, a, L, p, rfl, lk.st.rd ha, hC, hp, fun H2 q2 sm nq kx gone => ?_⟩
      have nl : l.lookup q2 = none := by
        cases e : l.lookup q2 with
        | none => rfl
        | some y =>
          have := gone q2 y e
          rcases kx with z | ⟨ob, z⟩
          · rw [this] at z
            cases z
          · rw [this] at z
            cases z
      refine q (lay l H2) q2 (lk.st.on sm) ((era_no nl).symm.trans nq) ?_
      rcases kx with z | ⟨ob, z⟩
      · exact .inl ((lay_no nl).trans z)
      · exact .inr ⟨ob, (lay_no nl).trans z⟩
    have hP : ∀ (g : GL) (pins : List (Addr × Obj)) (σ : L2.St) (H : Hp) (s : Shared), Inv X pins σ H s → preS g σ H → preL P w K mg base g X.stack s H := by
      rintro g pins σ H s I ⟨F1, l, v1, u1, c2, lb, hS, h2, h3, h4, h5, h6, h7, h8, h9, h10⟩
      have C2 : CellsAt (mk2 c2).cl ["lot"] [some lb] s.heap H := by
        have := cells_of I (Caps.made (X := X) (fr := ["lot"]) (js := [2]) I.ok hf2 hcT rfl)
        rw [show ([2].map (slotAt σ)) = [some lb] from by rw [List.map_cons, slotAt_of h2]; rfl] at this
        exact this
      have Fn2 := lokT (P := P) (w := w) (mg := mg) (base := base) CTR n lot (mk2 c2).qual (mk2 c2).cl c2 g.f2
      constructor
      · rw [h5, h7, h8, h9]
        exact stepC g.f F1 l v1 u1 _ _ _ hS.fe hS.cap
      · rw [h6, h9, h10]
        refine (callable_lam Fn2 C2 fun y c0 e => frs_free I (fun _ => rfl) (NdefX.clo_cm (fun y hy e => (hf2 y hy e).elim (fun z => I.ok.has _ (.inl z)) fun z => I.ok.has _ (.inr z)) e)).imp (fun H' l => l.1) (fun vs H' Q E l hs => ⟨lb, rfl, l.2, hs⟩)
    have huT : ∀ p ∈ tabsT P1 P2, p.1 = P2 → p.2 = X.env.qual ++ "<lambda>" := fun p hp e => by
      rcases List.mem_cons.mp hp with rfl | hp
      · exact absurd e hPP
      · rw [List.mem_singleton.mp hp]
        rfl
    obtain ⟨al, rfl, hLs⟩ := id hL
    refine ⟨_, pss_cons (ps_set (i := 3) sc_shortest_test.nd rfl (.inl rfl) pe_non)
      (pss_cons (ps_set (i := 4) sc_shortest_test.nd rfl (.inl rfl) (pc CPS hr (pa_cons (pv 0) (pa_cons (pv 1) pa_nil))))
      (pss_cons (ps_for PassesOwn.never rfl (pi_zipM (by rfl) B.zip (pa_cons (pv 2) (pa_cons (pc CFP hr (pa_cons (pv 0) (pa_cons (pv 1) (pa_cons (pv 2) pa_nil)))) pa_nil))) (pg_tup rfl (pgs_cons (pg_name (i := 5) sc_shortest_test.nd rfl (.inl rfl)) (pgs_cons (pg_name (i := 6) sc_shortest_test.nd rfl (.inl rfl)) pgs_nil)))
        (pss_cons (ps_set (i := 7) sc_shortest_test.nd rfl (.inl rfl) (pe_callC (X := X) (preS := preS) (fun g => ok_least FunD B CT g) hP hr (by decide) rfl gD FunD.kp bD pass0 (pa_cons (pv 6) (pa_cons (pv 2) (pa_cons (pv 4)
          (pa_cons (pe_lam (T := tabsT P1 P2) (params := lamP lamT) (body := lamB lamT) (scope := lamS lamT) (pos := lamO lamT) TB rfl (by exact List.Mem.tail _ (List.Mem.head _)) huT rfl hf2) pa_nil))))))
        (pss_one (ps_if (PW.pt (pw_and (pt_cmp (pc_notN (pv 7))) (pw_and1 (PW.pt (pw_or (pt_cmp (pc_isN (pv 3))) (pw_or1 (pt_cmpR op_lt (pe_callB (cl_len K) (by rfl) B.len PySem.boot_len (pa_cons (pv 7) pa_nil)) (pe_callB (cl_len K) (by rfl) B.len PySem.boot_len (pa_cons (pe_ix (ixT K) (pv 3) pe_int (fun _ _ => rfl)) pa_nil)) (nomark _))))))))
          (pss_cons (ps_set (i := 8) sc_shortest_test.nd rfl (.inl rfl) (pv 6))
          (pss_cons (ps_for PassesOwn.never rfl (pi_tup (pv 7)) (pg_name (i := 9) sc_shortest_test.nd rfl (.inl rfl))
            (pss_one (ps_set (i := 8) sc_shortest_test.nd rfl (.inl rfl) (pe_canK (X := X) (fa := GS.f) (live := fun g H' => LiveK g.f g.F g.l H' ∧ TII K H' g.v h ∧ TII K H' g.u o) (i := 4) (sp := fun _ => spStepG (stP h o) lot (CP n)) (fun g => stepC g.f g.F g.l g.v g.u X.outer X.s_0 X.H_0 g.fe g.cap) rfl hr (by decide) pass0 rfl (Or.inl rfl) (pa_cons (pv 8) (pa_cons (pv 9) pa_nil))))))
          (pss_one (ps_set (i := 3) sc_shortest_test.nd rfl (.inl rfl) (pe_tup (pa_cons (pv 5) (pa_cons (pv 7) (pa_cons (pc CTR hr (pa_cons (pv 8) (pa_cons (pv 2) pa_nil))) pa_nil)))))))) pss_nil))))
      (pss_one (ps_ret (pv 3))))), ?_⟩
    refine ⟨_, rfl, _, rfl, v, u, rfl, hTb, fun f1 F1 l H1 ex1 tb1 st1 => ?_⟩
    have hT1 := hT.on (extN_tups (K := K) ex1)
    have hU1 := hU.on (extN_tups (K := K) ex1)
    have hL1 := hL.on (extN_tups (K := K) ex1)
    obtain ⟨_, e', hLs1⟩ := id hL1
    cases e'
    refine ⟨_, rfl, _, rfl, _, rfl, _, rfl, v, u, h, o, n, .ref al, lot, rfl, hT1, hU1, hb, ho, hL1, hin, hlen, fun H2 ls xs s2 eL hX => ?_⟩
    have lx : xs.length = lot.length := hX.len.trans (List.length_map ..)
    refine ⟨al, ls, _, _, rfl, onT s2 hLs1, lstAt eL, ?_⟩
    refine for_zipM (xs := lot.map V.int) (ys := xs) (by rw [List.length_map, lx]) (fun i σ H' => ExtN H2 H' ∧ Tabs (tabsT P1 P2) H' ∧ ∃ val res y5 y6 y7 y8 y9, σ = [some v, some u, some (.ref al), some val, some (.ref f1), y5, y6, y7, y8, y9] ∧ ShR h o lot (lot.take i) res ∧ ResV K H' val res)
      ⟨ExtN.of fun _ _ e => e, tabs_same tb1 s2, .non, none, none, none, none, none, none, rfl, fun _ z => (nomatch z), rfl⟩ (fun i σ H' h' => ⟨extN_tups (K := K) h'.1 _ _ (onT s2 hLs1), lstAt (h'.1 _ _ eL (fun ps z => nomatch z))⟩) (fun i x y T σ H3 hx hy h' hTn => ?_) (fun σ H3 h' => ?_)
    · obtain ⟨ex3, tb3, val, res, y5, y6, y7, y8, y9, rfl, hR, hV⟩ := h'
      obtain ⟨pl, hpl, rfl⟩ := map_at hx
      obtain ⟨b, rfl, hb3⟩ := (hX.on (extN_tk ex3)).get hy (by rw [List.getElem?_map, hpl]; rfl)
      have hplm := List.mem_of_getElem? hpl
      have hpin := hin pl hplm
      have sT := same_new (o := .tup [.int pl, .ref b]) hTn
      have exT : ExtN H1 (upd H3 T (.tup [.int pl, .ref b])) := ((extN_same s2).trans ex3).trans (extN_same sT)
      refine ⟨T, _, rfl, tupAt upd_same, rfl, _, _, rfl, _, _, rfl, rfl, ?_⟩
      refine ⟨_, rfl, _, rfl, _, rfl, tabs_same tb3 sT, fun f2 c2 H4 ex4 nn T4 nf e1 e2 => ?_⟩
      have exA : ExtN H1 H4 := exT.trans ex4
      have stA := st1.ext exA
      have hTA := hT1.on (extN_tups (K := K) exA)
      have hUA := hU1.on (extN_tups (K := K) exA)
      have hLA := hL1.on (extN_tups (K := K) exA)
      have tk34 : TK H3 H4 := (TK.same sT).trans (extN_tk ex4)
      have hbA := tk34 _ _ hb3
      have hVA := hV.on tk34
      have exB : ExtN H2 H4 := ex3.trans ((extN_same sT).trans ex4)
      obtain ⟨_, e', hLsA⟩ := id hLA
      cases e'
      refine ⟨⟨f1, fun H' => LiveK f1 F1 l H' ∧ TII K H' v h ∧ TII K H' u o, stP h o, lot, CP n, UP n, f2, fun H' => liveL f2 (mk2 c2) H' ∧ TI K H' (.ref al) lot, gpT lot⟩, ⟨F1, l, v, u, c2, .ref al, stA, rfl, e1, e2, rfl, rfl, rfl, rfl, rfl, rfl⟩,
        b, al, fpr h o pl, rfl, hbA, hLsA, fun H' sm => ⟨stA.live.same sm, hTA.on (Same.tups sm), hUA.on (Same.tups sm)⟩, fun H' sm => ⟨⟨sm _ _ e1, sm _ _ e2⟩, hLA.on (Same.tups sm)⟩, sysP hb ho hin hlen, ⟨_, _, rfl, hb.mvR hpin hpin, ho.mvR hpin hpin⟩, fun H5 qw wd s5 ls1 ew hwl => ?_, fun H5 s5 hno => ?_⟩
      · -- a word
        have tk5 := TK.same s5
        have ex5 := extN_same s5
        have hlw := ls1.at_
        rw [rn_pair] at hlw
        obtain ⟨rr, hrr⟩ : ∃ rr, trd lot [mark h pl wd, mark o pl wd] = some rr := Option.isSome_iff_exists.mp hlw
        have hmin : ∀ w' : List Int, (∀ p ∈ w', p ∈ lot) → (trd lot [mark h pl w', mark o pl w']).isSome = true → wd.length ≤ w'.length := fun w' hw' hs => ls1.min w' hw' (by rw [rn_pair]; exact hs)
        have hnew : ∀ (hold : ∀ pl' ∈ lot.take i, ∀ w' : List Int, (∀ p ∈ w', p ∈ lot) → (trd lot [mark h pl' w', mark o pl' w']).isSome = true → wd.length ≤ w'.length), ShR h o lot (lot.take (i + 1)) (some (pl, wd, rr)) := fun hold => by
          rw [take_more hpl]
          refine ⟨List.mem_append_right _ (List.mem_singleton.mpr rfl), ls1.wd, hrr, fun pl' hm w' hw' hs => ?_⟩
          rcases List.mem_append.mp hm with z | z
          · exact hold pl' z w' hw' hs
          · rw [List.mem_singleton.mp z] at hs
            exact hmin w' hw' hs
        refine ⟨_, rfl, _, rfl, ifT (by rw [ref_non]; rfl) ?_⟩
        -- whether it is better
        refine ⟨_, rfl, _, rfl, ?_⟩
        have hV5 := hVA.on tk5
        cases res with
        | none =>
          have ev : val = .non := hV5
          subst ev
          have hold : ∀ pl' ∈ lot.take i, ∀ w' : List Int, (∀ p ∈ w', p ∈ lot) → (trd lot [mark h pl' w', mark o pl' w']).isSome = true → wd.length ≤ w'.length := fun pl' hm w' hw' hs => by
            rw [hR pl' hm w' hw'] at hs
            cases hs
          refine ifT (decide_eq_true rfl) (ifT rfl ?_)
          refine ⟨_, rfl, _, rfl, qw, rfl, ⟨_, tupAt ew⟩, ?_⟩
          refine for_tup (xs := wd.map V.int) (fun j σ H' => Same H5 H' ∧ ∃ m y, σ = [some v, some u, some (.ref al), some V.non, some (.ref f1), some (.int pl), some (.ref b), some (.ref qw), some (.ref m), y] ∧ KX H' m [mark h pl (wd.take j), mark o pl (wd.take j)])
            ⟨Same.refl _, b, y9, rfl, tk5 _ _ hbA⟩ (fun j σ H' _ h' => onT h'.1 (tupAt ew)) (fun j x σ H6 hx2 h' => ?_) (fun σ H6 h' => ?_)
          · obtain ⟨t, ht, rfl⟩ := map_at hx2
            obtain ⟨sm, m, y, rfl, hm⟩ := h'
            have sm5 := s5.trans sm
            have wdR : ∀ t ∈ wd.take j, InR n t := fun t ht => hin t (ls1.wd t (List.mem_of_mem_take ht))
            have lv6 : LiveK f1 F1 l H6 ∧ TII K H6 v h ∧ TII K H6 u o := ⟨stA.live.same sm5, hTA.on (Same.tups sm5), hUA.on (Same.tups sm5)⟩
            refine ⟨⟨f1, F1, l, v, u, stA.fe, stA.cap⟩, rfl, lv6, _, rfl, _, rfl, lv6, m, _, t, rfl, hm, ⟨_, _, rfl, hb.mark hpin _ wdR, ho.mark hpin _ wdR⟩, ls1.wd t (List.mem_of_getElem? ht), fun H7 q7 s7 nq kx => ⟨sm.trans s7, q7, _, rfl, ?_⟩⟩
            rw [take_more ht, mark_snoc, mark_snoc]
            exact kx
          · obtain ⟨sm, m, y, rfl, hm⟩ := h'
            rw [List.length_map, List.take_length] at hm
            have sm5 := s5.trans sm
            refine ⟨_, rfl, _, rfl, _, rfl, _, rfl, m, _, _, .ref al, lot, rfl, hm, hLA.on (Same.tups sm5), ?_⟩
            rw [hrr]
            refine ⟨by show 3 ≤ sizeLine; decide, fun T5 hT5 => ?_⟩
            have s7 := same_new (o := .tup [.int pl, .ref qw, .int rr]) hT5
            exact ⟨exB.trans (extN_same (sm5.trans s7)), tabs_same T4 (sm5.trans s7), .ref T5, some (pl, wd, rr), _, _, _, _, _, rfl, hnew hold, T5, qw, rfl, .inl upd_same, .inl (s7 _ _ (sm _ _ ew)), hwl⟩
        | some r3 =>
          obtain ⟨r1, r2, r3⟩ := r3
          obtain ⟨g1, g2, g3, g4⟩ := id hR
          obtain ⟨t0, aw, rfl, ht0, haw, hw0⟩ := id hV5
          refine ifF (ref_non _) ⟨_, rfl, qw, wd.map V.int, rfl, .inr (tupAt ew), _, rfl, t0, _, 1, .ref aw, rfl, rfl, .inl ht0, rfl, aw, r2.map V.int, rfl, .inr (.inl haw), _, _, rfl, rfl, _, rfl, ite2 (fun e => ?_) (fun e => ?_)⟩
          · have hlt : wd.length < r2.length := by
              have := of_decide_eq_true e
              rw [List.length_map, List.length_map] at this
              omega
            have hold : ∀ pl' ∈ lot.take i, ∀ w' : List Int, (∀ p ∈ w', p ∈ lot) → (trd lot [mark h pl' w', mark o pl' w']).isSome = true → wd.length ≤ w'.length := fun pl' hm w' hw' hs => by
              have := g4 pl' hm w' hw' hs
              omega
            refine ⟨_, rfl, _, rfl, qw, rfl, ⟨_, tupAt ew⟩, ?_⟩
            refine for_tup (xs := wd.map V.int) (fun j σ H' => Same H5 H' ∧ ∃ m y, σ = [some v, some u, some (.ref al), some (V.ref t0), some (.ref f1), some (.int pl), some (.ref b), some (.ref qw), some (.ref m), y] ∧ KX H' m [mark h pl (wd.take j), mark o pl (wd.take j)])
              ⟨Same.refl _, b, y9, rfl, tk5 _ _ hbA⟩ (fun j σ H' _ h' => onT h'.1 (tupAt ew)) (fun j x σ H6 hx2 h' => ?_) (fun σ H6 h' => ?_)
            · obtain ⟨t, ht, rfl⟩ := map_at hx2
              obtain ⟨sm, m, y, rfl, hm⟩ := h'
              have sm5 := s5.trans sm
              have wdR : ∀ t ∈ wd.take j, InR n t := fun t ht => hin t (ls1.wd t (List.mem_of_mem_take ht))
              have lv6 : LiveK f1 F1 l H6 ∧ TII K H6 v h ∧ TII K H6 u o := ⟨stA.live.same sm5, hTA.on (Same.tups sm5), hUA.on (Same.tups sm5)⟩
              refine ⟨⟨f1, F1, l, v, u, stA.fe, stA.cap⟩, rfl, lv6, _, rfl, _, rfl, lv6, m, _, t, rfl, hm, ⟨_, _, rfl, hb.mark hpin _ wdR, ho.mark hpin _ wdR⟩, ls1.wd t (List.mem_of_getElem? ht), fun H7 q7 s7 nq kx => ⟨sm.trans s7, q7, _, rfl, ?_⟩⟩
              rw [take_more ht, mark_snoc, mark_snoc]
              exact kx
            · obtain ⟨sm, m, y, rfl, hm⟩ := h'
              rw [List.length_map, List.take_length] at hm
              have sm5 := s5.trans sm
              refine ⟨_, rfl, _, rfl, _, rfl, _, rfl, m, _, _, .ref al, lot, rfl, hm, hLA.on (Same.tups sm5), ?_⟩
              rw [hrr]
              refine ⟨by show 3 ≤ sizeLine; decide, fun T5 hT5 => ?_⟩
              have s7 := same_new (o := .tup [.int pl, .ref qw, .int rr]) hT5
              exact ⟨exB.trans (extN_same (sm5.trans s7)), tabs_same T4 (sm5.trans s7), .ref T5, some (pl, wd, rr), _, _, _, _, _, rfl, hnew hold, T5, qw, rfl, .inl upd_same, .inl (s7 _ _ (sm _ _ ew)), hwl⟩
          · have hge : r2.length ≤ wd.length := by
              have : ¬ ((wd.map V.int).length : Int) < ((r2.map V.int).length : Int) := fun z => e (decide_eq_true z)
              rw [List.length_map, List.length_map] at this
              omega
            refine ⟨exB.trans (extN_same s5), tabs_same T4 s5, .ref t0, some (r1, r2, r3), _, _, _, _, _, rfl, ?_, hV5⟩
            rw [take_more hpl]
            refine ⟨List.mem_append_left _ g1, g2, g3, fun pl' hm w' hw' hs => ?_⟩
            rcases List.mem_append.mp hm with z | z
            · exact g4 pl' z w' hw' hs
            · rw [List.mem_singleton.mp z] at hs
              have := hmin w' hw' hs
              omega
      · -- none
        refine ⟨_, rfl, _, rfl, ifF rfl ?_⟩
        refine ⟨exB.trans (extN_same s5), tabs_same T4 s5, val, res, _, _, _, _, _, rfl, ?_, hVA.on (TK.same s5)⟩
        have hno' : ∀ w' : List Int, (∀ p ∈ w', p ∈ lot) → trd lot [mark h pl w', mark o pl w'] = none := fun w' hw' => by
          have : gpT lot (rn (stP h o) (fpr h o pl) w') = false := hno w' hw'
          rw [rn_pair] at this
          cases e : trd lot [mark h pl w', mark o pl w'] with
          | none => rfl
          | some z =>
            unfold gpT at this
            rw [e] at this
            cases this
        rw [take_more hpl]
        cases res with
        | none =>
          intro pl' hm w' hw'
          rcases List.mem_append.mp hm with z | z
          · exact hR pl' z w' hw'
          · rw [List.mem_singleton.mp z]
            exact hno' w' hw'
        | some r3 =>
          obtain ⟨r1, r2, r3⟩ := r3
          obtain ⟨g1, g2, g3, g4⟩ := hR
          refine ⟨List.mem_append_left _ g1, g2, g3, fun pl' hm w' hw' hs => ?_⟩
          rcases List.mem_append.mp hm with z | z
          · exact g4 pl' z w' hw' hs
          · rw [List.mem_singleton.mp z, hno' w' hw'] at hs
            cases hs
    · obtain ⟨ex3, tb3, val, res, y5, y6, y7, y8, y9, rfl, hR, hV⟩ := h'
      rw [List.length_map, List.take_length] at hR
      exact ⟨_, rfl, q H3 val res (ex1.trans ((extN_same s2).trans ex3)) tb3 hR hV⟩
end
end RH
set_option Elab.async false
set_option linter.all false
set_option maxRecDepth 100000
set_option maxHeartbeats 2000000
namespace RH
open PySem PySem.Spec PyProof.Rows L2
open LamX (Tabs TabS TabB ExtN CodeO codeO_ne)
/-! ### the checks, for values of some kinds -/
inductive Sc : V → Prop
  | int (i : Int) : Sc (.int i)
  | bl : Sc (.bl true)
  | non : Sc .non
def isI : V → Bool
  | .int _ => true
  | _ => false
def inV2 (lo hi : Int) : V → Bool
  | .int i => decide (lo ≤ i) && decide (i ≤ hi)
  | _ => false
def ofl (p : Int) (lot : List Int) : V → Bool
  | .int i => decide (0 ≤ i) && decide (i ≤ p - 1) && decide (i ∈ lot)
  | _ => false
/-- a word, or what is none -/
inductive Wk (K : PySem.W.Frag) (H : Hp) : V → Option (List Int) → Prop
  | tup {v : V} {ws : List Int} : TI K H v ws → ws.length ≤ 900 → Wk K H v (some ws)
  | int (i : Int) : Wk K H (.int i) none
  | lst {a : Addr} {xs : List V} : SqL K H a xs → Wk K H (.ref a) none
def wkB (p : Int) (lot : List Int) : Option (List Int) → Bool
  | some ws => inP p ws && ws.all fun t => decide (t ∈ lot)
  | none => false
section
variable {P : Program} {w : World} {K : PySem.W.Frag} {mg : Str → Option Value} {base : Heap}
def spIsIntegerV : Sp := fun vs H Q _ => ∃ v, vs = [v] ∧ Sc v ∧ Q (.bl (isI v)) H
theorem ok_is_integerV (F : Df K mg "is_integer" st_is_integer ["value"]) (B : Bu mg) : Cal P w K mg base 1 "is_integer" spIsIntegerV := by
  refine mkCal F sc_is_integer (fun vs H Q E h => ?_) (fun f cdv A outer s H vs Q E hr h => ?_)
  · obtain ⟨v, rfl, _⟩ := h
    rfl
  · obtain ⟨v, rfl, hv, q⟩ := h
    refine ⟨_, pss_one (ps_ret (pe_and (pe_callB call_isi (by rfl) B.isi (by decide +kernel) (pa_cons (pv 0) (pa_cons (pe_bltn (v := .ty "int") (by rfl) B.int (by decide +kernel) rfl) pa_nil)))
      (pe_one (pe_not (pe_callB call_isi (by rfl) B.isi (by decide +kernel) (pa_cons (pv 0) (pa_cons (pe_bltn (v := .ty "bool") (by rfl) B.bool (by decide +kernel) rfl) pa_nil))))))), ?_⟩
    cases hv with
    | int i => exact ⟨_, rfl, .int i, .ty "int", _, _, true, rfl, .ty "int", .base (.int i), kit_ty (by decide +kernel), true, rfl, _, rfl, .int i, .ty "bool", _, _, false, rfl, .ty "bool", .base (.int i), kit_ty (by decide +kernel), false, rfl, q⟩
    | bl => exact ⟨_, rfl, .bl true, .ty "int", _, _, true, rfl, .ty "int", .base (.bl true), kit_ty (by decide +kernel), true, rfl, _, rfl, .bl true, .ty "bool", _, _, true, rfl, .ty "bool", .base (.bl true), kit_ty (by decide +kernel), true, rfl, q⟩
    | non => exact ⟨_, rfl, .non, .ty "int", _, _, false, rfl, .ty "int", .base .non, kit_ty (by decide +kernel), false, rfl, q⟩
def spIsNumberV : Sp := fun vs H Q _ => ∃ (v : V) (lo hi : Int), vs = [v, .int lo, .int hi] ∧ Sc v ∧ Q (.bl (inV2 lo hi v)) H
theorem ok_is_numberV (F : Df K mg "is_number" st_is_number ["value", "low", "high"]) (C1 : Cal P w K mg base 1 "is_integer" spIsIntegerV) : Cal P w K mg base 2 "is_number" spIsNumberV := by
  refine mkCal F sc_is_number (fun vs H Q E h => ?_) (fun f cdv A outer s H vs Q E hr h => ?_)
  · obtain ⟨v, lo, hi, rfl, _⟩ := h
    rfl
  · obtain ⟨v, lo, hi, rfl, hv, q⟩ := h
    refine ⟨_, pss_one (ps_ret (pe_and (pc C1 hr (pa_cons (pv 0) pa_nil)) (pe_one (pe_chain op_le op_le (pv 1) (pv 0) (pv 2))))), ?_⟩
    refine ⟨_, rfl, v, rfl, hv, ?_⟩
    cases hv with
    | int i =>
      refine ⟨true, rfl, _, rfl, _, rfl, lo, i, rfl, rfl, _, rfl, ite2 (fun e => ?_) (fun e => ?_)⟩
      · refine ⟨_, rfl, i, hi, rfl, rfl, ?_⟩
        have q : Q (.bl (decide (lo ≤ i) && decide (i ≤ hi))) H := q
        rw [e, Bool.true_and] at q
        exact q
      · have e' : decide (lo ≤ i) = false := by simpa using e
        have q : Q (.bl (decide (lo ≤ i) && decide (i ≤ hi))) H := q
        rw [e', Bool.false_and] at q
        exact q
    | bl => exact ⟨false, rfl, q⟩
    | non => exact ⟨false, rfl, q⟩
def spIsPlaceV : Sp := fun vs H Q _ => ∃ (v : V) (p : Int), vs = [v, .int p] ∧ Sc v ∧ Q (.bl (inV2 0 (p - 1) v)) H
theorem ok_is_placeV (F : Df K mg "is_place" st_is_place ["value", "places"]) (C2 : Cal P w K mg base 2 "is_number" spIsNumberV) : Cal P w K mg base 3 "is_place" spIsPlaceV := by
  refine mkCal F sc_is_place (fun vs H Q E h => ?_) (fun f cdv A outer s H vs Q E hr h => ?_)
  · obtain ⟨v, p, rfl, _⟩ := h
    rfl
  · obtain ⟨v, p, rfl, hv, q⟩ := h
    refine ⟨_, pss_one (ps_ret (pc C2 hr (pa_cons (pv 0) (pa_cons pe_int (pa_cons (pe_op op_sub (pv 1) pe_int) pa_nil))))), ?_⟩
    exact ⟨_, rfl, _, rfl, p, 1, rfl, rfl, v, 0, p - 1, rfl, hv, q⟩
def spIsOfLotV (K : PySem.W.Frag) : Sp := fun vs H Q _ => ∃ (x v : V) (ns : List Int) (p : Int), vs = [x, v, .int p] ∧ Sc x ∧ TI K H v ns ∧ Q (.bl (ofl p ns x)) H
theorem ok_is_of_lotV (F : Df K mg "is_of_lot" st_is_of_lot ["value", "lot", "places"]) (C3 : Cal P w K mg base 3 "is_place" spIsPlaceV) : Cal P w K mg base 4 "is_of_lot" (spIsOfLotV K) := by
  refine mkCal F sc_is_of_lot (fun vs H Q E h => ?_) (fun f cdv A outer s H vs Q E hr h => ?_)
  · obtain ⟨x, v, ns, p, rfl, _⟩ := h
    rfl
  · obtain ⟨x, v, ns, p, rfl, hx, ⟨a, rfl, hS⟩, q⟩ := h
    refine ⟨_, pss_one (ps_ret (pe_and (pc C3 hr (pa_cons (pv 0) (pa_cons (pv 2) pa_nil))) (pe_one (pe_cmpR (opIn K) (pv 0) (pv 1) rfl)))), ?_⟩
    refine ⟨_, rfl, _, rfl, x, p, rfl, hx, ?_⟩
    cases hx with
    | int i =>
      refine ⟨_, rfl, ite2 (fun e => ?_) (fun e => ?_)⟩
      · refine ⟨_, rfl, _, rfl, a, _, rfl, .inr hS, rfl, flat_ints ns, ?_⟩
        have q : Q (.bl (inV2 0 (p - 1) (.int i) && decide (i ∈ ns))) H := q
        rw [e, Bool.true_and] at q
        show Q (.bl (inV (.int i) (ns.map V.int))) H
        rw [inV_int]
        exact q
      · have e' : inV2 0 (p - 1) (.int i) = false := by simpa using e
        have q : Q (.bl (inV2 0 (p - 1) (.int i) && decide (i ∈ ns))) H := q
        rw [e', Bool.false_and] at q
        exact q
    | bl => exact ⟨false, rfl, q⟩
    | non => exact ⟨false, rfl, q⟩
def spArePlacesV (K : PySem.W.Frag) : Sp := fun vs H Q _ => ∃ (v : V) (wo : Option (List Int)) (p : Int), vs = [v, .int p] ∧ Wk K H v wo ∧ ∀ H', Same H H' → Q (.bl (match wo with | some ws => inP p ws | none => false)) H'
theorem ok_are_placesV (F : Df K mg "are_places" st_are_places ["value", "places"]) (B : Bu mg) (C3 : Cal P w K mg base 3 "is_place" spIsPlace) : Cal P w K mg base 4 "are_places" (spArePlacesV K) := by
  refine mkCal F sc_are_places (fun vs H Q E h => ?_) (fun f cdv A outer s H vs Q E hr h => ?_)
  · obtain ⟨v, wo, p, rfl, _⟩ := h
    rfl
  · obtain ⟨v, wo, p, rfl, hw, q⟩ := h
    refine ⟨_, pss_one (ps_ret (pe_and (pe_callB call_isi (by rfl) B.isi (by decide +kernel) (pa_cons (pv 0) (pa_cons (pe_bltn (v := .ty "tuple") (by rfl) B.tuple (by decide +kernel) rfl) pa_nil)))
      (pe_one (pe_callB (cr_all rfl) (by rfl) B.all (by decide +kernel) (pa_cons (pe_lc (own := [("place", 2)]) (g := gName 2) (tt := tYes) rfl sc_are_places.nd (pi_tup (pv 0)) (blkOk_by (N := ["value", "places", "place"]) (sc := defScope st_are_places) (by decide +kernel))
        (fun _ _ _ _ _ => pg_name (i := 2) sc_are_places.nd rfl (Or.inl rfl)) (fun _ _ _ _ _ => pts_nil) (fun _ _ _ _ _ => pc C3 hr (pa_cons (pv 2) (pa_cons (pv 1) pa_nil)))) pa_nil))))), ?_⟩
    cases hw with
    | int i => exact ⟨_, rfl, .int i, .ty "tuple", _, _, false, rfl, .ty "tuple", .base (.int i), kit_ty (by decide +kernel), false, rfl, q H (Same.refl H)⟩
    | @lst a xs hS => exact ⟨_, rfl, .ref a, .ty "tuple", _, _, false, rfl, .ty "tuple", ty_lst hS, kit_ty (by decide +kernel), false, rfl, q H (Same.refl H)⟩
    | @tup v ns hT hlen =>
      obtain ⟨a, rfl, hS⟩ := hT
      refine ⟨_, rfl, .ref a, .ty "tuple", _, _, true, rfl, .ty "tuple", ty_tup hS, kit_ty (by decide +kernel), true, rfl, ?_⟩
      refine ⟨_, rfl, a, rfl, ⟨_, hS⟩, fun D hD => ?_⟩
      refine lc_tup (xs := ns.map V.int) (fun i H' => Same H H' ∧ H' D = some (.lst (((ns.take i).map fun i => decide (0 ≤ i) && decide (i ≤ p - 1)).map V.bl))) ⟨same_new hD, upd_same⟩ (fun i H' _ h' => onT h'.1 hS) (fun i x H' hx h' => ?_) (fun H' h' => ?_)
      · obtain ⟨n, hn, rfl⟩ := map_at hx
        obtain ⟨sm, eD⟩ := h'
        refine ⟨rfl, _, rfl, _, rfl, n, p, rfl, _, eD, ?_, ?_, ?_⟩
        · rw [List.length_map, List.length_map, List.length_take]
          exact small1000 (by omega)
        · intro b o e
          rw [upd_ne (ne_of_none e hD)]
          exact sm b o e
        · rw [upd_same, all_snoc _ hn, List.map_append]
          rfl
      · obtain ⟨sm, eD⟩ := h'
        rw [List.length_map, List.take_length] at eD
        refine ⟨D, _, rfl, lstAt eD, ?_⟩
        have e : ((ns.map fun i => decide (0 ≤ i) && decide (i ≤ p - 1)).all id) = inP p ns := by
          unfold inP
          rw [List.all_map]
          rfl
        rw [e]
        exact q H' sm
theorem Wk.on {H H' : Hp} {v : V} {wo : Option (List Int)} (e : Same H H') (h : Wk K H v wo) : Wk K H' v wo := by
  cases h with
  | tup h1 h2 => exact .tup (h1.on (Same.tups e)) h2
  | int i => exact .int i
  | lst h => exact .lst (e.seq h)
/-- is it a test of the lot? -/
def tstV (p : Int) (lot : List Int) (a : V) (wo : Option (List Int)) (r : V) : Bool := ofl p lot a && ofl p lot r && wkB p lot wo
def spIsTestV (K : PySem.W.Frag) : Sp := fun vs H Q _ => ∃ (a wv r lv : V) (wo : Option (List Int)) (ns : List Int) (p : Int), vs = [a, wv, r, lv, .int p] ∧ Sc a ∧ Sc r ∧ Wk K H wv wo ∧ TI K H lv ns ∧ ∀ H', Same H H' → Q (.bl (tstV p ns a wo r)) H'
theorem ok_is_testV (F : Df K mg "is_test" st_is_test ["place", "word", "read", "lot", "places"]) (B : Bu mg) (CO : Cal P w K mg base 4 "is_of_lot" (spIsOfLotV K)) (C4 : Cal P w K mg base 4 "are_places" (spArePlacesV K)) : Cal P w K mg base 5 "is_test" (spIsTestV K) := by
  refine mkCal F sc_is_test (fun vs H Q E h => ?_) (fun f cdv A outer s H vs Q E hr h => ?_)
  · obtain ⟨a, wv, r, lv, wo, ns, p, rfl, _⟩ := h
    rfl
  · obtain ⟨a, wv, r, lv, wo, ns, p, rfl, ha, hr2, hw, hL, q⟩ := h
    obtain ⟨al, rfl, hLs⟩ := id hL
    refine ⟨_, pss_cons (ps_if (PW.pt (pw_or (pt_not (pt_val (pc CO hr (pa_cons (pv 0) (pa_cons (pv 3) (pa_cons (pv 4) pa_nil)))))) (pw_or1 (pt_not (pt_val (pc CO hr (pa_cons (pv 2) (pa_cons (pv 3) (pa_cons (pv 4) pa_nil))))))))) (pss_one (ps_ret pe_bl)) pss_nil)
      (pss_one (ps_ret (pe_and (pc C4 hr (pa_cons (pv 1) (pa_cons (pv 4) pa_nil))) (pe_one (pe_callB (cr_all rfl) (by rfl) B.all (by decide +kernel) (pa_cons (pe_lc (own := [("touch", 5)]) (g := gName 5) (tt := tYes) rfl sc_is_test.nd (pi_tup (pv 1))
        (blkOk_by (N := ["place", "word", "read", "lot", "places", "touch"]) (sc := defScope st_is_test) (by decide +kernel)) (fun _ _ _ _ _ => pg_name (i := 5) sc_is_test.nd rfl (Or.inl rfl)) (fun _ _ _ _ _ => pts_nil) (fun _ _ _ _ _ => pe_cmpR (opIn K) (pv 5) (pv 3) rfl)) pa_nil)))))), ?_⟩
    refine ⟨_, rfl, _, rfl, _, rfl, a, .ref al, ns, p, rfl, ha, hL, _, rfl, ?_⟩
    cases ea : ofl p ns a with
    | false =>
      refine ifT (by rfl) (ifT rfl ?_)
      have q := q H (Same.refl H)
      unfold tstV at q
      rw [ea, Bool.false_and, Bool.false_and] at q
      exact q
    | true =>
      refine ifF (by rfl) ⟨_, rfl, _, rfl, _, rfl, r, .ref al, ns, p, rfl, hr2, hL, _, rfl, ?_⟩
      cases er : ofl p ns r with
      | false =>
        refine ifT (by rfl) ?_
        have q := q H (Same.refl H)
        unfold tstV at q
        rw [ea, er, Bool.true_and, Bool.false_and] at q
        exact q
      | true =>
        refine ifF (by rfl) ⟨_, rfl, _, rfl, wv, wo, p, rfl, hw, fun H1 s1 => ?_⟩
        have q : ∀ H', Same H H' → Q (.bl (wkB p ns wo)) H' := fun H' s => by
          have q := q H' s
          unfold tstV at q
          rw [ea, er, Bool.true_and, Bool.true_and] at q
          exact q
        cases hw with
        | int i => exact ⟨false, rfl, q H1 s1⟩
        | lst hS => exact ⟨false, rfl, q H1 s1⟩
        | @tup v ws hT hlen =>
          obtain ⟨aw, rfl, hW⟩ := hT
          refine ⟨_, rfl, ite2 (fun e => ?_) (fun e => ?_)⟩
          · refine ⟨_, rfl, aw, rfl, ⟨_, onT s1 hW⟩, fun D hD => ?_⟩
            refine lc_tup (xs := ws.map V.int) (fun i H' => Same H1 H' ∧ H' D = some (.lst (((ws.take i).map fun t => decide (t ∈ ns)).map V.bl))) ⟨same_new hD, upd_same⟩ (fun i H' _ h' => onT h'.1 (onT s1 hW)) (fun i x H' hx h' => ?_) (fun H' h' => ?_)
            · obtain ⟨t, ht, rfl⟩ := map_at hx
              obtain ⟨sm, eD⟩ := h'
              refine ⟨rfl, _, rfl, _, rfl, al, _, rfl, .inr (onT sm (onT s1 hLs)), rfl, flat_ints ns, _, eD, ?_, Same.upd sm hD, ?_⟩
              · rw [List.length_map, List.length_map, List.length_take]
                exact small1000 (by omega)
              · rw [upd_same, all_snoc _ ht, List.map_append]
                show some (HO.lst (_ ++ [V.bl (inV (.int t) (ns.map V.int))])) = _
                rw [inV_int]
                rfl
            · obtain ⟨sm, eD⟩ := h'
              rw [List.length_map, List.take_length] at eD
              refine ⟨D, _, rfl, lstAt eD, ?_⟩
              have e2 : ((ws.map fun t => decide (t ∈ ns)).all id) = wkB p ns (some ws) := by
                have e3 : inP p ws = true := e
                rw [List.all_map]
                show _ = (inP p ws && ws.all fun t => decide (t ∈ ns))
                rw [e3, Bool.true_and]
                rfl
              rw [e2]
              exact q H' (s1.trans sm)
          · have e2 : wkB p ns (some ws) = false := by
              have e' : inP p ws = false := by
                have e3 : ¬ inP p ws = true := e
                simpa using e3
              show (inP p ws && ws.all fun t => decide (t ∈ ns)) = false
              rw [e', Bool.false_and]
            have q := q H1 s1
            rw [e2] at q
            exact q
/-! ### is_row, of whatever -/
inductive Rk (K : PySem.W.Frag) (H : Hp) : V → Option (List V) → Prop
  | tup {a : Addr} {xs : List V} : SqT K H a xs → Rk K H (.ref a) (some xs)
  | lst {a : Addr} {xs : List V} : SqL K H a xs → Rk K H (.ref a) none
  | dct {a : Addr} {kvs : List (L2.Key × V)} : H a = some (.dK kvs) → Rk K H (.ref a) none
def rowB (lo hi : Int) : Option (List V) → Bool
  | some xs => decide (lo ≤ (xs.length : Int)) && decide ((xs.length : Int) ≤ hi)
  | none => false
def spIsRowV (K : PySem.W.Frag) : Sp := fun vs H Q _ => ∃ (v : V) (ro : Option (List V)) (lo hi : Int), vs = [v, .int lo, .int hi] ∧ Rk K H v ro ∧ Q (.bl (rowB lo hi ro)) H
theorem ok_is_rowV (F : Df K mg "is_row" st_is_row ["value", "low", "high"]) (B : Bu mg) : Cal P w K mg base 1 "is_row" (spIsRowV K) := by
  refine mkCal F sc_is_row (fun vs H Q E h => ?_) (fun f cdv A outer s H vs Q E hr h => ?_)
  · obtain ⟨v, ro, lo, hi, rfl, _⟩ := h
    rfl
  · obtain ⟨v, ro, lo, hi, rfl, hk, q⟩ := h
    refine ⟨_, pss_one (ps_ret (pe_and (pe_callB call_isi (by rfl) B.isi (by decide +kernel) (pa_cons (pv 0) (pa_cons (pe_bltn (v := .ty "tuple") (by rfl) B.tuple (by decide +kernel) rfl) pa_nil)))
      (pe_one (pe_chain op_le op_le (pv 1) (pe_callB call_len_seq (by rfl) B.len PySem.boot_len (pa_cons (pv 0) pa_nil)) (pv 2))))), ?_⟩
    cases hk with
    | @lst a xs hS => exact ⟨_, rfl, .ref a, .ty "tuple", _, _, false, rfl, .ty "tuple", ty_lst hS, kit_ty (by decide +kernel), false, rfl, q⟩
    | @dct a kvs e => exact ⟨_, rfl, .ref a, .ty "tuple", _, _, false, rfl, .ty "tuple", .base (.dK e), kit_ty (by decide +kernel), false, rfl, q⟩
    | @tup a xs hS =>
      refine ⟨_, rfl, .ref a, .ty "tuple", _, _, true, rfl, .ty "tuple", ty_tup hS, kit_ty (by decide +kernel), true, rfl, _, rfl, _, rfl, a, xs, rfl, .inr hS, lo, (xs.length : Int), rfl, rfl, _, rfl, ite2 (fun e => ?_) (fun e => ?_)⟩
      · refine ⟨_, rfl, _, hi, rfl, rfl, ?_⟩
        have q : Q (.bl (decide (lo ≤ (xs.length : Int)) && decide ((xs.length : Int) ≤ hi))) H := q
        rw [e, Bool.true_and] at q
        exact q
      · have e' : decide (lo ≤ (xs.length : Int)) = false := by simpa using e
        have q : Q (.bl (decide (lo ≤ (xs.length : Int)) && decide ((xs.length : Int) ≤ hi))) H := q
        rw [e', Bool.false_and] at q
        exact q
end
end RH
set_option Elab.async false
set_option linter.all false
set_option maxRecDepth 100000
set_option maxHeartbeats 2000000
namespace RH
open PySem PySem.Spec PyProof.Rows L2
open LamX (Tabs TabS TabB ExtN CodeO codeO_ne)
/-! ### test, shows_test -/
/-- two habits and a lot -/
structure Two (K : PySem.W.Frag) (H : Hp) (v u : V) (h o : List (List Int)) (n : Nat) (lv : V) (lot : List Int) : Prop where
  hT : TII K H v h
  hU : TII K H u o
  hb : Hb n h
  ho : Hb n o
  hL : TI K H lv lot
  l1 : 1 ≤ lot.length
  l2 : lot.length ≤ n
  hin : ∀ i ∈ lot, InR n i
  hri : lot.Pairwise (· < ·)
theorem Two.tups {K : PySem.W.Frag} {H H' : Hp} {v u : V} {h o : List (List Int)} {n : Nat} {lv : V} {lot : List Int} (g : Two K H v u h o n lv lot) (e : Tups K H H') : Two K H' v u h o n lv lot :=
  ⟨g.hT.on e, g.hU.on e, g.hb, g.ho, g.hL.on e, g.l1, g.l2, g.hin, g.hri⟩
inductive VR
  | nonv : VR
  | bad : VR
  | tri (a : V) (wo : Option (List Int)) (r : V) : VR
inductive Vk (K : PySem.W.Frag) (H : Hp) : V → VR → Prop
  | non : Vk K H .non .nonv
  | bad {a : Addr} {ro : Option (List V)} : Rk K H (.ref a) ro → rowB 3 3 ro = false → Vk K H (.ref a) .bad
  | tri {t : Addr} {a wv r : V} {wo : Option (List Int)} : SqT K H t [a, wv, r] → Sc a → Sc r → Wk K H wv wo → Vk K H (.ref t) (.tri a wo r)
def shB (h o : List (List Int)) (lot : List Int) (n : Nat) : Option (Int × List Int × Int) → VR → Bool
  | none, .nonv => true
  | none, _ => false
  | some _, .nonv => false
  | some _, .bad => false
  | some (_, w0, _), .tri (.int pl) (some ws) (.int rd) => tstV n lot (.int pl) (some ws) (.int rd) && decide (ws.length = w0.length) && !decide (decide (mark h pl ws = rd) = decide (mark o pl ws = rd))
  | some _, .tri _ _ _ => false
theorem tstV_int {p : Int} {lot : List Int} {a r : V} {wo : Option (List Int)} (h : tstV p lot a wo r = true) : ∃ pl ws rd, a = .int pl ∧ wo = some ws ∧ r = .int rd ∧ pl ∈ lot ∧ rd ∈ lot ∧ ∀ t ∈ ws, t ∈ lot := by
  unfold tstV at h
  rw [Bool.and_eq_true, Bool.and_eq_true] at h
  obtain ⟨⟨h1, h2⟩, h3⟩ := h
  cases a with
  | int pl =>
    cases r with
    | int rd =>
      cases wo with
      | none => cases h3
      | some ws =>
        have h1 : (decide (0 ≤ pl) && decide (pl ≤ p - 1) && decide (pl ∈ lot)) = true := h1
        have h2 : (decide (0 ≤ rd) && decide (rd ≤ p - 1) && decide (rd ∈ lot)) = true := h2
        have h3 : (inP p ws && ws.all fun t => decide (t ∈ lot)) = true := h3
        rw [Bool.and_eq_true] at h1 h2 h3
        refine ⟨pl, ws, rd, rfl, rfl, rfl, of_decide_eq_true h1.2, of_decide_eq_true h2.2, fun t ht => ?_⟩
        exact of_decide_eq_true (List.all_eq_true.mp h3.2 t ht)
    | _ => cases h2
  | _ => cases h1
section
variable {P : Program} {w : World} {K : PySem.W.Frag} {mg : Str → Option Value} {base : Heap}
theorem Vk.on {H H' : Hp} {v : V} {vr : VR} (e : Tups K H H') (e2 : ∀ a xs, SqL K H a xs → SqL K H' a xs) (e3 : ∀ a kvs, H a = some (.dK kvs) → H' a = some (.dK kvs)) (h : Vk K H v vr) : Vk K H' v vr := by
  cases h with
  | non => exact .non
  | bad h1 h2 =>
    refine .bad ?_ h2
    cases h1 with
    | tup h => exact .tup (e _ _ h)
    | lst h => exact .lst (e2 _ _ h)
    | dct h => exact .dct (e3 _ _ h)
  | tri h1 h2 h3 h4 =>
    refine .tri (e _ _ h1) h2 h3 ?_
    cases h4 with
    | tup g1 g2 => exact .tup (g1.on e) g2
    | int i => exact .int i
    | lst g => exact .lst (e2 _ _ g)
theorem Vk.ext {H H' : Hp} {v : V} {vr : VR} (x : ExtN H H') (h : Vk K H v vr) : Vk K H' v vr := by
  refine h.on (extN_tups x) (fun a xs g => ?_) (fun a kvs g => x _ _ g (fun ps z => nomatch z))
  rcases g with (g | ⟨ob, g⟩) | g
  · exact .inl (.inl (x _ _ g (fun ps z => nomatch z)))
  · exact .inl (.inr ⟨ob, x _ _ g (fun ps z => nomatch z)⟩)
  · exact .inr g
def spCheckTwo (K : PySem.W.Frag) : Sp := fun vs H Q _ => ∃ (v u : V) (h o : List (List Int)) (n : Nat) (lv : V) (lot : List Int), vs = [v, u, lv] ∧ Two K H v u h o n lv lot ∧ ∀ H', Same H H' → Q .non H'
theorem ok_check_two (F : Df K mg "check_two" st_check_two ["habit", "other", "lot"]) (B : Bu mg) (C7 : CalD P w K mg base 7 "check_habits" [.int 3] (spCheckHabits K)) (CL : Cal P w K mg base 6 "check_lot" (spCheckLot K)) : Cal P w K mg base 8 "check_two" (spCheckTwo K) := by
  refine mkCal F sc_check_two (fun vs H Q E h => ?_) (fun f cdv A outer s H vs Q E hr h => ?_)
  · obtain ⟨v, u, h, o, n, lv, lot, rfl, _⟩ := h
    rfl
  · obtain ⟨v, u, h, o, n, lv, lot, rfl, g, q⟩ := h
    refine ⟨_, pss_cons (ps_expr (pcD C7 hr (pa_cons (pe_tup (pa_cons (pv 0) (pa_cons (pv 1) pa_nil))) pa_nil)))
      (pss_one (ps_expr (pc CL hr (pa_cons (pv 2) (pa_cons (pe_callB (cl_len K) (by rfl) B.len PySem.boot_len (pa_cons (pv 0) pa_nil)) pa_nil))))), ?_⟩
    refine ⟨_, rfl, _, rfl, by show 2 ≤ sizeLine; decide, fun T hT => ?_⟩
    have sT := same_new (o := .tup [v, u]) hT
    have gT := g.tups (Same.tups sT)
    refine ⟨.ref T, [h, o], n, 3, rfl, ⟨T, [v, u], rfl, tupAt upd_same, .cons gT.hT (.cons gT.hU .nil)⟩, by show 1 ≤ 2; decide, by show ((2 : Nat) : Int) ≤ 3; decide, fun x hx => ?_, fun H1 s1 => ?_⟩
    · rcases List.mem_cons.mp hx with rfl | hx
      · exact g.hb
      · rw [List.mem_singleton.mp hx]
        exact g.ho
    · have g1 := gT.tups (Same.tups s1)
      obtain ⟨ah, hxs, rfl, hS, hE⟩ := id g1.hT
      have hxl : hxs.length = n := hE.len.trans g.hb.len
      have n5 := g.hb.hi
      refine ⟨_, rfl, _, rfl, ah, hxs, rfl, .inr hS, lv, lot, n, by rw [hxl]; rfl, g1.hL, g.l1, g.l2, n5, g.hin, g.hri, fun H2 s2 => q H2 (sT.trans (s1.trans s2))⟩
def spTest (K : PySem.W.Frag) (T : List (Addr × Str)) : Sp := fun vs H Q _ => ∃ (v u : V) (h o : List (List Int)) (n : Nat) (lv : V) (lot : List Int), vs = [v, u, lv] ∧ Two K H v u h o n lv lot ∧ Tabs T H ∧
  ∀ (H' : Hp) (val : V) (res : Option (Int × List Int × Int)), ExtN H H' → Tabs T H' → ShR h o lot lot res → ResV K H' val res → Q val H'
theorem ok_test {T : List (Addr × Str)} (F : Df K mg "test" st_test ["habit", "other", "lot"]) (C2 : Cal P w K mg base 8 "check_two" (spCheckTwo K)) (CS : Cal P w K mg base 4 "shortest_test" (spShort K T)) : Cal P w K mg base 9 "test" (spTest K T) := by
  refine mkCal F sc_test (fun vs H Q E h => ?_) (fun f cdv A outer s H vs Q E hr h => ?_)
  · obtain ⟨v, u, h, o, n, lv, lot, rfl, _⟩ := h
    rfl
  · obtain ⟨v, u, h, o, n, lv, lot, rfl, g, hTb, q⟩ := h
    have n5 := g.hb.hi
    have l2 := g.l2
    refine ⟨_, pss_cons (ps_expr (pc C2 hr (pa_cons (pv 0) (pa_cons (pv 1) (pa_cons (pv 2) pa_nil))))) (pss_one (ps_ret (pc CS hr (pa_cons (pv 0) (pa_cons (pv 1) (pa_cons (pv 2) pa_nil)))))), ?_⟩
    refine ⟨_, rfl, _, rfl, _, rfl, v, u, h, o, n, lv, lot, rfl, g, fun H1 s1 => ?_⟩
    have g1 := g.tups (Same.tups s1)
    exact ⟨_, rfl, _, rfl, _, rfl, v, u, h, o, n, lv, lot, rfl, g1.hT, g1.hU, g1.hb, g1.ho, g1.hL, g1.hin, by omega, tabs_same hTb s1, fun H2 val res ex tb hR hV => q H2 val res ((extN_same s1).trans ex) tb hR hV⟩
def spShows (K : PySem.W.Frag) (T : List (Addr × Str)) : Sp := fun vs H Q _ => ∃ (v u : V) (h o : List (List Int)) (n : Nat) (lv : V) (lot : List Int) (x : V) (vr : VR), vs = [v, u, lv, x] ∧ Two K H v u h o n lv lot ∧ Tabs T H ∧ Vk K H x vr ∧
  ∀ (H' : Hp) (res : Option (Int × List Int × Int)), ExtN H H' → Tabs T H' → ShR h o lot lot res → Q (.bl (shB h o lot n res vr)) H'
theorem ok_shows {T : List (Addr × Str)} (F : Df K mg "shows_test" st_shows_test ["habit", "other", "lot", "value"]) (B : Bu mg) (C2 : Cal P w K mg base 8 "check_two" (spCheckTwo K)) (CS : Cal P w K mg base 4 "shortest_test" (spShort K T))
    (CR : Cal P w K mg base 1 "is_row" (spIsRowV K)) (CIT : Cal P w K mg base 5 "is_test" (spIsTestV K)) (CRM : Cal P w K mg base 1 "reads_mark" (spReadsMark K)) : Cal P w K mg base 9 "shows_test" (spShows K T) := by
  refine mkCal F sc_shows_test (fun vs H Q E h => ?_) (fun f cdv A outer s H vs Q E hr h => ?_)
  · obtain ⟨v, u, h, o, n, lv, lot, x, vr, rfl, _⟩ := h
    rfl
  · obtain ⟨v, u, h, o, n, lv, lot, x, vr, rfl, g, hTb, hx, q⟩ := h
    have n5 := g.hb.hi
    have l2 := g.l2
    refine ⟨_, pss_cons (ps_expr (pc C2 hr (pa_cons (pv 0) (pa_cons (pv 1) (pa_cons (pv 2) pa_nil)))))
      (pss_cons (ps_set (i := 4) sc_shows_test.nd rfl (.inl rfl) (pc CS hr (pa_cons (pv 0) (pa_cons (pv 1) (pa_cons (pv 2) pa_nil)))))
      (pss_cons (ps_if (PW.pt (pw_or (pt_cmp (pc_isN (pv 4))) (pw_or1 (pt_cmp (pc_isN (pv 3)))))) (pss_one (ps_ret (pe_and (pe_cmp (pc_isN (pv 4))) (pe_one (pe_cmp (pc_isN (pv 3))))))) pss_nil)
      (pss_cons (ps_if (PW.pt (pw_or (pt_not (pt_val (pc CR hr (pa_cons (pv 3) (pa_cons pe_int (pa_cons pe_int pa_nil)))))) (pw_or1 (pt_not (pt_val (pc CIT hr (pa_cons (pe_ix (ixT K) (pv 3) pe_int (fun _ _ => rfl)) (pa_cons (pe_ix (ixT K) (pv 3) pe_int (fun _ _ => rfl)) (pa_cons (pe_ix (ixT K) (pv 3) pe_int (fun _ _ => rfl)) (pa_cons (pv 2)
        (pa_cons (pe_callB (cl_len K) (by rfl) B.len PySem.boot_len (pa_cons (pv 0) pa_nil)) pa_nil))))))))))) (pss_one (ps_ret pe_bl)) pss_nil)
      (pss_cons (ps_asg (pv 3) (pg_tup rfl (pgs_cons (pg_name (i := 5) sc_shows_test.nd rfl (.inl rfl)) (pgs_cons (pg_name (i := 6) sc_shows_test.nd rfl (.inl rfl)) (pgs_cons (pg_name (i := 7) sc_shows_test.nd rfl (.inl rfl)) pgs_nil)))))
      (pss_cons (ps_if (pt_cmpR op_ne (pe_callB (cl_len K) (by rfl) B.len PySem.boot_len (pa_cons (pv 6) pa_nil)) (pe_callB (cl_len K) (by rfl) B.len PySem.boot_len (pa_cons (pe_ix (ixT K) (pv 4) pe_int (fun _ _ => rfl)) pa_nil)) (nomark _)) (pss_one (ps_ret pe_bl)) pss_nil)
      (pss_one (ps_ret (pe_cmpR op_ne (pc CRM hr (pa_cons (pv 0) (pa_cons (pv 5) (pa_cons (pv 6) (pa_cons (pv 7) pa_nil))))) (pc CRM hr (pa_cons (pv 1) (pa_cons (pv 5) (pa_cons (pv 6) (pa_cons (pv 7) pa_nil))))) (nomark _))))))))), ?_⟩
    refine ⟨_, rfl, _, rfl, _, rfl, v, u, h, o, n, lv, lot, rfl, g, fun H1 s1 => ?_⟩
    have g1 := g.tups (Same.tups s1)
    refine ⟨_, rfl, _, rfl, _, rfl, v, u, h, o, n, lv, lot, rfl, g1.hT, g1.hU, g1.hb, g1.ho, g1.hL, g1.hin, by omega, tabs_same hTb s1, fun H2 val res ex tb hR hV => ?_⟩
    have ex2 : ExtN H H2 := (extN_same s1).trans ex
    have g2 := g.tups (extN_tups (K := K) ex2)
    have hx2 := hx.ext ex2
    have q2 := q H2 res ex2 tb hR
    cases res with
    | none =>
      have ev : val = .non := hV
      subst ev
      refine ⟨_, rfl, _, rfl, ifT (decide_eq_true rfl) (ifT rfl ?_)⟩
      refine ⟨_, rfl, true, rfl, _, rfl, ?_⟩
      cases hx2 with
      | non => exact q2
      | bad h1 h2 => exact q2
      | tri h1 h2 h3 h4 => exact q2
    | some r3 =>
      obtain ⟨r1, w0, r0⟩ := r3
      obtain ⟨t0, aw0, rfl, ht0, haw0, hw0⟩ := id hV
      refine ⟨_, rfl, _, rfl, ifF (ref_non _) ⟨_, rfl, _, rfl, ?_⟩⟩
      cases hx2 with
      | non => exact ifT (decide_eq_true rfl) ⟨_, rfl, false, rfl, q2⟩
      | @bad a ro h1 h2 =>
        refine ifF (ref_non _) ⟨_, rfl, .ref a, ro, 3, 3, rfl, h1, _, rfl, ?_⟩
        rw [h2]
        exact ifT rfl (ifT rfl q2)
      | @tri t a wv r wo h1 h2 h3 h4 =>
        refine ifF (ref_non _) ⟨_, rfl, .ref t, some [a, wv, r], 3, 3, rfl, .tup h1, _, rfl, ifF rfl ?_⟩
        obtain ⟨ah, hxs, rfl, hS, hE⟩ := id g2.hT
        have hxl : hxs.length = n := hE.len.trans g.hb.len
        refine ⟨_, rfl, t, _, 0, a, rfl, rfl, h1, rfl, _, rfl, t, _, 1, wv, rfl, rfl, h1, rfl, _, rfl, t, _, 2, r, rfl, rfl, h1, rfl, _, rfl, _, rfl, ah, hxs, rfl, .inr hS, a, wv, r, lv, wo, lot, (n : Nat), by rw [hxl]; rfl, h2, h3, h4, g2.hL, fun H3 s3 => ⟨_, rfl, ?_⟩⟩
        have g3 := g2.tups (Same.tups s3)
        have h13 := onT s3 h1
        have h43 := h4.on s3
        have q3 := q H3 (some (r1, w0, r0)) (ex2.trans (extN_same s3)) (tabs_same tb s3) hR
        cases et : tstV n lot a wo r with
        | false =>
          refine ifT (by rfl) ?_
          have e2 : shB h o lot n (some (r1, w0, r0)) (.tri a wo r) = false := by
            cases a with
            | int pl =>
              cases r with
              | int rd =>
                cases wo with
                | none => rfl
                | some ws =>
                  show (tstV n lot (.int pl) (some ws) (.int rd) && _ && _) = false
                  rw [et, Bool.false_and, Bool.false_and]
              | _ => cases wo <;> rfl
            | _ => rfl
          rw [e2] at q3
          exact q3
        | true =>
          refine ifF (by rfl) ?_
          obtain ⟨pl, ws, rd, rfl, rfl, rfl, hpl, hrd, hws⟩ := tstV_int et
          have q3 : Q (.bl (tstV n lot (.int pl) (some ws) (.int rd) && decide (ws.length = w0.length) && !decide (decide (mark h pl ws = rd) = decide (mark o pl ws = rd)))) H3 := q3
          rw [et, Bool.true_and] at q3
          cases h43 with
          | @tup _ _ hW hwl =>
            obtain ⟨aw, rfl, hWs⟩ := id hW
            have t0' := TK.same s3 _ _ ht0
            have aw0' := TK.same s3 _ _ haw0
            refine ⟨_, rfl, t, _, rfl, h13, rfl, _, _, rfl, _, _, rfl, _, _, rfl, rfl, ?_⟩
            refine ⟨_, rfl, aw, _, rfl, .inr hWs, _, rfl, t0, _, 1, .ref aw0, rfl, rfl, .inl t0', rfl, aw0, w0.map V.int, rfl, .inr (.inl aw0'), rfl, _, rfl, ?_⟩
            rw [lenV, List.length_map, List.length_map]
            refine ite2 (fun e => ?_) (fun e => ?_)
            · have e3 : decide (ws.length = w0.length) = false := by simpa using e
              rw [e3, Bool.false_and] at q3
              exact q3
            · have e3 : decide (ws.length = w0.length) = true := by simpa using e
              rw [e3, Bool.true_and] at q3
              have hwR : ∀ t ∈ ws, InR n t := fun t ht => g.hin t (hws t ht)
              refine ⟨_, rfl, _, rfl, _, rfl, _, rfl, .ref ah, h, n, pl, .ref aw, ws, rd, rfl, g3.hT, g.hb, g.hin pl hpl, hW, hwR, _, rfl, _, rfl, _, rfl, _, rfl, u, o, n, pl, .ref aw, ws, rd, rfl, g3.hU, g.ho, g.hin pl hpl, hW, hwR, rfl, ?_⟩
              rw [V_bl]
              exact q3
end
end RH
set_option Elab.async false
set_option linter.all false
set_option maxRecDepth 100000
set_option maxHeartbeats 2000000
namespace RH
open PySem PySem.Spec PyProof.Rows L2
/-! ### the law's marks -/
theorem shaped_rows (ls : List (List Int)) : SeqAt.shaped (.list (ls.map fun s => .tuple (s.map PyData.int))) = true := by
  have h1 : ∀ ls : List (List Int), PyData.canLayAll0 (ls.map fun s => .tuple (s.map PyData.int)) = true := by
    intro ls
    induction ls with
    | nil => rfl
    | cons a ls ih => simp [PyData.canLayAll0, PyData.canLay0, PySem.W.ke_canLayAll0, ih]
  have h2 : ∀ ls : List (List Int), PyData.depthAll (ls.map fun s => .tuple (s.map PyData.int)) ≤ 2 := by
    intro ls
    induction ls with
    | nil => decide
    | cons a ls ih =>
      simp [PyData.depthAll, PyData.depth, PySem.W.ke_depthAll]
      omega
  simp [SeqAt.shaped, PyData.canLay0, PyData.depth, h1]
  have := h2 ls
  omega
theorem eqv_rows0 (ls : List (List Int)) : PyData.eqv (.list (ls.map fun s => .tuple (s.map PyData.int))) (.list []) = decide (ls = []) := by
  rw [PyData.eqv]
  cases ls with
  | nil => rfl
  | cons a ls =>
    rw [List.map_cons, PyData.eqvAll]
    rfl
theorem dp_rows {K : PySem.W.Frag} {H : Hp} : ∀ {ys : List V} {ls : List (List Int)}, EX H ys ls → DpAll K H ys (ls.map fun s => .tuple (s.map PyData.int))
  | _, _, .nil => .nil
  | _, _, .cons k t => .cons (dp_tup (.inl k)) (dp_rows t)
theorem EX.app {H : Hp} : ∀ {xs ys : List V} {ls ms : List (List Int)}, EX H xs ls → EX H ys ms → EX H (xs ++ ys) (ls ++ ms)
  | _, _, _, _, .nil, h => h
  | _, _, _, _, .cons k t, h => .cons k (t.app h)
/-- a pair of marks that a word of a length leads to -/
def Rs (h o : List (List Int)) (lot : List Int) (j : Nat) (s : List Int) : Prop := ∃ pl ∈ lot, ∃ w : List Int, (∀ p ∈ w, p ∈ lot) ∧ w.length = j ∧ [mark h pl w, mark o pl w] = s
section
variable {h o : List (List Int)} {lot : List Int} {n : Nat}
theorem Rs.zero {pl : Int} (hp : pl ∈ lot) : Rs h o lot 0 (fpr h o pl) := ⟨pl, hp, [], fun _ z => (nomatch z), rfl, rfl⟩
theorem Rs.of_zero {s : List Int} (r : Rs h o lot 0 s) : ∃ pl ∈ lot, s = fpr h o pl := by
  obtain ⟨pl, hp, w, _, e, rfl⟩ := r
  rw [List.eq_nil_of_length_eq_zero e]
  exact ⟨pl, hp, rfl⟩
theorem Rs.succ {j : Nat} {s : List Int} {p : Int} (r : Rs h o lot j s) (hp : p ∈ lot) : Rs h o lot (j + 1) (stP h o p s) := by
  obtain ⟨pl, hpl, w, hw, e, rfl⟩ := r
  refine ⟨pl, hpl, w ++ [p], fun q hq => ?_, by rw [List.length_append, e]; rfl, by rw [mark_snoc, mark_snoc]; rfl⟩
  rcases List.mem_append.mp hq with z | z
  · exact hw q z
  · rw [List.mem_singleton.mp z]
    exact hp
theorem Rs.pred {j : Nat} {s : List Int} (r : Rs h o lot (j + 1) s) : ∃ s' p, Rs h o lot j s' ∧ p ∈ lot ∧ s = stP h o p s' := by
  obtain ⟨pl, hpl, w, hw, e, rfl⟩ := r
  rcases List.eq_nil_or_concat w with rfl | ⟨w0, p, rfl⟩
  · cases e
  · rw [List.concat_eq_append] at hw e ⊢
    rw [List.length_append] at e
    exact ⟨[mark h pl w0, mark o pl w0], p, ⟨pl, hpl, w0, fun q hq => hw q (List.mem_append_left _ hq), by simpa using e, rfl⟩, hw p (List.mem_append_right _ (List.mem_singleton.mpr rfl)), by rw [mark_snoc, mark_snoc]; rfl⟩
theorem Rs.cp {j : Nat} {s : List Int} (hb : Hb n h) (ho : Hb n o) (hin : ∀ i ∈ lot, InR n i) (r : Rs h o lot j s) : CP n s := by
  obtain ⟨pl, hpl, w, hw, e, rfl⟩ := r
  exact ⟨_, _, rfl, hb.mark (hin pl hpl) w fun t ht => hin t (hw t ht), ho.mark (hin pl hpl) w fun t ht => hin t (hw t ht)⟩
end
/-- what is found ahead of level k -/
structure FdI (h o : List (List Int)) (lot : List Int) (k : Nat) (as : List (List Int × V)) : Prop where
  nd : (as.map Prod.fst).Nodup
  val : ∀ q ∈ as, ∃ j : Nat, j < k ∧ q.2 = .int (j : Int) ∧ Rs h o lot j q.1 ∧ ∀ i < j, ¬ Rs h o lot i q.1
  all : ∀ j < k, ∀ s, Rs h o lot j s → s ∈ as.map Prod.fst
/-- the level k -/
structure LvI (h o : List (List Int)) (lot : List Int) (k : Nat) (as : List (List Int × V)) (ls : List (List Int)) : Prop where
  at_ : ∀ s ∈ ls, Rs h o lot k s
  all : ∀ s, Rs h o lot k s → s ∈ as.map Prod.fst ∨ s ∈ ls
/-- within the level k, behind m of its pairs -/
structure MdI (h o : List (List Int)) (lot : List Int) (k : Nat) (as : List (List Int × V)) (ls : List (List Int)) (m : Nat) (bs : List (List Int × V)) (fur : List (List Int)) : Prop where
  nd : (bs.map Prod.fst).Nodup
  old : ∀ q ∈ as, q ∈ bs
  val : ∀ q ∈ bs, q ∈ as ∨ (q.2 = .int (k : Int) ∧ Rs h o lot k q.1 ∧ q.1 ∉ as.map Prod.fst)
  done : ∀ s ∈ ls.take m, s ∈ bs.map Prod.fst
  at_ : ∀ s ∈ fur, Rs h o lot (k + 1) s
  all : ∀ s ∈ bs.map Prod.fst, s ∉ as.map Prod.fst → ∀ p ∈ lot, stP h o p s ∈ fur
  len : fur.length + as.length * lot.length = bs.length * lot.length
/-- what is found at the end -/
structure MkI (h o : List (List Int)) (lot : List Int) (as : List (List Int × V)) : Prop where
  val : ∀ q ∈ as, ∃ j : Nat, q.2 = .int (j : Int) ∧ Rs h o lot j q.1 ∧ ∀ i < j, ¬ Rs h o lot i q.1
  all : ∀ j s, Rs h o lot j s → s ∈ as.map Prod.fst
def meas (as : List (List Int × V)) (ls : List (List Int)) : Nat := 2 * (120 - as.length) + (if ls = [] then 0 else 1)
section
variable {h o : List (List Int)} {lot : List Int} {n k m : Nat} {as bs : List (List Int × V)} {ls fur : List (List Int)}
theorem MdI.start (F : FdI h o lot k as) : MdI h o lot k as ls 0 as [] :=
  ⟨F.nd, fun _ z => z, fun _ z => .inl z, fun _ z => (nomatch z), fun _ z => (nomatch z), fun s h1 h2 => absurd h1 h2, by rw [List.length_nil]; omega⟩
theorem MdI.known (M : MdI h o lot k as ls m bs fur) {s : List Int} (hs : ls[m]? = some s) (hm : s ∈ bs.map Prod.fst) : MdI h o lot k as ls (m + 1) bs fur :=
  ⟨M.nd, M.old, M.val, fun t ht => by
    rw [take_more hs] at ht
    rcases List.mem_append.mp ht with z | z
    · exact M.done t z
    · rw [List.mem_singleton.mp z]
      exact hm, M.at_, M.all, M.len⟩
theorem MdI.more (M : MdI h o lot k as ls m bs fur) (L : LvI h o lot k as ls) {s : List Int} (hs : ls[m]? = some s) (hm : s ∉ bs.map Prod.fst) : MdI h o lot k as ls (m + 1) (bs ++ [(s, .int (k : Int))]) (fur ++ lot.map fun p => stP h o p s) where
  nd := by
    rw [List.map_append, List.nodup_append]
    refine ⟨M.nd, nd_one _, fun a ha b hb e => ?_⟩
    rw [List.map_singleton, List.mem_singleton] at hb
    rw [e, hb] at ha
    exact hm ha
  old := fun q hq => List.mem_append_left _ (M.old q hq)
  val := fun q hq => by
    rcases List.mem_append.mp hq with z | z
    · exact M.val q z
    · rw [List.mem_singleton.mp z]
      refine .inr ⟨rfl, L.at_ s (List.mem_of_getElem? hs), fun z2 => ?_⟩
      obtain ⟨x, hx, e⟩ := List.mem_map.mp z2
      exact hm (List.mem_map.mpr ⟨x, M.old x hx, e⟩)
  done := fun t ht => by
    rw [take_more hs] at ht
    rw [List.map_append, List.mem_append]
    rcases List.mem_append.mp ht with z | z
    · exact .inl (M.done t z)
    · rw [List.mem_singleton.mp z]
      exact .inr (List.mem_singleton.mpr rfl)
  at_ := fun t ht => by
    rcases List.mem_append.mp ht with z | z
    · exact M.at_ t z
    · obtain ⟨p, hp, rfl⟩ := List.mem_map.mp z
      exact (L.at_ s (List.mem_of_getElem? hs)).succ hp
  all := fun t ht hn p hp => by
    rw [List.map_append, List.mem_append] at ht
    rcases ht with z | z
    · exact List.mem_append_left _ (M.all t z hn p hp)
    · rw [List.map_singleton, List.mem_singleton] at z
      rw [z]
      exact List.mem_append_right _ (List.mem_map.mpr ⟨p, hp, rfl⟩)
  len := by
    have := M.len
    rw [List.length_append, List.length_map, List.length_append, List.length_singleton, Nat.succ_mul]
    omega
theorem MdI.fd (M : MdI h o lot k as ls ls.length bs fur) (F : FdI h o lot k as) (L : LvI h o lot k as ls) : FdI h o lot (k + 1) bs := by
  have old : ∀ s ∈ as.map Prod.fst, s ∈ bs.map Prod.fst := fun s hs => by
    obtain ⟨x, hx, e⟩ := List.mem_map.mp hs
    exact List.mem_map.mpr ⟨x, M.old x hx, e⟩
  refine ⟨M.nd, fun q hq => ?_, fun j hj s hs => ?_⟩
  · rcases M.val q hq with z | ⟨z1, z2, z3⟩
    · obtain ⟨j, h1, h2⟩ := F.val q z
      exact ⟨j, by omega, h2⟩
    · exact ⟨k, by omega, z1, z2, fun i hi hr => z3 (F.all i hi _ hr)⟩
  · rcases Nat.lt_or_ge j k with z | z
    · exact old s (F.all j z s hs)
    · obtain rfl : j = k := by omega
      rcases L.all s hs with y | y
      · exact old s y
      · refine M.done s ?_
        rw [List.take_length]
        exact y
theorem MdI.lv (M : MdI h o lot k as ls ls.length bs fur) (F : FdI h o lot k as) (L : LvI h o lot k as ls) : LvI h o lot (k + 1) bs fur := by
  have F2 := M.fd F L
  refine ⟨M.at_, fun s hs => ?_⟩
  obtain ⟨s', p, hr, hp, rfl⟩ := hs.pred
  have h1 := F2.all k (by omega) s' hr
  by_cases h2 : s' ∈ as.map Prod.fst
  · obtain ⟨x, hx, rfl⟩ := List.mem_map.mp h2
    obtain ⟨j, hj, _, hr2, _⟩ := F.val x hx
    exact .inl (F2.all (j + 1) (by omega) _ (hr2.succ hp))
  · exact .inr (M.all s' h1 h2 p hp)
theorem FdI.few (hb : Hb n h) (ho : Hb n o) (hin : ∀ i ∈ lot, InR n i) (hl : lot.length ≤ 1000) (nd : (as.map Prod.fst).Nodup) (hv : ∀ q ∈ as, ∃ j, Rs h o lot j q.1) : as.length ≤ 120 := by
  have := nd_len nd (m := UP n) fun s hs => by
    obtain ⟨x, hx, rfl⟩ := List.mem_map.mp hs
    obtain ⟨j, hr⟩ := hv x hx
    exact (sysP hb ho hin hl).few _ (hr.cp hb ho hin)
  rw [List.length_map] at this
  exact Nat.le_trans this (UP_few n (by have := hb.hi; omega))
theorem FdI.mki (F : FdI h o lot k as) (L : LvI h o lot k as []) : MkI h o lot as := by
  have up : ∀ s, Rs h o lot k s → s ∈ as.map Prod.fst := fun s hs => (L.all s hs).elim id fun z => nomatch z
  have all : ∀ j s, Rs h o lot j s → s ∈ as.map Prod.fst := fun j => by
    induction j with
    | zero =>
      intro s hs
      rcases Nat.eq_zero_or_pos k with z | z
      · rw [← z] at hs
        exact up s hs
      · exact F.all 0 z s hs
    | succ j ih =>
      intro s hs
      obtain ⟨s', p, hr, hp, rfl⟩ := hs.pred
      obtain ⟨x, hx, rfl⟩ := List.mem_map.mp (ih s' hr)
      obtain ⟨i, hi, _, hr2, _⟩ := F.val x hx
      rcases Nat.lt_or_ge (i + 1) k with z | z
      · exact F.all (i + 1) z _ (hr2.succ hp)
      · have e : i + 1 = k := by omega
        exact up _ (by rw [← e]; exact hr2.succ hp)
  exact ⟨fun q hq => by
    obtain ⟨j, _, h2⟩ := F.val q hq
    exact ⟨j, h2⟩, all⟩
theorem MdI.less (M : MdI h o lot k as ls ls.length bs fur) (F : FdI h o lot k as) (hne : ls ≠ []) (hb : bs.length ≤ 120) : meas bs fur < meas as ls := by
  unfold meas
  rw [if_neg hne]
  have h1 : as.length ≤ bs.length := by
    have hsub : ∀ s ∈ as.map Prod.fst, s ∈ bs.map Prod.fst := fun s hs => by
      obtain ⟨x, hx, e⟩ := List.mem_map.mp hs
      exact List.mem_map.mpr ⟨x, M.old x hx, e⟩
    have := nd_len F.nd hsub
    rwa [List.length_map, List.length_map] at this
  rcases Nat.eq_or_lt_of_le h1 with z | z
  · have h2 := M.len
    rw [z] at h2
    have h3 : fur = [] := List.eq_nil_of_length_eq_zero (by omega)
    rw [if_pos h3]
    omega
  · split <;> omega
end
section
variable {P : Program} {w : World} {K : PySem.W.Frag} {mg : Str → Option Value} {base : Heap}
def spMarks (P : Program) (w : World) (K : PySem.W.Frag) : Sp := fun vs H Q _ => ∃ (v u : V) (h o : List (List Int)) (n : Nat) (lv : V) (lot : List Int), vs = [v, u, lv] ∧ Two K H v u h o n lv lot ∧
  ∀ (H' : Hp) (d : Addr) (as : List (List Int × V)) (ks : List Addr), Same H H' → H' d = some (DE P w as ks d) → KB H' as ks → (as.map Prod.fst).Nodup → as.length ≤ 120 → MkI h o lot as → Q (.ref d) H'
abbrev NM : List Str := ["habit", "other", "lot", "found", "last", "far", "longer", "pair", "place"]
theorem ok_marks (F : Df K mg "_law_marks" st__law_marks ["habit", "other", "lot"]) (B : Bu mg) : Cal P w K mg base 1 "_law_marks" (spMarks P w K) := by
  refine mkCal F sc__law_marks (fun vs H Q E h => ?_) (fun f cdv A outer s H vs Q E hr h => ?_)
  · obtain ⟨v, u, h, o, n, lv, lot, rfl, _⟩ := h
    rfl
  · obtain ⟨v, u, h, o, n, lv, lot, rfl, g, q⟩ := h
    obtain ⟨ah, hxs, rfl, hS, hE⟩ := id g.hT
    obtain ⟨ao, oxs, rfl, oS, oE⟩ := id g.hU
    obtain ⟨al, rfl, hL⟩ := id g.hL
    have n5 := g.hb.hi
    have l2 := g.l2
    have hl1000 : lot.length ≤ 1000 := by omega
    refine ⟨_, pss_cons (ps_par3 (i := 3) (j := 4) (l := 5) rfl sc__law_marks.nd rfl rfl rfl (by decide) (by decide) (by decide) rfl rfl rfl (pa_cons pe_dnewE (pa_cons (pe_lc (own := [("place", 8)]) (g := gName 8) (tt := tYes) rfl sc__law_marks.nd (pi_tup (pv 2)) (blkOk_by (N := NM) (sc := defScope st__law_marks) (by decide +kernel))
        (fun _ _ _ _ _ => pg_name (i := 8) sc__law_marks.nd rfl (Or.inl rfl)) (fun _ _ _ _ _ => pts_nil)
        (fun _ _ _ _ _ => pe_tup (pa_cons (pe_ix (ixT K) (pe_ix (ixT K) (pv 0) (pv 8) (fun _ _ => rfl)) (pv 8) (fun _ _ => rfl)) (pa_cons (pe_ix (ixT K) (pe_ix (ixT K) (pv 1) (pv 8) (fun _ _ => rfl)) (pv 8) (fun _ _ => rfl)) pa_nil)))) (pa_cons pe_int pa_nil))) rfl)
      (pss_cons (ps_while PassesOwn.never (pt_cmpR (op_neD hr.units) (pv 4) (pe_lst pa_nil) (nomark _))
        (pss_cons (ps_set (i := 6) sc__law_marks.nd rfl (.inl rfl) (pe_lst pa_nil))
        (pss_cons (ps_for PassesOwn.never rfl (pi_list (pv 4)) (pg_name (i := 7) sc__law_marks.nd rfl (.inr rfl))
          (pss_one (ps_if (pt_cmp (pc_dnotinE (hu_of hr) (pv 7) (pv 3)))
            (pss_cons (ps_dputE (hu_of hr) (pv 3) (pv 7) (pv 5) rfl)
            (pss_one (ps_set (i := 6) sc__law_marks.nd rfl (.inl rfl) (pe_op op_cat (pv 6) (pe_lc (own := [("place", 8)]) (g := gName 8) (tt := tYes) rfl sc__law_marks.nd (pi_tup (pv 2)) (blkOk_by (N := NM) (sc := defScope st__law_marks) (by decide +kernel))
              (fun _ _ _ _ _ => pg_name (i := 8) sc__law_marks.nd rfl (Or.inl rfl)) (fun _ _ _ _ _ => pts_nil)
              (fun _ _ _ _ _ => pe_tup (pa_cons (pe_ix (ixT K) (pe_ix (ixT K) (pv 0) (pv 8) (fun _ _ => rfl)) (pe_ix (ixT K) (pv 7) pe_int (fun _ _ => rfl)) (fun _ _ => rfl)) (pa_cons (pe_ix (ixT K) (pe_ix (ixT K) (pv 1) (pv 8) (fun _ _ => rfl)) (pe_ix (ixT K) (pv 7) pe_int (fun _ _ => rfl)) (fun _ _ => rfl)) pa_nil)))))))) pss_nil)))
        (pss_one (ps_par (i := 4) (j := 5) rfl sc__law_marks.nd rfl rfl (by decide) rfl rfl (pa_cons (pv 6) (pa_cons (pe_op op_add (pv 5) pe_int) pa_nil)) rfl)))))
      (pss_one (ps_ret (pv 3)))), ?_⟩
    intro d hd
    have sd := same_new (o := DE P w [] [] d) hd
    refine ⟨_, rfl, al, rfl, ⟨_, onT sd hL⟩, fun D hD => ?_⟩
    refine lc_tup (xs := lot.map V.int) (fun i H' => Same (upd H d (DE P w [] [] d)) H' ∧ ∃ ys, H' D = some (.lst ys) ∧ EX H' ys ((lot.take i).map (fpr h o))) ⟨same_new hD, [], upd_same, .nil⟩ (fun i H' _ h' => onT h'.1 (onT sd hL)) (fun i x H' hx h' => ?_) (fun H1 h' => ?_)
    · obtain ⟨pl, hpl, rfl⟩ := map_at hx
      obtain ⟨sm, ys, eD, hY⟩ := h'
      have sm0 := sd.trans sm
      have hp := g.hin pl (List.mem_of_getElem? hpl)
      obtain ⟨a1, ns1, e1, s1, e2⟩ := ix2 hE g.hb hp hp
      obtain ⟨a2, ns2, e3, s2, e4⟩ := ix2 oE g.ho hp hp
      refine ⟨rfl, _, rfl, _, rfl, ah, hxs, pl, _, rfl, rfl, onT sm0 hS, e1, _, rfl, a1, _, pl, _, rfl, rfl, onT sm0 s1, e2, _, rfl, _, rfl, ao, oxs, pl, _, rfl, rfl, onT sm0 oS, e3, _, rfl, a2, _, pl, _, rfl, rfl, onT sm0 s2, e4, by show 2 ≤ sizeLine; decide, fun T hT2 => ?_⟩
      have sT := same_new (o := .tup [.int (mv h pl pl), .int (mv o pl pl)]) hT2
      have eDT := sT _ _ eD
      refine ⟨_, eDT, ?_, Same.upd (sm.trans sT) hD, _, upd_same, ?_⟩
      · have := hY.len
        rw [List.length_map, List.length_take] at this
        exact small1000 (by omega)
      · rw [take_more hpl, List.map_append]
        have tk : TK _ (upd (upd H' T (.tup [.int (mv h pl pl), .int (mv o pl pl)])) D (.lst (ys ++ [.ref T]))) := TK.upd eDT not_tup_l
        exact EX.snoc (tk _ _ (.inl upd_same)) (hY.on ((TK.same sT).trans tk))
    obtain ⟨sm1, xs0, eD0, hX0⟩ := h'
    rw [List.length_map, List.take_length] at hX0
    refine ⟨_, _, _, rfl, ?_⟩
    refine ⟨fun m σ H' => ∃ (k : Nat) (as : List (List Int × V)) (ks : List Addr) (ls : List (List Int)) (xs : List V) (l : Addr), m = meas as ls ∧ (∃ y6 y7 y8, σ = [some (.ref ah), some (.ref ao), some (.ref al), some (.ref d), some (.ref l), some (.int (k : Int)), y6, y7, y8]) ∧
      Same H H' ∧ H' d = some (DE P w as ks d) ∧ KB H' as ks ∧ H' l = some (.lst xs) ∧ EX H' xs ls ∧ FdI h o lot k as ∧ LvI h o lot k as ls ∧ ls.length ≤ 1000,
      ⟨meas [] (lot.map (fpr h o)), 0, [], [], lot.map (fpr h o), xs0, D, rfl, ⟨none, none, none, rfl⟩, sd.trans sm1, sm1 _ _ upd_same, .nil, eD0, hX0, ⟨List.nodup_nil, fun _ z => (nomatch z), fun j hj => absurd hj (by omega)⟩, ⟨fun s hs => ?_, fun s hs => ?_⟩, ?_⟩, ?_⟩
    · obtain ⟨pl, hpl, rfl⟩ := List.mem_map.mp hs
      exact Rs.zero hpl
    · obtain ⟨pl, hpl, rfl⟩ := hs.of_zero
      exact .inr (List.mem_map.mpr ⟨pl, hpl, rfl⟩)
    · rw [List.length_map]
      exact hl1000
    rintro m σ H2 ⟨k, as, ks, ls, xs, l, rfl, ⟨y6, y7, y8, rfl⟩, sm, eD, kb, eL, hX, F, L, hl⟩
    have lx := hX.len
    refine ⟨_, rfl, Nat.zero_le _, fun z hz => ?_⟩
    have sz := same_new (o := .lst []) hz
    refine ⟨_, _, .lst (lstAt (sz _ _ eL)) (dp_rows (hX.on (TK.same sz))), .lst (lstAt upd_same) .nil, shaped_rows _, PySem.W.ke_shaped_ints [], _, rfl, ?_⟩
    rw [eqv_rows0]
    have smz := sm.trans sz
    have eDz := sz _ _ eD
    have kbz := kb.on (TK.same sz)
    have eLz := sz _ _ eL
    have hXz := hX.on (TK.same sz)
    have hfew : as.length ≤ 120 := FdI.few g.hb g.ho g.hin hl1000 F.nd fun q hq => by
      obtain ⟨j, _, _, hr, _⟩ := F.val q hq
      exact ⟨j, hr⟩
    refine ite2 (fun ex => ?_) (fun ex => ?_)
    · have hne : ls ≠ [] := fun e => by
        rw [e] at ex
        exact absurd ex (by decide)
      refine ⟨fun σ' H' => ∃ m', m' < meas as ls ∧ ∃ (k : Nat) (as : List (List Int × V)) (ks : List Addr) (ls : List (List Int)) (xs : List V) (l : Addr), m' = meas as ls ∧ (∃ y6 y7 y8, σ' = [some (.ref ah), some (.ref ao), some (.ref al), some (.ref d), some (.ref l), some (.int (k : Int)), y6, y7, y8]) ∧
        Same H H' ∧ H' d = some (DE P w as ks d) ∧ KB H' as ks ∧ H' l = some (.lst xs) ∧ EX H' xs ls ∧ FdI h o lot k as ∧ LvI h o lot k as ls ∧ ls.length ≤ 1000, fun _ _ h => h, ?_⟩
      refine ⟨Nat.zero_le _, fun u0 hu0 => ?_⟩
      have su := same_new (o := .lst []) hu0
      refine ⟨_, rfl, l, rfl, ⟨_, lstAt (su _ _ eLz)⟩, ?_⟩
      refine for_list (xs := xs) (fun i σ H' => ∃ (bs : List (List Int × V)) (ks : List Addr) (fur : List (List Int)) (us : List V) (lu : Addr), Same H H' ∧ H' d = some (DE P w bs ks d) ∧ KB H' bs ks ∧ H' l = some (.lst xs) ∧ EX H' xs ls ∧ H' lu = some (.lst us) ∧ EX H' us fur ∧ MdI h o lot k as ls i bs fur ∧
          ∃ y7 y8, σ = [some (.ref ah), some (.ref ao), some (.ref al), some (.ref d), some (.ref l), some (.int (k : Int)), some (.ref lu), y7, y8])
        ⟨as, ks, [], [], u0, smz.trans su, su _ _ eDz, kbz.on (TK.same su), su _ _ eLz, hXz.on (TK.same su), upd_same, .nil, MdI.start F, _, _, rfl⟩ (fun i σ H' _ h' => ?_) (fun i x σ H3 hx h' => ?_) (fun σ H3 h' => ?_)
      · obtain ⟨_, _, _, _, _, _, _, _, e, _⟩ := h'
        exact lstAt e
      · obtain ⟨bs, kk, fur, us, lu, sm3, eD3, kb3, eL3, hX3, eU3, hF3, M, z7, z8, rfl⟩ := h'
        have hi : i < ls.length := by
          have := (List.getElem?_eq_some_iff.mp hx).1
          omega
        obtain ⟨s, hs⟩ : ∃ s, ls[i]? = some s := ⟨_, List.getElem?_eq_getElem hi⟩
        obtain ⟨b, rfl, hk3⟩ := hX3.get hx hs
        have hr0 := L.at_ s (List.mem_of_getElem? hs)
        obtain ⟨x0, y0, es, hx0, hy0⟩ := hr0.cp g.hb g.ho g.hin
        have bfew : bs.length ≤ 120 := FdI.few g.hb g.ho g.hin hl1000 M.nd fun q hq => by
          rcases M.val q hq with z | ⟨_, z, _⟩
          · obtain ⟨j, _, _, hr, _⟩ := F.val q z
            exact ⟨j, hr⟩
          · exact ⟨k, z⟩
        refine ⟨_, rfl, _, rfl, d, b, bs, kk, s, rfl, rfl, eD3, kb3, hk3, _, rfl, ?_⟩
        by_cases hm : s ∈ bs.map Prod.fst
        · exact ifF (by rw [decide_eq_true hm]; rfl) ⟨bs, kk, fur, us, lu, sm3, eD3, kb3, eL3, hX3, eU3, hF3, M.known hs hm, _, _, rfl⟩
        · refine ifT (by rw [decide_eq_false hm]; rfl) ?_
          refine ⟨_, rfl, _, rfl, _, rfl, d, b, bs, kk, s, rfl, rfl, eD3, kb3, hk3, hm, small1000 (by omega), ?_⟩
          have tk4 : TK H3 (upd H3 d (DE P w (bs ++ [(s, .int (k : Int))]) (kk ++ [b]) d)) := TK.upd eD3 not_tup_d
          have sm4 : Same H (upd H3 d (DE P w (bs ++ [(s, .int (k : Int))]) (kk ++ [b]) d)) := Same.upd sm3 hd
          have eD4 : (upd H3 d (DE P w (bs ++ [(s, .int (k : Int))]) (kk ++ [b]) d)) d = some (DE P w (bs ++ [(s, .int (k : Int))]) (kk ++ [b]) d) := upd_same
          have kb4 := (kb3.on tk4).snoc (q := (s, .int (k : Int))) (b := b) (tk4 _ _ hk3)
          have eL4 : (upd H3 d (DE P w (bs ++ [(s, .int (k : Int))]) (kk ++ [b]) d)) l = some (.lst xs) := by
            rw [upd_ne (ne_of eL3 eD3 (fun z => nomatch z))]
            exact eL3
          have eU4 : (upd H3 d (DE P w (bs ++ [(s, .int (k : Int))]) (kk ++ [b]) d)) lu = some (.lst us) := by
            rw [upd_ne (ne_of eU3 eD3 (fun z => nomatch z))]
            exact eU3
          have hX4 := hX3.on tk4
          have hF4 := hF3.on tk4
          have hk4 := tk4 _ _ hk3
          refine ⟨_, rfl, _, rfl, al, rfl, ⟨_, onT sm4 hL⟩, fun D2 hD2 => ?_⟩
          refine lc_tup (xs := lot.map V.int) (fun j H' => Same (upd H3 d (DE P w (bs ++ [(s, .int (k : Int))]) (kk ++ [b]) d)) H' ∧ ∃ zs, H' D2 = some (.lst zs) ∧ EX H' zs ((lot.take j).map fun p => stP h o p s)) ⟨same_new hD2, [], upd_same, .nil⟩ (fun j H' _ h' => onT h'.1 (onT sm4 hL)) (fun j x H' hx h' => ?_) (fun H5 h' => ?_)
          · obtain ⟨p, hp0, rfl⟩ := map_at hx
            obtain ⟨sm5, zs, eZ, hZ⟩ := h'
            have sm0 := sm4.trans sm5
            have hp := g.hin p (List.mem_of_getElem? hp0)
            obtain ⟨a1, ns1, e1, s1, e2⟩ := ix2 hE g.hb hp hx0
            obtain ⟨a2, ns2, e3, s2, e4⟩ := ix2 oE g.ho hp hy0
            have hks : SqT K H' b [.int x0, .int y0] := by
              have := TK.same sm5 _ _ hk4
              rw [es] at this
              exact .inl this
            refine ⟨rfl, _, rfl, _, rfl, ah, hxs, p, _, rfl, rfl, onT sm0 hS, e1, _, rfl, b, _, 0, .int x0, rfl, rfl, hks, rfl, a1, _, x0, _, rfl, rfl, onT sm0 s1, e2, _, rfl, _, rfl, ao, oxs, p, _, rfl, rfl, onT sm0 oS, e3, _, rfl, b, _, 1, .int y0, rfl, rfl, hks, rfl, a2, _, y0, _, rfl, rfl, onT sm0 s2, e4, by show 2 ≤ sizeLine; decide, fun T hT2 => ?_⟩
            have sT := same_new (o := .tup [.int (mv h p x0), .int (mv o p y0)]) hT2
            have eZT := sT _ _ eZ
            refine ⟨_, eZT, ?_, Same.upd (sm5.trans sT) hD2, _, upd_same, ?_⟩
            · have := hZ.len
              rw [List.length_map, List.length_take] at this
              exact small1000 (by omega)
            · rw [take_more hp0, List.map_append]
              have tk : TK _ (upd (upd H' T (.tup [.int (mv h p x0), .int (mv o p y0)])) D2 (.lst (zs ++ [.ref T]))) := TK.upd eZT not_tup_l
              refine EX.snoc (tk _ _ ?_) (hZ.on ((TK.same sT).trans tk))
              rw [es]
              exact .inl upd_same
          · obtain ⟨sm5, zs, eZ, hZ⟩ := h'
            rw [List.length_map, List.take_length] at hZ
            have hML := M.more L hs hm
            have hlen5 : us.length + zs.length ≤ 1000 := by
              have h1 := hML.len
              have h2 := hF3.len
              have h3 := hZ.len
              rw [List.length_map] at h3
              rw [List.length_append, List.length_map] at h1
              have h4 : (bs ++ [(s, V.int (k : Int))]).length * lot.length ≤ 121 * 5 := Nat.mul_le_mul (by rw [List.length_append]; show bs.length + 1 ≤ 121; omega) (by omega)
              omega
            refine ⟨lu, D2, us, zs, rfl, rfl, sm5 _ _ eU4, eZ, by rw [sizeLine_eq]; omega, fun p hp => ?_⟩
            have sp := same_new (o := .lst (us ++ zs)) hp
            have s56 := sm5.trans sp
            exact ⟨_, _, _, us ++ zs, p, sm4.trans s56, s56 _ _ eD4, kb4.on (TK.same s56), s56 _ _ eL4, hX4.on (TK.same s56), upd_same, (hF4.on (TK.same s56)).app (hZ.on (TK.same sp)), hML, _, _, rfl⟩
      · obtain ⟨bs, kk, fur, us, lu, sm3, eD3, kb3, eL3, hX3, eU3, hF3, M, z7, z8, rfl⟩ := h'
        rw [lx] at M
        have F2 := M.fd F L
        have bfew : bs.length ≤ 120 := FdI.few g.hb g.ho g.hin hl1000 F2.nd fun q hq => by
          obtain ⟨j, _, _, hr, _⟩ := F2.val q hq
          exact ⟨j, hr⟩
        have hlf : fur.length ≤ 1000 := by
          have h1 := M.len
          have h4 : bs.length * lot.length ≤ 120 * 5 := Nat.mul_le_mul bfew (by omega)
          omega
        exact ⟨_, rfl, _, rfl, (k : Int), 1, rfl, rfl, _, _, rfl, meas bs fur, M.less F hne bfew, k + 1, bs, kk, fur, us, lu, rfl, ⟨_, _, _, rfl⟩, sm3, eD3, kb3, eU3, hF3, F2, M.lv F L, hlf⟩
    · have hnil : ls = [] := by
        have : ¬ (!decide (ls = [])) = true := ex
        simpa using this
      subst hnil
      exact ⟨_, rfl, q _ d as ks smz eDz kbz F.nd hfew (F.mki L)⟩
end
end RH
set_option Elab.async false
set_option linter.all false
set_option maxRecDepth 100000
set_option maxHeartbeats 2000000
namespace RH
open PySem PySem.Spec PyProof.Rows L2
open LamX (Tabs TabS TabB ExtN CodeO codeO_ne)
/-! ### shelves that are alike; what the law finds -/
/-- all that is no list and no table of code objects is as it was -/
def Ev (H H' : Hp) : Prop := ∀ b o, H b = some o → (∀ xs, o ≠ .lst xs) → (∀ ps, o ≠ .tbl ps) → H' b = some o
theorem Ev.refl (H : Hp) : Ev H H := fun _ _ e _ _ => e
theorem Ev.trans {H H1 H2 : Hp} (a : Ev H H1) (b : Ev H1 H2) : Ev H H2 := fun c o e n m => b c o (a c o e n m) n m
theorem Ev.same {H H1 : Hp} (a : Same H H1) : Ev H H1 := fun c o e _ _ => a c o e
theorem Ev.fix {H H1 : Hp} (a : Fix H H1) : Ev H H1 := fun c o e n _ => a c o e n
theorem Ev.ext {H H1 : Hp} (a : ExtN H H1) : Ev H H1 := fun c o e _ m => a c o e m
theorem Ev.tk {H H' : Hp} (e : Ev H H') : TK H H' := fun b xs h => by
  rcases h with h | ⟨ob, h⟩
  · exact .inl (e _ _ h (fun _ z => nomatch z) (fun _ z => nomatch z))
  · exact .inr ⟨ob, e _ _ h (fun _ z => nomatch z) (fun _ z => nomatch z)⟩
theorem Ev.tups {K : PySem.W.Frag} {H H' : Hp} (e : Ev H H') : Tups K H H' := fun a xs hs => by
  rcases hs with hs | hs
  · exact .inl (e.tk _ _ hs)
  · exact .inr hs
theorem Fix.tabs {T : List (Addr × Str)} {H H' : Hp} (f : Fix H H') (t : Tabs T H) : Tabs T H' := fun p hp => by
  obtain ⟨ps, h1, h2, h3⟩ := t p hp
  refine ⟨ps, f _ _ h1 (fun xs z => nomatch z), h2, fun pos cv hc => ?_⟩
  obtain ⟨c, e1, e2⟩ := h3 pos cv hc
  exact ⟨c, e1, f _ _ e2 (fun xs z => by unfold CodeO at z; cases z)⟩
theorem Row.ext {K : PySem.W.Frag} {H H' : Hp} {p : Addr} (e : ExtN H H') (h : Row K H p) : Row K H' p := by
  obtain ⟨a, ns, i, r, c, h⟩ := h
  refine ⟨a, ns, i, r, c, e _ _ h.at_ (fun ps z => nomatch z), ?_, h.pos⟩
  rcases h.fz with ⟨o, z⟩ | z
  · exact .inl ⟨o, e _ _ z (fun ps z => nomatch z)⟩
  · exact .inr z
/-! ### words, what they touch, and what a loss does -/
theorem rg_nd (n : Nat) : (rg n).Nodup := by
  unfold rg
  exact List.Pairwise.map _ (fun a b (e : a ≠ b) => fun z => e (by omega)) List.nodup_range
theorem idx_at {l : List Int} (nd : l.Nodup) {i : Nat} {x : Int} (h : l[i]? = some x) : l.idxOf x = i := by
  obtain ⟨hi, e⟩ := List.getElem?_eq_some_iff.mp h
  subst e
  exact nd.idxOf_getElem i hi
theorem perm_nd {n : Nat} {l : List Int} (h : l.Perm (rg n)) : l.Nodup := h.nodup_iff.mpr (rg_nd n)
/-- the row of a place -/
theorem Hb.row {n : Nat} {h : List (List Int)} (q : Hb n h) {p : Int} (hp : InR n p) : h.getD p.toNat [] ∈ h := by
  have h1 : p.toNat < h.length := by rw [q.len]; have := hp.1; have := hp.2; omega
  rw [List.getD_eq_getElem?_getD, List.getElem?_eq_getElem h1]
  exact List.getElem_mem h1
theorem Hb.row_eq {n : Nat} {h : List (List Int)} (q : Hb n h) {p : Int} (hp : InR n p) : (rg n).map (mv h p) = h.getD p.toNat [] := by
  have hl := q.short (q.row hp)
  refine List.ext_getElem? fun i => ?_
  rw [List.getElem?_map]
  by_cases hi : i < n
  · rw [rg_at hi]
    show some (mv h p (i : Int)) = _
    unfold mv
    rw [Int.toNat_natCast, List.getD_eq_getElem?_getD (l := h.getD p.toNat []), List.getElem?_eq_getElem (by omega : i < (h.getD p.toNat []).length)]
    rfl
  · rw [List.getElem?_eq_none (by rw [rg_len]; omega), List.getElem?_eq_none (by omega)]
    rfl
theorem Hb.mv_inj {n : Nat} {h : List (List Int)} (q : Hb n h) {p x y : Int} (hp : InR n p) (hx : InR n x) (hy : InR n y) (e : mv h p x = mv h p y) : x = y := by
  have nd := perm_nd (q.perm _ (q.row hp))
  have at_ : ∀ z, InR n z → (h.getD p.toNat [])[z.toNat]? = some (mv h p z) := fun z hz => by
    rw [← q.row_eq hp, List.getElem?_map, rg_at (by have := hz.1; have := hz.2; omega)]
    show some (mv h p ((z.toNat : Nat) : Int)) = _
    rw [Int.toNat_of_nonneg hz.1]
  have e1 := idx_at nd (at_ x hx)
  have e2 := idx_at nd (at_ y hy)
  rw [e, e2] at e1
  have := hx.1
  have := hy.1
  omega
theorem nd_map_on {α β : Type} {f : α → β} : ∀ {l : List α}, (∀ a ∈ l, ∀ b ∈ l, f a = f b → a = b) → l.Nodup → (l.map f).Nodup
  | [], _, _ => List.nodup_nil
  | a :: l, h, nd => by
    rw [List.nodup_cons] at nd
    rw [List.map_cons, List.nodup_cons]
    refine ⟨fun z => ?_, nd_map_on (fun x hx y hy => h x (List.mem_cons_of_mem _ hx) y (List.mem_cons_of_mem _ hy)) nd.2⟩
    obtain ⟨y, hy, e⟩ := List.mem_map.mp z
    have := h y (List.mem_cons_of_mem _ hy) a (List.mem_cons_self ..) e
    exact nd.1 (this ▸ hy)
section
variable {h o : List (List Int)} {lot : List Int} {n : Nat}
theorem rep_in {s : Int} {j : Nat} : ∀ t ∈ List.replicate j s, t = s := fun t ht => (List.mem_replicate.mp ht).2
/-- a touch again and again leads back -/
theorem Hb.round (hb : Hb n h) {s : Int} (hs : InR n s) : ∃ j : Nat, RH.mark h s (List.replicate j s) = s := by
  have hin : ∀ j : Nat, InR n (RH.mark h s (List.replicate j s)) := fun j => hb.mark hs _ fun t ht => by
    rw [rep_in t ht]
    exact hs
  have nxt : ∀ j : Nat, mv h s (RH.mark h s (List.replicate j s)) = RH.mark h s (List.replicate (j + 1) s) := fun j => by
    rw [List.replicate_succ', mark_snoc]
  let C : Int → Prop := fun x => ∃ j : Nat, RH.mark h s (List.replicate j s) = x
  have hdec : ∀ x, Decidable (C x) := fun x => Classical.propDecidable _
  have nd : ((rg n).filter (fun x => @decide (C x) (hdec x))).Nodup := (rg_nd n).filter _
  have mem : ∀ x, x ∈ (rg n).filter (fun x => @decide (C x) (hdec x)) ↔ InR n x ∧ C x := fun x => by
    rw [List.mem_filter]
    constructor
    · rintro ⟨a, b⟩
      exact ⟨rg_mem.mp a, @of_decide_eq_true _ (hdec x) b⟩
    · rintro ⟨a, b⟩
      exact ⟨rg_mem.mpr a, @decide_eq_true _ (hdec x) b⟩
  generalize (rg n).filter (fun x => @decide (C x) (hdec x)) = L at nd mem
  have full := nd_full (l := L.map (mv h s)) (m := L) (nd_map_on (fun x hx y hy e => hb.mv_inj hs ((mem x).mp hx).1 ((mem y).mp hy).1 e) nd)
    (fun x hx => by
      obtain ⟨y, hy, rfl⟩ := List.mem_map.mp hx
      obtain ⟨h1, j, rfl⟩ := (mem y).mp hy
      exact (mem _).mpr ⟨hb.mvR hs h1, j + 1, (nxt j).symm⟩) (Nat.le_of_eq (List.length_map ..).symm)
  obtain ⟨y, hy, e⟩ := List.mem_map.mp (full (mv h s s) ((mem _).mpr ⟨hb.mvR hs hs, 0, rfl⟩))
  obtain ⟨h1, j, hj⟩ := (mem y).mp hy
  exact ⟨j, hj.trans (hb.mv_inj hs h1 hs e)⟩
theorem trd_none {x y : Int} (hx : x ∈ lot) (e : trd lot [x, y] = none) : x = y := by
  have e2 : lot.find? (fun r => decide (r = x) != decide (r = y)) = none := e
  have := List.find?_eq_none.mp e2 x hx
  have : ¬ (true != decide (x = y)) = true := by simpa using this
  by_cases z : x = y
  · exact z
  · rw [decide_eq_false z] at this
    exact absurd rfl this
theorem trd_same (x : Int) : trd lot [x, x] = none := by
  refine List.find?_eq_none.mpr fun r _ => ?_
  show ¬ (decide (r = x) != decide (r = x)) = true
  simp
theorem ext_habit (hb : Hb n h) (ho : Hb n o) (e : ∀ p s, InR n p → InR n s → mv h p s = mv o p s) : h = o := by
  refine List.ext_getElem (hb.len.trans ho.len.symm) fun i h1 h2 => ?_
  have hi : i < n := by have := hb.len; omega
  have m1 : h[i] ∈ h := List.getElem_mem h1
  have m2 : o[i] ∈ o := List.getElem_mem h2
  refine List.ext_getElem ((hb.short m1).trans (ho.short m2).symm) fun j g1 g2 => ?_
  have hj : j < n := by have := hb.short m1; omega
  have := e (i : Int) (j : Int) ⟨by omega, by omega⟩ ⟨by omega, by omega⟩
  have k1 : mv h (i : Int) (j : Int) = h[i][j] := by
    unfold mv
    rw [Int.toNat_natCast, Int.toNat_natCast, List.getD_eq_getElem?_getD, List.getD_eq_getElem?_getD, List.getElem?_eq_getElem h1]
    show (h[i][j]?).getD 0 = _
    rw [List.getElem?_eq_getElem g1]
    rfl
  have k2 : mv o (i : Int) (j : Int) = o[i][j] := by
    unfold mv
    rw [Int.toNat_natCast, Int.toNat_natCast, List.getD_eq_getElem?_getD, List.getD_eq_getElem?_getD, List.getElem?_eq_getElem h2]
    show (o[i][j]?).getD 0 = _
    rw [List.getElem?_eq_getElem g2]
    rfl
  rw [← k1, ← k2, this]
/-- with all places a test is lacking for alike habits alone -/
theorem whole_none (hb : Hb n h) (ho : Hb n o) {res : Option (Int × List Int × Int)} (R : ShR h o (rg n) (rg n) res) : res = none ↔ h = o := by
  constructor
  · rintro rfl
    have eq : ∀ pl, InR n pl → ∀ w : List Int, (∀ p ∈ w, InR n p) → mark h pl w = mark o pl w := fun pl hp w hw =>
      trd_none (rg_mem.mpr (hb.mark hp w hw)) (R pl (rg_mem.mpr hp) w fun p hp => rg_mem.mpr (hw p hp))
    refine ext_habit hb ho fun p s hp hs => ?_
    obtain ⟨j, hj⟩ := hb.round hs
    have hr : ∀ t ∈ List.replicate j s, InR n t := fun t ht => by
      rw [rep_in t ht]
      exact hs
    have h1 := eq s hs (List.replicate j s) hr
    have h2 := eq s hs (List.replicate j s ++ [p]) fun t ht => by
      rcases List.mem_append.mp ht with z | z
      · exact hr t z
      · rw [List.mem_singleton.mp z]
        exact hp
    rw [mark_snoc, mark_snoc, ← h1, hj] at h2
    exact h2
  · rintro rfl
    cases res with
    | none => rfl
    | some r3 =>
      obtain ⟨pl, w, r⟩ := r3
      obtain ⟨_, _, h3, _⟩ := R
      rw [trd_same] at h3
      cases h3
/-- the list far of the law -/
structure FarI (h o : List (List Int)) (lot far : List Int) : Prop where
  at_ : ∀ k ∈ far, ∃ pl ∈ lot, ∃ w : List Int, (∀ p ∈ w, p ∈ lot) ∧ (trd lot [mark h pl w, mark o pl w]).isSome = true ∧ (w.length : Int) = k
  all : ∀ pl ∈ lot, ∀ w : List Int, (∀ p ∈ w, p ∈ lot) → (trd lot [mark h pl w, mark o pl w]).isSome = true → ∃ k ∈ far, k ≤ (w.length : Int)
theorem FarI.none_iff {far : List Int} (F : FarI h o lot far) {res : Option (Int × List Int × Int)} (R : ShR h o lot lot res) : far = [] ↔ res = none := by
  constructor
  · rintro rfl
    cases res with
    | none => rfl
    | some r3 =>
      obtain ⟨pl, w, r⟩ := r3
      obtain ⟨h1, h2, h3, _⟩ := R
      obtain ⟨k, hk, _⟩ := F.all pl h1 w h2 (by rw [h3]; rfl)
      cases hk
  · rintro rfl
    cases far with
    | nil => rfl
    | cons k far =>
      obtain ⟨pl, hp, w, hw, hs, _⟩ := F.at_ k (List.mem_cons_self ..)
      rw [R pl hp w hw] at hs
      cases hs
theorem FarI.min {far : List Int} (F : FarI h o lot far) {pl r : Int} {w : List Int} (R : ShR h o lot lot (some (pl, w, r))) {m : Int} (hm : m ∈ far) (hle : ∀ k ∈ far, m ≤ k) : m = (w.length : Int) := by
  obtain ⟨h1, h2, h3, h4⟩ := R
  obtain ⟨k, hk, hkw⟩ := F.all pl h1 w h2 (by rw [h3]; rfl)
  obtain ⟨pl', hp', w', hw', hs', e⟩ := F.at_ m hm
  have := h4 pl' hp' w' hw' hs'
  have := hle k hk
  omega
end
end RH
set_option Elab.async false
set_option linter.all false
set_option maxRecDepth 100000
set_option maxHeartbeats 2000000
namespace RH
open PySem PySem.Spec PyProof.Rows L2
open LamX (Tabs TabS TabB ExtN CodeO codeO_ne)
/-! ### the law -/
/-- a statement's way on, told -/
theorem ps_cut {X : Cx} {st : Stmt} {t : TS} (G : L2.St → Hp → Prop) (h : PS X st t) : PS X st (fun D σ H => (∀ σ' H', G σ' H' → D.nx σ' H') ∧ t { D with nx := G } σ H) := by
  refine ⟨fun pins s σ H D I hw => thn (h.run pins s σ H { D with nx := G } I hw.2) fun fl s1 q => ?_⟩
  cases fl with
  | next =>
    obtain ⟨σ', H', I', q⟩ := q
    exact ⟨σ', H', I', hw.1 _ _ q⟩
  | ret v => exact q
  | brk => exact q
  | cont => exact q
section
variable {P : Program} {w : World} {K : PySem.W.Frag} {mg : Str → Option Value} {base : Heap}
def telB (h o : List (List Int)) (pl : Int) (ws : List Int) (rd : Int) : Bool := !decide (decide (mark h pl ws = rd) = decide (mark o pl ws = rd))
def spTells (K : PySem.W.Frag) : Sp := fun vs H Q _ => ∃ (v u : V) (h o : List (List Int)) (n : Nat) (t : Addr) (pl rd : Int) (wv : V) (ws : List Int), vs = [v, u, .ref t] ∧ TII K H v h ∧ TII K H u o ∧ Hb n h ∧ Hb n o ∧ SqT K H t [.int pl, wv, .int rd] ∧ TI K H wv ws ∧ InR n pl ∧ (∀ t ∈ ws, InR n t) ∧
  Q (.bl (telB h o pl ws rd)) H
theorem ok_tells (F : Df K mg "_law_tells" st__law_tells ["habit", "other", "value"]) : Cal P w K mg base 1 "_law_tells" (spTells K) := by
  refine mkCal F sc__law_tells (fun vs H Q E h => ?_) (fun f cdv A outer s H vs Q E hr h => ?_)
  · obtain ⟨v, u, h, o, n, t, pl, rd, wv, ws, rfl, _⟩ := h
    rfl
  · obtain ⟨v, u, h, o, n, t, pl, rd, wv, ws, rfl, hT, hU, hb, ho, ht, hW, hpl, hws, q⟩ := h
    obtain ⟨ah, hxs, rfl, hS, hE⟩ := id hT
    obtain ⟨ao, oxs, rfl, oS, oE⟩ := id hU
    obtain ⟨aw, rfl, hWs⟩ := id hW
    refine ⟨_, pss_cons (ps_par (i := 3) (j := 4) rfl sc__law_tells.nd rfl rfl (by decide) rfl rfl (pa_cons (pe_ix ix_tup (pe_ix ix_tup (pv 0) (pe_ix ix_tup (pv 2) pe_int (fun _ _ => rfl)) (fun _ _ => rfl)) (pe_ix ix_tup (pv 2) pe_int (fun _ _ => rfl)) (fun _ _ => rfl))
        (pa_cons (pe_ix ix_tup (pe_ix ix_tup (pv 1) (pe_ix ix_tup (pv 2) pe_int (fun _ _ => rfl)) (fun _ _ => rfl)) (pe_ix ix_tup (pv 2) pe_int (fun _ _ => rfl)) (fun _ _ => rfl)) pa_nil)) rfl)
      (pss_cons (ps_for PassesOwn.never rfl (pi_tup (pe_ix ix_tup (pv 2) pe_int (fun _ _ => rfl))) (pg_name (i := 5) sc__law_tells.nd rfl (.inl rfl))
        (pss_one (ps_par (i := 3) (j := 4) rfl sc__law_tells.nd rfl rfl (by decide) rfl rfl (pa_cons (pe_ix ix_tup (pe_ix ix_tup (pv 0) (pv 5) (fun _ _ => rfl)) (pv 3) (fun _ _ => rfl)) (pa_cons (pe_ix ix_tup (pe_ix ix_tup (pv 1) (pv 5) (fun _ _ => rfl)) (pv 4) (fun _ _ => rfl)) pa_nil)) rfl)))
      (pss_one (ps_ret (pe_cmpR op_ne (pe_cmpR op_eq (pv 3) (pe_ix ix_tup (pv 2) pe_int (fun _ _ => rfl)) (nomark _)) (pe_cmpR op_eq (pv 4) (pe_ix ix_tup (pv 2) pe_int (fun _ _ => rfl)) (nomark _)) (nomark _))))), ?_⟩
    obtain ⟨a1, ns1, e1, s1, e2⟩ := ix2 hE hb hpl hpl
    obtain ⟨a2, ns2, e3, s2, e4⟩ := ix2 oE ho hpl hpl
    refine ⟨_, rfl, _, rfl, t, _, 0, .int pl, rfl, rfl, ht, rfl, ah, hxs, pl, _, rfl, rfl, hS, e1, _, rfl, t, _, 0, .int pl, rfl, rfl, ht, rfl, a1, _, pl, _, rfl, rfl, s1, e2, _, rfl, _, rfl, t, _, 0, .int pl, rfl, rfl, ht, rfl, ao, oxs, pl, _, rfl, rfl, oS, e3, _, rfl, t, _, 0, .int pl, rfl, rfl, ht, rfl, a2, _, pl, _, rfl, rfl, s2, e4, _, _, rfl, ?_⟩
    refine ⟨_, rfl, t, _, 1, .ref aw, rfl, rfl, ht, rfl, aw, rfl, ⟨_, hWs⟩, ?_⟩
    refine for_tup (xs := ws.map V.int) (fun i σ H' => H' = H ∧ ∃ y, σ = [some (.ref ah), some (.ref ao), some (.ref t), some (.int (mark h pl (ws.take i))), some (.int (mark o pl (ws.take i))), y]) ⟨rfl, none, rfl⟩ (fun i σ H' _ h' => by rw [h'.1]; exact hWs) (fun i x σ H' hx h' => ?_) (fun σ H' h' => ?_)
    · obtain ⟨z, hz, rfl⟩ := map_at hx
      obtain ⟨rfl, y, rfl⟩ := h'
      have hwi : ∀ u ∈ ws.take i, InR n u := fun u hu => hws u (List.mem_of_mem_take hu)
      have hzr := hws z (List.mem_of_getElem? hz)
      obtain ⟨a1, ns1, e1, s1, e2⟩ := ix2 hE hb hzr (hb.mark hpl _ hwi)
      obtain ⟨a2, ns2, e3, s2, e4⟩ := ix2 oE ho hzr (ho.mark hpl _ hwi)
      refine ⟨_, rfl, _, rfl, ah, hxs, z, _, rfl, rfl, hS, e1, _, rfl, a1, _, _, _, rfl, rfl, s1, e2, _, rfl, _, rfl, ao, oxs, z, _, rfl, rfl, oS, e3, _, rfl, a2, _, _, _, rfl, rfl, s2, e4, _, _, rfl, rfl, some (.int z), ?_⟩
      rw [take_more hz, mark_snoc, mark_snoc]
      rfl
    · obtain ⟨rfl, y, rfl⟩ := h'
      rw [List.length_map, List.take_length]
      refine ⟨_, rfl, _, rfl, t, _, 2, .int rd, rfl, rfl, ht, rfl, rfl, _, rfl, _, rfl, t, _, 2, .int rd, rfl, rfl, ht, rfl, rfl, rfl, ?_⟩
      rw [V_int, V_int, V_bl]
      exact q
abbrev NL13 : List Str := ["script", "row", "places", "habit", "other", "at", "lot", "found", "marks", "far", "pair", "turn", "steps", "word", "some", "drawn", "value", "due", "every", "right", "whole", "place", "step", "spot"]
abbrev no18 : L2.St := [none, none, none, none, none, none, none, none, none, none, none, none, none, none, none, none, none, none]
abbrev no13 : L2.St := [none, none, none, none, none, none, none, none, none, none, none, none, none]
def G1 (K : PySem.W.Frag) (T : List (Addr × Str)) (a : Addr) (σ : L2.St) (H : Hp) : Prop := ∃ (p : Addr) (n : Nat) (v u : V) (h o : List (List Int)) (y5 : Option V), σ = some (.ref a) :: some (.ref p) :: some (.int (n : Int)) :: some v :: some u :: y5 :: no18 ∧ Row K H p ∧ Tabs T H ∧ TII K H v h ∧ TII K H u o ∧ Hb n h ∧ Hb n o
def G2 (K : PySem.W.Frag) (T : List (Addr × Str)) (a : Addr) (σ : L2.St) (H : Hp) : Prop := ∃ (p : Addr) (n : Nat) (v u : V) (h o : List (List Int)) (al : Addr) (lot : List Int) (res : Option (Int × List Int × Int)) (far : List Int) (lf : Addr) (y5 y7 y8 y10 : Option V),
  σ = some (.ref a) :: some (.ref p) :: some (.int (n : Int)) :: some v :: some u :: y5 :: some (.ref al) :: y7 :: y8 :: some (.ref lf) :: y10 :: no13 ∧ Row K H p ∧ Tabs T H ∧ Two K H v u h o n (.ref al) lot ∧ ShR h o lot lot res ∧ H lf = some (.lst (far.map V.int)) ∧ FarI h o lot far ∧ far.length ≤ 120 ∧ lf ≠ p
def spLaw (K : PySem.W.Frag) (T : List (Addr × Str)) : Sp := fun vs H Q _ => ∃ (a : Addr) (ns : List Int), vs = [.ref a] ∧ Fz K H a (ns.map V.int) ∧ Tabs T H ∧ ∀ H', Q (.bl true) H'
end
end RH
set_option Elab.async false
set_option linter.all false
set_option maxRecDepth 100000
set_option maxHeartbeats 2000000
namespace RH
open PySem PySem.Spec PyProof.Rows L2
open LamX (Tabs TabS TabB ExtN CodeO codeO_ne)
/-! ### what is due -/
def vrOf : Option (Int × List Int × Int) → VR
  | none => .nonv
  | some (pl, w, r) => .tri (.int pl) (some w) (.int r)
def okS (lot : List Int) : V → Bool
  | .int i => decide (i ∈ lot)
  | _ => false
def telOf (h o : List (List Int)) (ws : List Int) : V → V → Bool
  | .int pl, .int rd => telB h o pl ws rd
  | _, _ => false
section
variable {h o : List (List Int)} {lot : List Int} {n : Nat}
theorem trd_some {x y r : Int} (e : trd lot [x, y] = some r) : r ∈ lot ∧ (!decide (decide (x = r) = decide (y = r))) = true := by
  have e2 : lot.find? (fun r => decide (r = x) != decide (r = y)) = some r := e
  refine ⟨List.mem_of_find?_eq_some e2, ?_⟩
  have h1 := List.find?_some e2
  have h2 : (decide (r = x) != decide (r = y)) = true := h1
  by_cases hx : x = r
  · by_cases hy : y = r
    · rw [decide_eq_true hx.symm, decide_eq_true hy.symm] at h2
      exact absurd h2 (by decide)
    · rw [decide_eq_true hx, decide_eq_false hy]
      rfl
  · by_cases hy : y = r
    · rw [decide_eq_false hx, decide_eq_true hy]
      rfl
    · rw [decide_eq_false (fun z => hx z.symm), decide_eq_false (fun z => hy z.symm)] at h2
      exact absurd h2 (by decide)
theorem tst_eq (hin : ∀ i ∈ lot, InR n i) (a r : V) (ws : List Int) : tstV n lot a (some ws) r = (okS lot a && okS lot r && ws.all fun t => decide (t ∈ lot)) := by
  have h1 : ∀ v : V, ofl n lot v = okS lot v := fun v => by
    cases v with
    | int i =>
      show (decide (0 ≤ i) && decide (i ≤ (n : Int) - 1) && decide (i ∈ lot)) = decide (i ∈ lot)
      by_cases z : i ∈ lot
      · have := hin i z
        rw [decide_eq_true this.1, decide_eq_true (show i ≤ (n : Int) - 1 by have := this.2; omega), decide_eq_true z]
        rfl
      · rw [decide_eq_false z, Bool.and_false]
    | _ => rfl
  have h2 : wkB n lot (some ws) = ws.all fun t => decide (t ∈ lot) := by
    show (inP n ws && ws.all fun t => decide (t ∈ lot)) = _
    cases e : ws.all fun t => decide (t ∈ lot) with
    | false => rw [Bool.and_false]
    | true =>
      rw [Bool.and_true]
      exact inP_in fun t ht => hin t (of_decide_eq_true (List.all_eq_true.mp e t ht))
  unfold tstV
  rw [h1, h1, h2]
theorem shR_len {pl pl' r r' : Int} {w w' : List Int} (R : ShR h o lot lot (some (pl, w, r))) (R' : ShR h o lot lot (some (pl', w', r'))) : w.length = w'.length := by
  obtain ⟨a1, a2, a3, a4⟩ := R
  obtain ⟨b1, b2, b3, b4⟩ := R'
  have h1 := a4 pl' b1 w' b2 (by rw [b3]; rfl)
  have h2 := b4 pl a1 w a2 (by rw [a3]; rfl)
  omega
theorem shB_tri {pl0 r0 : Int} {w0 : List Int} (hin : ∀ i ∈ lot, InR n i) (a r : V) (ws : List Int) :
    shB h o lot n (some (pl0, w0, r0)) (.tri a (some ws) r) = ((okS lot a && okS lot r && ws.all fun t => decide (t ∈ lot)) && (decide (ws.length = w0.length) && telOf h o ws a r)) := by
  cases a with
  | int pl =>
    cases r with
    | int rd =>
      show (tstV n lot (.int pl) (some ws) (.int rd) && _ && _) = _
      rw [tst_eq hin, Bool.and_assoc]
      rfl
    | _ =>
      show false = _
      rw [show okS lot (.int pl) = decide (pl ∈ lot) from rfl]
      first
        | (show false = ((_ && false && _) && _); rw [Bool.and_false, Bool.false_and, Bool.false_and])
  | _ => rfl
theorem shB_res (hin : ∀ i ∈ lot, InR n i) {res res' : Option (Int × List Int × Int)} (R : ShR h o lot lot res) (R' : ShR h o lot lot res') : shB h o lot n res' (vrOf res) = true := by
  cases res with
  | none =>
    cases res' with
    | none => rfl
    | some r3 =>
      obtain ⟨pl, w, r⟩ := r3
      obtain ⟨h1, h2, h3, _⟩ := R'
      rw [R pl h1 w h2] at h3
      cases h3
  | some r3 =>
    obtain ⟨pl, w, r⟩ := r3
    cases res' with
    | none =>
      obtain ⟨h1, h2, h3, _⟩ := R
      rw [R' pl h1 w h2] at h3
      cases h3
    | some r4 =>
      obtain ⟨pl', w', r'⟩ := r4
      have hl := shR_len R R'
      obtain ⟨h1, h2, h3, _⟩ := R
      obtain ⟨g1, g2⟩ := trd_some h3
      show shB h o lot n (some (pl', w', r')) (.tri (.int pl) (some w) (.int r)) = true
      rw [shB_tri hin, decide_eq_true hl]
      have e1 : okS lot (.int pl) = true := decide_eq_true h1
      have e2 : okS lot (.int r) = true := decide_eq_true g1
      have e3 : (w.all fun t => decide (t ∈ lot)) = true := List.all_eq_true.mpr fun t ht => decide_eq_true (h2 t ht)
      have e4 : telOf h o w (.int pl) (.int r) = true := g2
      rw [e1, e2, e3, e4]
      rfl
end
/-! ### lists of scalars -/
def scD : V → PyData
  | .int i => .int i
  | .bl b => .bool b
  | _ => .none
theorem dp_sc {K : PySem.W.Frag} {H : Hp} : ∀ {xs : List V}, (∀ x ∈ xs, Sc x) → DpAll K H xs (xs.map scD)
  | [], _ => .nil
  | x :: xs, h => by
    refine .cons ?_ (dp_sc fun y hy => h y (List.mem_cons_of_mem _ hy))
    cases h x (List.mem_cons_self ..) with
    | int i => exact .int i
    | bl => exact .bl true
    | non => exact .non
theorem shaped_sc {xs : List V} (h : ∀ x ∈ xs, Sc x) : SeqAt.shaped (.list (xs.map scD)) = true := by
  have h1 : ∀ {xs : List V}, (∀ x ∈ xs, Sc x) → PyData.canLayAll0 (xs.map scD) = true ∧ PyData.depthAll (xs.map scD) = 0 := by
    intro xs
    induction xs with
    | nil => exact fun _ => ⟨rfl, rfl⟩
    | cons a ls ih =>
      intro h
      obtain ⟨h1, h2⟩ := ih fun y hy => h y (List.mem_cons_of_mem _ hy)
      cases h a (List.mem_cons_self ..) <;> simp [scD, PyData.canLayAll0, PyData.canLay0, PyData.depthAll, PyData.depth, h1, h2]
  obtain ⟨a, b⟩ := h1 h
  simp [SeqAt.shaped, PyData.canLay0, PyData.depth, a, b]
theorem eqv_sc0 (xs : List V) : PyData.eqv (.list (xs.map scD)) (.list []) = decide (xs = []) := by
  rw [PyData.eqv]
  cases xs with
  | nil => rfl
  | cons a ls =>
    rw [List.map_cons, PyData.eqvAll]
    rfl
theorem inV_non (ns : List Int) : inV .non (ns.map V.int) = false := by
  induction ns with
  | nil => rfl
  | cons n ns ih =>
    unfold inV at ih ⊢
    rw [List.map_cons, List.any_cons, ih]
    rfl
/-- the spots of a value: none is wrong -/
theorem bads_nil (lot : List Int) (a r : V) (ws : List Int) : decide (((a :: ws.map V.int) ++ [r]).filter (fun v => !okS lot v) = []) = (okS lot a && okS lot r && ws.all fun t => decide (t ∈ lot)) := by
  rw [Bool.eq_iff_iff, decide_eq_true_iff, List.filter_eq_nil_iff]
  simp only [Bool.and_eq_true, List.all_eq_true, decide_eq_true_eq]
  constructor
  · intro z
    have z1 := z a (List.mem_append_left _ (List.mem_cons_self ..))
    have z2 := z r (List.mem_append_right _ (List.mem_singleton.mpr rfl))
    refine ⟨⟨by simpa using z1, by simpa using z2⟩, fun t ht => ?_⟩
    have := z (.int t) (List.mem_append_left _ (List.mem_cons_of_mem _ (List.mem_map.mpr ⟨t, ht, rfl⟩)))
    have e : okS lot (.int t) = true := by simpa using this
    exact of_decide_eq_true e
  · rintro ⟨⟨z1, z2⟩, z3⟩ x hx
    rcases List.mem_append.mp hx with y | y
    · rcases List.mem_cons.mp y with rfl | y
      · rw [z1]
        simp
      · obtain ⟨t, ht, rfl⟩ := List.mem_map.mp y
        have e : okS lot (.int t) = true := decide_eq_true (z3 t ht)
        rw [e]
        simp
    · rw [List.mem_singleton.mp y, z2]
      simp
theorem catT_ok {K : PySem.W.Frag} {H : Hp} {a b : Addr} {xs ys : List V} {Q : VK} (ha : SqT K H a xs) (hb : SqT K H b ys) (hl : xs.length + ys.length ≤ 1000) (q : ∀ r H', Same H H' → SqT K H' r (xs ++ ys) → Q (.ref r) H') : rCatA K (.ref a) (.ref b) H Q := by
  refine ⟨a, b, xs, ys, rfl, rfl, ha, hb, Nat.le_of_lt (small1000 hl), fun e => ?_, fun _ e => ?_, fun _ _ p hp => q p _ (same_new hp) (tupAt upd_same)⟩
  · subst e
    exact q b H (Same.refl H) hb
  · subst e
    exact q a H (Same.refl H) (by rw [List.append_nil]; exact ha)
theorem Each.app {α : Type} {R : V → α → Prop} : ∀ {xs ys : List V} {ds es : List α}, Each R xs ds → Each R ys es → Each R (xs ++ ys) (ds ++ es)
  | _, _, _, _, .nil, h => h
  | _, _, _, _, .cons k t, h => .cons k (t.app h)
theorem Each.take {α : Type} {R : V → α → Prop} : ∀ {xs : List V} {ds : List α} (k : Nat), Each R xs ds → Each R (xs.take k) (ds.take k)
  | _, _, 0, _ => .nil
  | _, _, _ + 1, .nil => .nil
  | _, _, k + 1, .cons h t => .cons h (t.take k)
theorem Each.drop {α : Type} {R : V → α → Prop} : ∀ {xs : List V} {ds : List α} (k : Nat), Each R xs ds → Each R (xs.drop k) (ds.drop k)
  | _, _, 0, h => h
  | _, _, _ + 1, .nil => .nil
  | _, _, k + 1, .cons _ t => t.drop k
theorem Hb.mix {n : Nat} {h : List (List Int)} (hb : Hb n h) {k : Nat} (hk : k < n) {r : List Int} (hr : r.Perm (rg n)) : Hb n (h.take k ++ [r] ++ h.drop (k + 1)) where
  len := by
    have := hb.len
    rw [List.length_append, List.length_append, List.length_take, List.length_drop, List.length_singleton]
    omega
  perm := fun ns hm => by
    rcases List.mem_append.mp hm with z | z
    · rcases List.mem_append.mp z with y | y
      · exact hb.perm ns (List.mem_of_mem_take y)
      · rw [List.mem_singleton.mp y]
        exact hr
    · exact hb.perm ns (List.mem_of_mem_drop z)
  lo := hb.lo
  hi := hb.hi
theorem filter_head0 {α : Type} (f : α → Bool) : ∀ l : List α, (l.filter f).head?.isSome = (l.find? f).isSome
  | [] => rfl
  | a :: l => by
    by_cases h : f a = true
    · rw [List.filter_cons_of_pos h, List.find?_cons_of_pos h]
      rfl
    · rw [List.filter_cons_of_neg h, List.find?_cons_of_neg h]
      exact filter_head0 f l
/-- a pair tells -/
theorem gp_filter (lot : List Int) (x y : Int) : gpT lot [x, y] = !decide (lot.filter (fun r => !decide (decide (x = r) = decide (y = r))) = []) := by
  have e : ∀ r : Int, (decide (r = x) != decide (r = y)) = !decide (decide (x = r) = decide (y = r)) := fun r => by
    by_cases hx : x = r
    · by_cases hy : y = r
      · simp [hx, hy]
      · have hx' : r = x := hx.symm
        have hy' : ¬ r = y := fun z => hy z.symm
        simp [hx, hy, hy']
    · by_cases hy : y = r
      · have hx' : ¬ r = x := fun z => hx z.symm
        simp [hx, hy, hx']
      · have hx' : ¬ r = x := fun z => hx z.symm
        have hy' : ¬ r = y := fun z => hy z.symm
        simp [hx, hy, hx', hy']
  have e2 : gpT lot [x, y] = (lot.find? fun r => !decide (decide (x = r) = decide (y = r))).isSome := by
    show (lot.find? fun r => decide (r = x) != decide (r = y)).isSome = _
    congr 2
    funext r
    exact e r
  rw [e2, ← filter_head0]
  cases lot.filter (fun r => !decide (decide (x = r) = decide (y = r))) with
  | nil => rfl
  | cons a l => rfl
/-- what the law has gathered of the first pairs -/
structure FarP (lot : List Int) (pre : List (List Int × V)) (fs : List Int) : Prop where
  at_ : ∀ k ∈ fs, ∃ q ∈ pre, gpT lot q.1 = true ∧ q.2 = .int k
  all : ∀ q ∈ pre, gpT lot q.1 = true → ∃ k ∈ fs, q.2 = .int k
  len : fs.length ≤ pre.length
theorem FarP.no {lot : List Int} {pre : List (List Int × V)} {fs : List Int} {q : List Int × V} (F : FarP lot pre fs) (e : gpT lot q.1 = false) : FarP lot (pre ++ [q]) fs where
  at_ := fun k hk => let ⟨x, h1, h2⟩ := F.at_ k hk; ⟨x, List.mem_append_left _ h1, h2⟩
  all := fun x hx hg => by
    rcases List.mem_append.mp hx with z | z
    · exact F.all x z hg
    · rw [List.mem_singleton.mp z, e] at hg
      cases hg
  len := by
    have := F.len
    rw [List.length_append]
    omega
theorem FarP.yes {lot : List Int} {pre : List (List Int × V)} {fs : List Int} {q : List Int × V} {k : Int} (F : FarP lot pre fs) (e : gpT lot q.1 = true) (ek : q.2 = .int k) : FarP lot (pre ++ [q]) (fs ++ [k]) where
  at_ := fun j hj => by
    rcases List.mem_append.mp hj with z | z
    · obtain ⟨x, h1, h2⟩ := F.at_ j z
      exact ⟨x, List.mem_append_left _ h1, h2⟩
    · rw [List.mem_singleton.mp z]
      exact ⟨q, List.mem_append_right _ (List.mem_singleton.mpr rfl), e, ek⟩
  all := fun x hx hg => by
    rcases List.mem_append.mp hx with z | z
    · obtain ⟨j, h1, h2⟩ := F.all x z hg
      exact ⟨j, List.mem_append_left _ h1, h2⟩
    · rw [List.mem_singleton.mp z]
      exact ⟨k, List.mem_append_right _ (List.mem_singleton.mpr rfl), ek⟩
  len := by
    have := F.len
    rw [List.length_append, List.length_append]
    show _ + 1 ≤ _ + 1
    omega
theorem FarP.far {h o : List (List Int)} {lot : List Int} {as : List (List Int × V)} {fs : List Int} (F : FarP lot as fs) (M : MkI h o lot as) : FarI h o lot fs where
  at_ := fun k hk => by
    obtain ⟨q, hq, hg, ek⟩ := F.at_ k hk
    obtain ⟨j, ej, ⟨pl, hp, w, hw, hl, e⟩, _⟩ := M.val q hq
    have : k = (j : Int) := V.int.inj (ek.symm.trans ej)
    refine ⟨pl, hp, w, hw, ?_, by omega⟩
    rw [e]
    exact hg
  all := fun pl hp w hw hs => by
    have hr : Rs h o lot w.length [mark h pl w, mark o pl w] := ⟨pl, hp, w, hw, rfl, rfl⟩
    obtain ⟨q, hq, e⟩ := List.mem_map.mp (M.all _ _ hr)
    obtain ⟨k, hk, ek⟩ := F.all q hq (by rw [e]; exact hs)
    obtain ⟨j, ej, _, hmin⟩ := M.val q hq
    have : k = (j : Int) := V.int.inj (ek.symm.trans ej)
    refine ⟨k, hk, ?_⟩
    rcases Nat.lt_or_ge w.length j with z | z
    · exact absurd (by rw [e]; exact hr) (hmin _ z)
    · omega
/-! ### habits, compared -/
theorem dp_hab {K : PySem.W.Frag} {H : Hp} : ∀ {xs : List V} {h : List (List Int)}, Each (TI K H) xs h → DpAll K H xs (h.map fun s => .tuple (s.map PyData.int))
  | _, _, .nil => .nil
  | _, _, .cons k t => by
    obtain ⟨a, rfl, hS⟩ := k
    exact .cons (dp_tup hS) (dp_hab t)
theorem shaped_hab (ls : List (List Int)) : SeqAt.shaped (.tuple (ls.map fun s => .tuple (s.map PyData.int))) = true := by
  have h1 : ∀ ls : List (List Int), PyData.canLayAll0 (ls.map fun s => .tuple (s.map PyData.int)) = true := by
    intro ls
    induction ls with
    | nil => rfl
    | cons a ls ih => simp [PyData.canLayAll0, PyData.canLay0, PySem.W.ke_canLayAll0, ih]
  have h2 : ∀ ls : List (List Int), PyData.depthAll (ls.map fun s => .tuple (s.map PyData.int)) ≤ 2 := by
    intro ls
    induction ls with
    | nil => decide
    | cons a ls ih =>
      simp [PyData.depthAll, PyData.depth, PySem.W.ke_depthAll]
      omega
  simp [SeqAt.shaped, PyData.canLay0, PyData.depth, h1]
  have := h2 ls
  omega
theorem eqv_hab (h o : List (List Int)) : PyData.eqv (.tuple (h.map fun s => .tuple (s.map PyData.int))) (.tuple (o.map fun s => .tuple (s.map PyData.int))) = decide (h = o) := by
  rw [PyData.eqv]
  induction h generalizing o with
  | nil =>
    cases o with
    | nil => rfl
    | cons b o => rfl
  | cons a h ih =>
    cases o with
    | nil => rfl
    | cons b o =>
      rw [List.map_cons, List.map_cons, PyData.eqvAll, eqv_tup, ih]
      rw [Bool.eq_iff_iff, Bool.and_eq_true, decide_eq_true_iff, decide_eq_true_iff, decide_eq_true_iff, List.cons.injEq]
theorem res_non {K : PySem.W.Frag} {H : Hp} {val : V} {res : Option (Int × List Int × Int)} (h : ResV K H val res) : decide (val = .non) = decide (res = none) := by
  cases res with
  | none =>
    have e : val = .non := h
    rw [e]
    rfl
  | some r3 =>
    obtain ⟨pl, w, r⟩ := r3
    obtain ⟨t, aw, rfl, _⟩ := h
    rfl
/-- within a turn and behind it -/
def GL9 (K : PySem.W.Frag) (T : List (Addr × Str)) (a : Addr) (σ : L2.St) (H : Hp) : Prop := ∃ (p : Addr) (n : Nat) (v u : V) (h o : List (List Int)) (al : Addr) (lot : List Int) (res : Option (Int × List Int × Int)) (far : List Int) (lf : Addr) (y5 y7 y8 y10 y11 y12 y13 y14 y15 y16 y17 y18 y19 : Option V),
  σ = [some (.ref a), some (.ref p), some (.int (n : Int)), some v, some u, y5, some (.ref al), y7, y8, some (.ref lf), y10, y11, y12, y13, y14, y15, y16, y17, y18, y19, none, none, none, none] ∧ Row K H p ∧ Tabs T H ∧ Two K H v u h o n (.ref al) lot ∧ ShR h o lot lot res ∧ H lf = some (.lst (far.map V.int)) ∧ FarI h o lot far ∧ far.length ≤ 120 ∧ lf ≠ p
def G3 (K : PySem.W.Frag) (T : List (Addr × Str)) (a : Addr) (σ : L2.St) (H : Hp) : Prop := ∃ (p : Addr) (n : Nat) (v u : V) (h o : List (List Int)) (al : Addr) (lot : List Int) (res : Option (Int × List Int × Int)) (far : List Int) (lf : Addr) (y5 y7 y8 y10 y11 y12 y13 y14 y15 : Option V) (x : V) (due : Bool) (y18 y19 : Option V) (vr : VR),
  σ = [some (.ref a), some (.ref p), some (.int (n : Int)), some v, some u, y5, some (.ref al), y7, y8, some (.ref lf), y10, y11, y12, y13, y14, y15, some x, some (.bl due), y18, y19, none, none, none, none] ∧ Row K H p ∧ Tabs T H ∧ Two K H v u h o n (.ref al) lot ∧ ShR h o lot lot res ∧ H lf = some (.lst (far.map V.int)) ∧ FarI h o lot far ∧ far.length ≤ 120 ∧ lf ≠ p ∧
  Vk K H x vr ∧ ∀ res', ShR h o lot lot res' → shB h o lot n res' vr = due
/-- the odd values of a turn -/
structure Som (K : PySem.W.Frag) (H : Hp) (p aw t1 q2 lw t3 t4 d5 t6 t7 : Addr) (ws : List Int) : Prop where
  nq : q2 ≠ p
  nl : lw ≠ p
  e1 : H t1 = some (.tup [.int 0, .ref aw])
  e2 : H q2 = some (.lst [.int 0, .ref aw, .int 0])
  el : H lw = some (.lst (ws.map V.int))
  e3 : H t3 = some (.tup [.int 0, .ref lw, .int 0])
  e4 : H t4 = some (.tup [.int 0, .int 0, .int 0])
  e5 : H d5 = some (.dK [])
  e6 : H t6 = some (.tup [.bl true, .ref aw, .int 0])
  e7 : H t7 = some (.tup [.int 0, .ref aw, .non])
  hW : SqT K H aw (ws.map V.int)
section
variable {K : PySem.W.Frag} {H H' : Hp} {p aw t1 q2 lw t3 t4 d5 t6 t7 : Addr} {ws : List Int}
theorem Som.step (s : Som K H p aw t1 q2 lw t3 t4 d5 t6 t7 ws) (f : Fix H H') (b : But p H H') : Som K H' p aw t1 q2 lw t3 t4 d5 t6 t7 ws :=
  ⟨s.nq, s.nl, f _ _ s.e1 (fun _ z => nomatch z), b _ _ s.e2 s.nq, b _ _ s.el s.nl, f _ _ s.e3 (fun _ z => nomatch z), f _ _ s.e4 (fun _ z => nomatch z), f _ _ s.e5 (fun _ z => nomatch z), f _ _ s.e6 (fun _ z => nomatch z), f _ _ s.e7 (fun _ z => nomatch z), f.tups _ _ s.hW⟩
theorem Som.same (s : Som K H p aw t1 q2 lw t3 t4 d5 t6 t7 ws) (e : Same H H') : Som K H' p aw t1 q2 lw t3 t4 d5 t6 t7 ws := s.step (Fix.same e) (But.same e)
theorem Som.kind (s : Som K H p aw t1 q2 lw t3 t4 d5 t6 t7 ws) (hl : ws.length ≤ 900) {i : Nat} {x : V} (hx : ([.non, .ref t1, .ref q2, .ref t3, .ref t4, .ref d5, .ref t6, .ref t7] : List V)[i]? = some x) : ∃ vr, Vk K H x vr := by
  have hT : TI K H (.ref aw) ws := ⟨aw, rfl, s.hW⟩
  match i, hx with
  | 0, e =>
    cases Option.some.inj e
    exact ⟨_, .non⟩
  | 1, e =>
    cases Option.some.inj e
    exact ⟨_, .bad (.tup (tupAt s.e1)) rfl⟩
  | 2, e =>
    cases Option.some.inj e
    exact ⟨_, .bad (.lst (lstAt s.e2)) rfl⟩
  | 3, e =>
    cases Option.some.inj e
    exact ⟨_, .tri (tupAt s.e3) (.int 0) (.int 0) (.lst (lstAt s.el))⟩
  | 4, e =>
    cases Option.some.inj e
    exact ⟨_, .tri (tupAt s.e4) (.int 0) (.int 0) (.int 0)⟩
  | 5, e =>
    cases Option.some.inj e
    exact ⟨_, .bad (.dct s.e5) rfl⟩
  | 6, e =>
    cases Option.some.inj e
    exact ⟨_, .tri (tupAt s.e6) .bl (.int 0) (.tup hT hl)⟩
  | 7, e =>
    cases Option.some.inj e
    exact ⟨_, .tri (tupAt s.e7) (.int 0) .non (.tup hT hl)⟩
  | i + 8, e => simp at e
theorem pick6 {td : Addr} {y x : V} {i : Nat} (h : ((List.replicate (6 : Int).toNat [V.ref td]).flatten ++ [y])[i]? = some x) : x = .ref td ∨ x = y := by
  have := List.mem_of_getElem? h
  rcases List.mem_append.mp this with z | z
  · obtain ⟨l, hl, hx⟩ := List.mem_flatten.mp z
    rw [(List.mem_replicate.mp hl).2] at hx
    exact .inl (List.mem_singleton.mp hx)
  · exact .inr (List.mem_singleton.mp z)
end
theorem shB_bad {h o : List (List Int)} {lot : List Int} {n : Nat} (res : Option (Int × List Int × Int)) : shB h o lot n res .bad = false := by
  cases res with
  | none => rfl
  | some r3 => rfl
theorem shB_nov {h o : List (List Int)} {lot : List Int} {n : Nat} (res : Option (Int × List Int × Int)) (a r : V) : shB h o lot n res (.tri a none r) = false := by
  cases res with
  | none => rfl
  | some r3 => cases a <;> rfl
theorem okS_all {lot : List Int} {a r : V} {ws : List Int} (h : (okS lot a && okS lot r && ws.all fun t => decide (t ∈ lot)) = true) : ∃ pl rd, a = .int pl ∧ r = .int rd ∧ pl ∈ lot ∧ rd ∈ lot ∧ ∀ t ∈ ws, t ∈ lot := by
  rw [Bool.and_eq_true, Bool.and_eq_true] at h
  obtain ⟨⟨h1, h2⟩, h3⟩ := h
  cases a with
  | int pl =>
    cases r with
    | int rd => exact ⟨pl, rd, rfl, rfl, of_decide_eq_true h1, of_decide_eq_true h2, fun t ht => of_decide_eq_true (List.all_eq_true.mp h3 t ht)⟩
    | _ => cases h2
  | _ => cases h1
def lenOf : Option (Int × List Int × Int) → Int
  | some (_, w0, _) => (w0.length : Int)
  | none => 0
end RH
set_option Elab.async false
set_option linter.all false
set_option maxRecDepth 100000
set_option maxHeartbeats 2000000
namespace RH
open PySem PySem.Spec PyProof.Rows L2
open LamX (Tabs TabS TabB ExtN CodeO codeO_ne)
theorem cl_listOf {X : Cx} (K : PySem.W.Frag) (h : X.K = K := by rfl) : CallR X (.type "list") (fun xs H Q => ∃ p ys, xs = [.ref p] ∧ (SqL K H p ys ∨ SqT K H p ys) ∧ ∀ l, H l = none → Q (.ref l) (upd H l (.lst ys))) := by
  subst h
  exact call_list_of
theorem cl_isi {X : Cx} (K : PySem.W.Frag) (h : X.K = K := by rfl) : CallR X (.builtin "isinstance") (rIsi K) := by
  subst h
  exact call_isi
theorem opNotIn {X : Cx} (K : PySem.W.Frag) (h : X.K = K := by rfl) : OpR X (compareOp .NotIn) (rIn K true) := by
  subst h
  exact op_notIn_seq
section
variable {P : Program} {w : World} {K : PySem.W.Frag} {mg : Str → Option Value} {base : Heap}
theorem ok_law {T : List (Addr × Str)} {f : Addr} {fdat : FuncData} (F : Fun K "law" "law" st_law f fdat) (B : Bu mg) (bmin : mg "min" = none) (CT : Cal P w K mg base 1 "_law_taken" (spTaken K)) (CP : Cal P w K mg base 2 "_law_pick" (spPick K)) (CLo : Cal P w K mg base 2 "_law_lot" (spLot K)) (CH : Cal P w K mg base 3 "_law_habit" (spHabit K))
    (CA : Cal P w K mg base 1 "_law_alike" (spAlike K 0)) (CM : Cal P w K mg base 1 "_law_marks" (spMarks P w K)) (CTl : Cal P w K mg base 1 "_law_tells" (spTells K)) (CTe : Cal P w K mg base 9 "test" (spTest K T)) (CSh : Cal P w K mg base 9 "shows_test" (spShows K T)) :
    FnOk P w K mg base CX0 10 f fdat ["script"] (spLaw K T) := by
  refine F.ok sc_law (fun vs H Q E h => ?_) (fun cdv A outer s H vs Q E hr h => ?_)
  · obtain ⟨a, ns, rfl, _⟩ := h
    rfl
  · obtain ⟨a, scr, rfl, hZ, hTb, q⟩ := h
    refine ⟨_, pss_cons (ps_set (i := 1) sc_law.nd rfl (.inr rfl) (pe_lst (pa_cons (pv 0) (pa_cons pe_int (pa_cons pe_int (pa_cons pe_int pa_nil))))))
      (pss_cons (ps_set (i := 2) sc_law.nd rfl (.inr rfl) (pe_op op_add pe_int (pc CT hr (pa_cons (pv 1) (pa_cons pe_int pa_nil)))))
      (pss_cons (ps_par (i := 3) (j := 4) rfl sc_law.nd rfl rfl (by decide) rfl rfl (pa_cons (pc CH hr (pa_cons (pv 1) (pa_cons (pv 2) pa_nil))) (pa_cons (pc CH hr (pa_cons (pv 1) (pa_cons (pv 2) pa_nil))) pa_nil)) rfl)
      (pss_cons (ps_cut (G1 K T a) (ps_if (pt_cmpR op_eq (pc CT hr (pa_cons (pv 1) (pa_cons pe_int pa_nil))) pe_int (nomark _))
        (pss_cons (ps_set (i := 5) sc_law.nd rfl (.inl rfl) (pc CT hr (pa_cons (pv 1) (pa_cons (pv 2) pa_nil))))
        (pss_one (ps_set (i := 4) sc_law.nd rfl (.inl rfl) (pe_op op_catA (pe_op op_catA (pe_slice sl_tupA (pv 3) po_none (po_some (pv 5))) (pe_tup (pa_cons (pe_ix (ixT K) (pv 4) (pv 5) (fun _ _ => rfl)) pa_nil))) (pe_slice sl_tupA (pv 3) (po_some (pe_op op_add (pv 5) pe_int)) po_none))))) pss_nil))
      (pss_cons (ps_set (i := 6) sc_law.nd rfl (.inr rfl) (pc CLo hr (pa_cons (pv 1) (pa_cons (pv 2) pa_nil))))
      (pss_cons (ps_par (i := 7) (j := 8) rfl sc_law.nd rfl rfl (by decide) rfl rfl (pa_cons (pc CTe hr (pa_cons (pv 3) (pa_cons (pv 4) (pa_cons (pv 6) pa_nil))) (hk := Nat.le_refl _)) (pa_cons (pc CM hr (pa_cons (pv 3) (pa_cons (pv 4) (pa_cons (pv 6) pa_nil)))) pa_nil)) rfl)
      (pss_cons (ps_set (i := 9) sc_law.nd rfl (.inl rfl) (pe_lst pa_nil))
      (pss_cons (ps_for PassesOwn.never rfl (pi_list (pe_callTy (call_listE rfl) (by rfl) B.list (by decide +kernel) (pa_cons (pv 8) pa_nil))) (pg_name (i := 10) sc_law.nd rfl (.inr rfl))
        (pss_one (ps_if (pt_cmpR (op_neD hr.units) (pe_lc (own := [("place", 21)]) (g := gName 21) rfl sc_law.nd (pi_tup (pv 6)) (blkOk_by (N := NL13) (sc := defScope st_law) (by decide +kernel)) (fun _ _ _ _ _ => pg_name (i := 21) sc_law.nd rfl (Or.inl rfl))
            (fun _ _ _ _ _ => pts_one (pt_cmpR op_ne (pe_cmpR op_eq (pe_ix (ixT K) (pv 10) pe_int (fun _ _ => rfl)) (pv 21) (nomark _)) (pe_cmpR op_eq (pe_ix (ixT K) (pv 10) pe_int (fun _ _ => rfl)) (pv 21) (nomark _)) (nomark _))) (fun _ _ _ _ _ => pv 21)) (pe_lst pa_nil) (nomark _))
          (pss_one (ps_expr (pe_bm PySem.F.plainAttrs_list PySem.F.slot_list_append PySem.F.type_list_append mt_append (pv 9) (pa_cons (pe_dgetE (hu_of hr) (pv 8) (pv 10) (fun _ _ => rfl)) pa_nil)))) pss_nil)))
      (pss_cons (ps_if (pt_cmpR op_notBl (pc CSh hr (pa_cons (pv 3) (pa_cons (pv 4) (pa_cons (pv 6) (pa_cons (pv 7) pa_nil)))) (hk := Nat.le_refl _)) pe_bl (nomark _)) (pss_one (ps_ret pe_bl)) pss_nil)
      (pss_cons (ps_cut (G2 K T a) (ps_if (PW.pt (pw_or (pt_cmp (pc_isN (pv 7))) (pw_or1 (pt_cmpR (op_eqD hr.units) (pv 9) (pe_lst pa_nil) (nomark _)))))
        (pss_one (ps_if (PW.pt (pw_or (pt_cmp (pc_notN (pv 7))) (pw_or1 (pt_cmpR (op_neD hr.units) (pv 9) (pe_lst pa_nil) (nomark _))))) (pss_one (ps_ret pe_bl)) pss_nil))
        (pss_one (ps_if (PW.pt (pw_or (pt_not (pt_val (pc CTl hr (pa_cons (pv 3) (pa_cons (pv 4) (pa_cons (pv 7) pa_nil)))))) (pw_or1 (pt_cmpR op_ne (pe_callB (cl_len K) (by rfl) B.len PySem.boot_len (pa_cons (pe_ix (ixT K) (pv 7) pe_int (fun _ _ => rfl)) pa_nil)) (pe_callB (cr_min rfl) (by rfl) bmin (by decide +kernel) (pa_cons (pv 9) pa_nil)) (nomark _))))) (pss_one (ps_ret pe_bl)) pss_nil))))
      (pss_cons (ps_for PassesOwn.never rfl (pi_range1 (by rfl) B.range (pa_cons pe_int pa_nil)) (pg_name (i := 11) sc_law.nd rfl (.inl rfl))
        (pss_cons (ps_set (i := 12) sc_law.nd rfl (.inl rfl) (pc CP hr (pa_cons (pv 1) (pa_cons (pe_lst (pa_cons (pe_callB (cr_min rfl) (by rfl) bmin (by decide +kernel) (pa_cons (pe_op op_cat (pv 9) (pe_lst (pa_cons pe_int pa_nil))) pa_nil)) (pa_cons (pc CT hr (pa_cons (pv 1) (pa_cons pe_int pa_nil))) pa_nil))) pa_nil))))
        (pss_cons (ps_set (i := 13) sc_law.nd rfl (.inl rfl) (pe_tupleOf (by rfl) B.tuple (pe_lc (own := [("step", 22)]) (g := gName 22) (tt := tYes) rfl sc_law.nd (pi_range1 (by rfl) B.range (pa_cons (pv 12) pa_nil))
          (blkOk_by (N := NL13) (sc := defScope st_law) (by decide +kernel)) (fun _ _ _ _ _ => pg_name (i := 22) sc_law.nd rfl (Or.inl rfl)) (fun _ _ _ _ _ => pts_nil) (fun _ _ _ _ _ => pc CT hr (pa_cons (pv 1) (pa_cons (pv 2) pa_nil))))))
        (pss_cons (ps_set (i := 14) sc_law.nd rfl (.inl rfl) (pe_lst (pa_cons pe_non (pa_cons (pe_tup (pa_cons pe_int (pa_cons (pv 13) pa_nil))) (pa_cons (pe_lst (pa_cons pe_int (pa_cons (pv 13) (pa_cons pe_int pa_nil)))) (pa_cons (pe_tup (pa_cons pe_int (pa_cons (pe_callTy (cl_listOf K) (by rfl) B.list (by decide +kernel) (pa_cons (pv 13) pa_nil)) (pa_cons pe_int pa_nil))))
          (pa_cons (pe_tup (pa_cons pe_int (pa_cons pe_int (pa_cons pe_int pa_nil)))) (pa_cons pe_dnewK (pa_cons (pe_tup (pa_cons pe_bl (pa_cons (pv 13) (pa_cons pe_int pa_nil)))) (pa_cons (pe_tup (pa_cons pe_int (pa_cons (pv 13) (pa_cons pe_non pa_nil)))) pa_nil))))))))))
        (pss_cons (ps_set (i := 15) sc_law.nd rfl (.inl rfl) (pe_tup (pa_cons (pc CT hr (pa_cons (pv 1) (pa_cons (pv 2) pa_nil))) (pa_cons (pv 13) (pa_cons (pc CT hr (pa_cons (pv 1) (pa_cons (pv 2) pa_nil))) pa_nil)))))
        (pss_cons (ps_set (i := 16) sc_law.nd rfl (.inl rfl) (pc CP hr (pa_cons (pv 1) (pa_cons (pe_op op_cat (pe_op op_rep (pe_lst (pa_cons (pv 15) pa_nil)) pe_int) (pe_lst (pa_cons (pc CP hr (pa_cons (pv 1) (pa_cons (pv 14) pa_nil))) pa_nil))) pa_nil))))
        (pss_cons (ps_set (i := 17) sc_law.nd rfl (.inl rfl) (pe_and (pe_cmp (pc_isN (pv 16))) (pe_one (pe_cmpR (op_eqD hr.units) (pv 9) (pe_lst pa_nil) (nomark _)))))
        (pss_cons (ps_cut (G3 K T a) (ps_if (PW.pt (pw_and (pt_val (pe_callB call_isi (by rfl) B.isi (by decide +kernel) (pa_cons (pv 16) (pa_cons (pe_bltn (v := .ty "tuple") (by rfl) B.tuple (by decide +kernel) rfl) pa_nil))))
            (pw_and (pt_cmpR op_eq (pe_callB (cl_len K) (by rfl) B.len PySem.boot_len (pa_cons (pv 16) pa_nil)) pe_int (nomark _))
            (pw_and (pt_val (pe_callB call_isi (by rfl) B.isi (by decide +kernel) (pa_cons (pe_ix (ixT K) (pv 16) pe_int (fun _ _ => rfl)) (pa_cons (pe_bltn (v := .ty "tuple") (by rfl) B.tuple (by decide +kernel) rfl) pa_nil))))
            (pw_and1 (pt_cmpR (op_neD hr.units) (pv 9) (pe_lst pa_nil) (nomark _)))))))
          (pss_cons (ps_set (i := 18) sc_law.nd rfl (.inl rfl) (pe_op op_catA (pe_op op_catA (pe_tup (pa_cons (pe_ix (ixT K) (pv 16) pe_int (fun _ _ => rfl)) pa_nil)) (pe_ix (ixT K) (pv 16) pe_int (fun _ _ => rfl))) (pe_tup (pa_cons (pe_ix (ixT K) (pv 16) pe_int (fun _ _ => rfl)) pa_nil))))
          (pss_cons (ps_set (i := 19) sc_law.nd rfl (.inl rfl) (pe_cmpR (op_eqD hr.units) (pe_lc (own := [("spot", 23)]) (g := gName 23) rfl sc_law.nd (pi_tup (pv 18)) (blkOk_by (N := NL13) (sc := defScope st_law) (by decide +kernel)) (fun _ _ _ _ _ => pg_name (i := 23) sc_law.nd rfl (Or.inl rfl))
            (fun _ _ _ _ _ => pts_one (PW.pt (pw_or (pt_val (pe_callB (cl_isi K) (by rfl) B.isi (by decide +kernel) (pa_cons (pv 23) (pa_cons (pe_bltn (v := .ty "bool") (by rfl) B.bool (by decide +kernel) rfl) pa_nil)))) (pw_or1 (pt_cmpR (opNotIn K) (pv 23) (pv 6) rfl))))) (fun _ _ _ _ _ => pv 23)) (pe_lst pa_nil) (nomark _)))
          (pss_one (ps_set (i := 17) sc_law.nd rfl (.inl rfl) (pe_and (pv 19) (pe_and (pe_cmpR op_eq (pe_callB (cl_len K) (by rfl) B.len PySem.boot_len (pa_cons (pe_ix (ixT K) (pv 16) pe_int (fun _ _ => rfl)) pa_nil)) (pe_callB (cr_min rfl) (by rfl) bmin (by decide +kernel) (pa_cons (pv 9) pa_nil)) (nomark _)) (pe_one (pc CTl hr (pa_cons (pv 3) (pa_cons (pv 4) (pa_cons (pv 16) pa_nil))))))))))) pss_nil))
        (pss_one (ps_if (pt_not (pt_val (pc CA hr (pa_cons (pc CSh hr (pa_cons (pv 3) (pa_cons (pv 4) (pa_cons (pv 6) (pa_cons (pv 16) pa_nil)))) (hk := Nat.le_refl _)) (pa_cons (pv 17) pa_nil))))) (pss_one (ps_ret pe_bl)) pss_nil))))))))))
      (pss_cons (ps_set (i := 20) sc_law.nd rfl (.inl rfl) (pe_tupRg rfl (by rfl) B.tuple (prg_1 (by rfl) B.range (pv 2))))
      (pss_one (ps_ret (pe_cmpR op_eq (pe_cmp (pc_isN (pc CTe hr (pa_cons (pv 3) (pa_cons (pv 4) (pa_cons (pv 20) pa_nil))) (hk := Nat.le_refl _)))) (pe_cmpR (op_eqD hr.units) (pv 3) (pv 4) (nomark _)) (nomark _))))))))))))))), ?_⟩
    -- row, places
    refine ⟨_, rfl, by show 4 ≤ sizeLine; decide, fun p hp => ?_⟩
    have sp := same_new (o := .lst [.ref a, .int 0, .int 5013, .int 0]) hp
    have hR1 : Row K (upd H p (.lst [.ref a, .int 0, .int 5013, .int 0])) p := ⟨a, scr, 0, 5013, 0, upd_same, hZ.on (Fix.same sp), Int.le_refl _⟩
    have tb1 := tabs_same hTb sp
    generalize (upd H p (.lst [.ref a, .int 0, .int 5013, .int 0])) = H1 at *
    refine ⟨_, rfl, p, 4, rfl, hR1, by decide, by decide, fun k H2 k0 k1 hB2 hR2 => ⟨2, k, rfl, rfl, ?_⟩⟩
    have tb2 : Tabs T H2 := (hR1.fix hB2).tabs tb1
    obtain ⟨n, hn⟩ : ∃ n : Nat, 2 + k = (n : Int) := ⟨(2 + k).toNat, by omega⟩
    show gName 2 (V.int (2 + k)) _ _ _
    rw [hn]
    have n2 : 2 ≤ n := by omega
    have n5 : n ≤ 5 := by omega
    -- habits
    refine ⟨_, rfl, _, rfl, p, n, rfl, hR2, n2, n5, fun H3 v h hb hB3 hR3 hT3 => ?_⟩
    refine ⟨_, rfl, _, rfl, p, n, rfl, hR3, n2, n5, fun H4 u o ho hB4 hR4 hU4 => ⟨_, _, rfl, ?_⟩⟩
    have hT4 : TII K H4 v h := hT3.on (hR3.fix hB4).tups
    have tb4 : Tabs T H4 := ((hR2.fix hB3).trans (hR3.fix hB4)).tabs tb2
    -- the other habit, changed or not
    refine ⟨fun σ1 HG hG => ?_, ?_⟩
    rotate_left
    · refine ⟨_, rfl, p, 2, rfl, hR4, by decide, by decide, fun k5 H5 _ _ hB5 hR5 => ⟨rfl, _, rfl, ite2 (fun e => ?_) (fun e => ?_)⟩⟩
      · have f5 := hR4.fix hB5
        have hT5 := hT4.on f5.tups
        have hU5 := hU4.on f5.tups
        refine ⟨_, rfl, _, rfl, p, n, rfl, hR5, by omega, by omega, fun k6 H6 k60 k61 hB6 hR6 => ?_⟩
        have f6 := hR5.fix hB6
        have hT6 := hT5.on f6.tups
        have hU6 := hU5.on f6.tups
        obtain ⟨ah, hxs, rfl, hS, hE⟩ := id hT6
        obtain ⟨ao, oxs, rfl, oS, oE⟩ := id hU6
        have hxl : hxs.length = n := hE.len.trans hb.len
        obtain ⟨m, rfl⟩ : ∃ m : Nat, k6 = (m : Int) := ⟨k6.toNat, by omega⟩
        have hm : m < n := by omega
        obtain ⟨ro, hro⟩ : ∃ ro, o[m]? = some ro := ⟨_, List.getElem?_eq_getElem (by have := ho.len; omega)⟩
        obtain ⟨xo, hxo, hTo⟩ := oE.of hro
        refine ⟨_, rfl, _, rfl, (m : Int), rfl, slT_to (m : Int) m rfl hS fun b1 H7 s7 h1 => ?_⟩
        refine ⟨_, rfl, _, rfl, ao, oxs, (m : Int), xo, rfl, rfl, onT s7 oS, atI_nat hxo, by show 1 ≤ sizeLine; decide, fun T1 hT1 => ?_⟩
        have sT1 := same_new (o := .tup [xo]) hT1
        refine catT_ok (onT sT1 h1) (tupAt upd_same) (by rw [List.length_take]; show _ + 1 ≤ 1000; omega) fun r1 H8 s8 h8 => ?_
        refine ⟨_, rfl, _, rfl, (m : Int), 1, rfl, rfl, (m : Int) + 1, rfl, ?_⟩
        unfold tNoPart
        dsimp only
        have s78 := s7.trans (sT1.trans s8)
        refine slT_from ((m : Int) + 1) (m + 1) rfl (onT s78 hS) fun b2 H9 s9 h9 => ?_
        refine catT_ok (onT s9 h8) h9 (by rw [List.length_append, List.length_take, List.length_drop, List.length_singleton]; omega) fun r2 H10 s10 h10 => ?_
        have sA := s78.trans (s9.trans s10)
        have fA : Fix H4 H10 := f5.trans (f6.trans (Fix.same sA))
        refine ⟨p, n, _, .ref r2, h, h.take m ++ [ro] ++ h.drop (m + 1), _, rfl, hR6.same sA, fA.tabs tb4, hT6.on (Same.tups sA), ⟨r2, _, rfl, h10, ?_⟩, hb, hb.mix hm (ho.perm ro (List.mem_of_getElem? hro))⟩
        have hE' := hE.imp fun _ _ z => z.on (Same.tups sA)
        exact ((hE'.take m).app (.cons (hTo.on (Same.tups sA)) .nil)).app (hE'.drop (m + 1))
      · have f5 := hR4.fix hB5
        exact ⟨p, n, v, u, h, o, _, rfl, hR5, f5.tabs tb4, hT4.on f5.tups, hU4.on f5.tups, hb, ho⟩
    clear hT4 hU4 hb ho tb4 hR4 hB4 hR3 hB3 hT3 tb2 hR2 hB2 k0 k1 hn n2 n5 hR1 tb1 sp hp
    obtain ⟨p, n, v, u, h, o, y5, rfl, hR, tb, hT, hU, hb, ho⟩ := hG
    have n2 := hb.lo
    have n5 := hb.hi
    -- lot
    refine ⟨_, rfl, _, rfl, p, n, rfl, hR, by omega, by omega, fun H1 al lot hri l1 l2 hin hB1 hR1 eL => ?_⟩
    have f1 := hR.fix hB1
    have g1 : Two K H1 v u h o n (.ref al) lot := ⟨hT.on f1.tups, hU.on f1.tups, hb, ho, ⟨al, rfl, tupAt eL⟩, l1, l2, hin, hri⟩
    have tb1 := f1.tabs tb
    -- found, marks
    refine ⟨_, rfl, _, rfl, _, rfl, v, u, h, o, n, .ref al, lot, rfl, g1, tb1, fun H2 val res ex2 tb2 hSh hV => ?_⟩
    have ev2 := Ev.ext ex2
    have g2 := g1.tups ev2.tups
    have hR2 := hR1.ext ex2
    refine ⟨_, rfl, _, rfl, _, rfl, v, u, h, o, n, .ref al, lot, rfl, g2, fun H3 d as ks s3 eD kb nd hfew MK => ⟨_, _, rfl, ?_⟩⟩
    have g3 := g2.tups (Same.tups s3)
    have hR3 := hR2.same s3
    have tb3 := tabs_same tb2 s3
    have hV3 := hV.on (TK.same s3)
    -- far
    refine ⟨Nat.zero_le _, fun lf hlf => ?_⟩
    have slf := same_new (o := .lst []) hlf
    have hpl : p ≠ lf := hR3.ne hlf
    refine ⟨_, rfl, d, as, ks, rfl, slf _ _ eD, fun l0 hl0 => ?_⟩
    have sl0 := same_new (o := .lst (ks.map V.ref)) hl0
    refine ⟨l0, rfl, ⟨_, lstAt upd_same⟩, ?_⟩
    have hXk := kb.ex
    have lk : (ks.map V.ref).length = as.length := hXk.len.trans (List.length_map ..)
    have hl5 : lot.length ≤ 5 := by omega
    refine for_list (xs := ks.map V.ref) (fun i σ H' => ∃ fs y10, σ = [some (.ref a), some (.ref p), some (.int (n : Int)), some v, some u, y5, some (.ref al), some val, some (.ref d), some (.ref lf), y10, none, none, none, none, none, none, none, none, none, none, none, none, none] ∧ Same H3 H' ∧ H' lf = some (.lst (fs.map V.int)) ∧ H' l0 = some (.lst (ks.map V.ref)) ∧ FarP lot (as.take i) fs)
      ⟨[], none, rfl, slf.trans sl0, sl0 _ _ upd_same, upd_same, fun _ z => (nomatch z), fun _ z => (nomatch z), Nat.zero_le _⟩ (fun i σ H' _ h' => ?_) (fun i x σ H' hx h' => ?_) (fun σ HF h' => ?_)
    · obtain ⟨_, _, _, _, _, e, _⟩ := h'
      exact lstAt e
    · obtain ⟨fs, y10, rfl, sm, eF, eK, FP⟩ := h'
      have hi : i < as.length := by
        have := (List.getElem?_eq_some_iff.mp hx).1
        omega
      obtain ⟨q0, hq0⟩ : ∃ q0, as[i]? = some q0 := ⟨_, List.getElem?_eq_getElem hi⟩
      obtain ⟨b, rfl, hkb⟩ := hXk.get (s := q0.1) hx (by rw [List.getElem?_map, hq0]; rfl)
      have hkb' := TK.same sm _ _ hkb
      have hqm := List.mem_of_getElem? hq0
      obtain ⟨j, ej, hRs, _⟩ := MK.val q0 hqm
      obtain ⟨x0, y0, es, hx0, hy0⟩ := hRs.cp hb ho hin
      have hks : SqT K H' b [.int x0, .int y0] := by
        have z := hkb'
        rw [es] at z
        exact .inl z
      obtain ⟨_, e', hLs⟩ := id ((g3.tups (Same.tups sm)).hL)
      cases e'
      refine ⟨_, rfl, al, rfl, ⟨_, hLs⟩, fun D hD => ?_⟩
      refine lc_tup (xs := lot.map V.int) (fun m H2 => Same H' H2 ∧ H2 D = some (.lst (((lot.take m).filter (fun r => !decide (decide (x0 = r) = decide (y0 = r)))).map V.int))) ⟨same_new hD, upd_same⟩ (fun m H2 _ h2 => onT h2.1 hLs) (fun m x H2 hx2 h2 => ?_) (fun H2 h2 => ?_)
      · obtain ⟨r, hr0, rfl⟩ := map_at hx2
        obtain ⟨sm2, eD2⟩ := h2
        have hk2 := onT sm2 hks
        refine ⟨rfl, _, rfl, b, _, 0, .int x0, rfl, rfl, hk2, rfl, _, rfl, rfl, _, rfl, b, _, 1, .int y0, rfl, rfl, hk2, rfl, _, rfl, rfl, rfl, _, rfl, ?_⟩
        rw [V_int, V_int, V_bl]
        refine ite2 (fun e => ⟨_, rfl, _, eD2, ?_, Same.upd sm2 hD, ?_⟩) (fun e => ⟨sm2, ?_⟩)
        · rw [List.length_map]
          have := List.length_filter_le (fun r => !decide (decide (x0 = r) = decide (y0 = r))) (lot.take m)
          rw [List.length_take] at this
          exact small1000 (by omega)
        · rw [upd_same, take_more hr0, List.filter_append, List.filter_cons_of_pos (by exact e), List.map_append]
          rfl
        · rw [take_more hr0, List.filter_append, List.filter_cons_of_neg (by exact e), List.filter_nil, List.append_nil]
          exact eD2
      · obtain ⟨sm2, eD2⟩ := h2
        rw [List.length_map, List.take_length] at eD2
        refine ⟨Nat.zero_le _, fun z hz => ?_⟩
        have sz := same_new (o := .lst []) hz
        refine ⟨_, _, dp_lst (lstAt (sz _ _ eD2)), dp_lst (ns := []) (lstAt upd_same), PySem.W.ke_shaped_ints _, PySem.W.ke_shaped_ints _, _, rfl, ?_⟩
        rw [eqv_lst, ← gp_filter]
        have smA := sm2.trans sz
        have sm0 := sm.trans smA
        rw [← es]
        refine ite2 (fun e => ?_) (fun e => ?_)
        · refine ⟨_, rfl, .inl ⟨rfl, _, lstAt (smA _ _ eF)⟩, _, rfl, _, rfl, d, b, as, ks, q0.1, rfl, rfl, sm0 _ _ eD, kb.on (TK.same sm0), TK.same sm0 _ _ hkb, List.mem_map.mpr ⟨q0, hqm, rfl⟩, fun v2 hv2 => ?_⟩
          have ev2 : v2 = .int (j : Int) := (fns nd hv2 hqm).trans ej
          subst ev2
          refine ⟨lf, _, .int (j : Int), rfl, rfl, smA _ _ eF, ?_, fs ++ [(j : Int)], _, rfl, Same.upd sm0 hlf, ?_, ?_, ?_⟩
          · have := FP.len
            rw [List.length_take] at this
            rw [List.length_map]
            exact small1000 (by omega)
          · rw [upd_same, List.map_append]
            rfl
          · rw [upd_ne (Ne.symm (ne_of_none upd_same hl0))]
            exact smA _ _ eK
          · rw [take_more hq0]
            exact FP.yes e ej
        · refine ⟨fs, _, rfl, sm0, smA _ _ eF, smA _ _ eK, ?_⟩
          rw [take_more hq0]
          exact FP.no (by simpa using e)
    obtain ⟨far, y10, rfl, smF, eF, _, FP⟩ := h'
    rw [lk, List.take_length] at FP
    have FI := FP.far MK
    have hfl : far.length ≤ 120 := Nat.le_trans FP.len hfew
    have gF := g3.tups (Same.tups smF)
    have hRF := hR3.same smF
    have tbF := tabs_same tb3 smF
    have hVF := hV3.on (TK.same smF)
    -- the program shows its own
    have hvk : Vk K HF val (vrOf res) := by
      cases res with
      | none =>
        have e : val = .non := hVF
        subst e
        exact .non
      | some r3 =>
        obtain ⟨pl, w0, r0⟩ := r3
        obtain ⟨t, aw, rfl, ht, haw, hw⟩ := hVF
        exact .tri (.inl ht) (.int _) (.int _) (.tup ⟨aw, rfl, .inl haw⟩ (by omega))
    refine ⟨_, rfl, _, rfl, _, rfl, _, rfl, v, u, h, o, n, .ref al, lot, val, vrOf res, rfl, gF, tbF, hvk, fun H5 res5 ex5 tb5 hS5 => ?_⟩
    rw [shB_res hin hSh hS5]
    refine ⟨_, _, rfl, rfl, _, rfl, ifF rfl ?_⟩
    have ev5 := Ev.ext ex5
    have g5 := gF.tups ev5.tups
    have hR5 := hRF.ext ex5
    have eF5 : H5 lf = some (.lst (far.map V.int)) := ex5 _ _ eF (fun ps z => nomatch z)
    have hV5 := hVF.on ev5.tk
    -- the second cut
    refine ⟨fun σ2 HG2 hG2 => ?_, ?_⟩
    rotate_left
    · cases res with
      | none =>
        have ev : val = .non := hV5
        subst ev
        have e0 : far = [] := (FI.none_iff hSh).mpr rfl
        refine ⟨_, rfl, _, rfl, ifT (decide_eq_true rfl) (ifT rfl ?_)⟩
        refine ⟨_, rfl, _, rfl, ifF rfl ⟨_, rfl, Nat.zero_le _, fun z hz => ?_⟩⟩
        have sz := same_new (o := .lst []) hz
        refine ⟨_, _, dp_lst (lstAt (sz _ _ eF5)), dp_lst (ns := []) (lstAt upd_same), PySem.W.ke_shaped_ints _, PySem.W.ke_shaped_ints _, _, rfl, ?_⟩
        rw [eqv_lst, decide_eq_true e0]
        exact ifF rfl ⟨p, n, v, u, h, o, al, lot, none, far, lf, y5, _, _, _, rfl, hR5.same sz, tabs_same tb5 sz, g5.tups (Same.tups sz), hSh, sz _ _ eF5, FI, hfl, Ne.symm hpl⟩
      | some r3 =>
        obtain ⟨pl, w0, r0⟩ := r3
        obtain ⟨t, aw, rfl, ht, haw, hw⟩ := id hV5
        have e0 : ¬ far = [] := fun z => by
          have := (FI.none_iff hSh).mp z
          cases this
        obtain ⟨c1, c2, c3, c4⟩ := id hSh
        obtain ⟨c5, c6⟩ := trd_some c3
        refine ⟨_, rfl, _, rfl, ifF (ref_non _) ⟨_, rfl, Nat.zero_le _, fun z hz => ?_⟩⟩
        have sz := same_new (o := .lst []) hz
        refine ⟨_, _, dp_lst (lstAt (sz _ _ eF5)), dp_lst (ns := []) (lstAt upd_same), PySem.W.ke_shaped_ints _, PySem.W.ke_shaped_ints _, _, rfl, ?_⟩
        rw [eqv_lst, decide_eq_false e0]
        refine ifF rfl ?_
        have g6 := g5.tups (Same.tups sz)
        have ht6 := TK.same sz _ _ ht
        have haw6 := TK.same sz _ _ haw
        refine ⟨_, rfl, _, rfl, _, rfl, v, u, h, o, n, t, pl, r0, .ref aw, w0, rfl, g6.hT, g6.hU, hb, ho, .inl ht6, ⟨aw, rfl, .inl haw6⟩, hin pl c1, fun t ht => hin t (c2 t ht), _, rfl, ?_⟩
        have et : telB h o pl w0 r0 = true := c6
        rw [et]
        refine ifF rfl ⟨_, rfl, t, _, 1, .ref aw, rfl, rfl, .inl ht6, rfl, aw, w0.map V.int, rfl, .inr (.inl haw6), _, rfl, lf, far, rfl, lstAt (sz _ _ eF5), ?_, fun m hm hle => ⟨rfl, _, rfl, ifF ?_ ?_⟩⟩
        · cases far with
          | nil => exact absurd rfl e0
          | cons k far => exact Nat.succ_pos _
        · rw [FI.min hSh hm hle, List.length_map]
          simp
        · exact ⟨p, n, v, u, h, o, al, lot, some (pl, w0, r0), far, lf, y5, _, _, _, rfl, hR5.same sz, tabs_same tb5 sz, g6, hSh, sz _ _ eF5, FI, hfl, Ne.symm hpl⟩
    clear hV5 eF5 hR5 g5 ev5 hS5 tb5 ex5 hvk hVF tbF hRF gF hfl FI FP eF smF lk hXk sl0 hl0 hpl slf hlf hV3 tb3 hR3 g3 MK hfew nd kb eD s3 hR2 g2 ev2 hV hSh tb2 ex2 tb1 g1 f1 eL hR1 hB1 hin l2 l1 hri n5 n2 ho hb hU hT tb hR
    obtain ⟨p, n, v, u, h, o, al, lot, res, far, lf, y5, y7, y8, y10, rfl, hR, tb, g, hSh, eF, FI, hfl, hlp⟩ := hG2
    refine ⟨5, rfl, by decide, by decide, ?_⟩
    show (∃ W, _)
    refine for_range (lo := 0) (n := 5) (fun i σ H' => GL9 K T a σ H')
      ⟨p, n, v, u, h, o, al, lot, res, far, lf, y5, y7, y8, y10, none, none, none, none, none, none, none, none, none, rfl, hR, tb, g, hSh, eF, FI, hfl, hlp⟩ (fun i σ H1 hi h' => ?_) (fun σ HE h' => ?_)
    · clear hR tb g hSh eF FI hfl hlp
      obtain ⟨p, n, v, u, h, o, al, lot, res, far, lf, y5, y7, y8, y10, y11, y12, y13, y14, y15, y16, y17, y18, y19, rfl, hR, tb, g, hSh, eF, FI, hfl, hlp⟩ := h'
      have n5 := g.hb.hi
      have n2 := g.hb.lo
      -- steps
      refine ⟨_, rfl, _, rfl, by show 1 ≤ sizeLine; decide, fun l2 hl2 => ⟨lf, l2, far.map V.int, [.int 2], rfl, rfl, same_new hl2 _ _ eF, upd_same, by rw [sizeLine_eq, List.length_map]; show far.length + 1 ≤ _; omega, fun c hc => ?_⟩⟩
      have s2 := same_new (o := .lst [.int 2]) hl2
      have sc := same_new (o := .lst (far.map V.int ++ [.int 2])) hc
      have s2c := s2.trans sc
      refine ⟨c, far ++ [2], rfl, lstAt (by rw [upd_same, List.map_append]; rfl), by rw [List.length_append]; exact Nat.succ_pos _, fun m hm hle => ?_⟩
      have m0 : 0 ≤ m ∧ m ≤ 2 := by
        refine ⟨?_, hle 2 (List.mem_append_right _ (List.mem_singleton.mpr rfl))⟩
        rcases List.mem_append.mp hm with z | z
        · obtain ⟨_, _, wz, _, _, ez⟩ := FI.at_ m z
          omega
        · rw [List.mem_singleton.mp z]
          decide
      refine ⟨_, rfl, p, 4, rfl, hR.same s2c, by decide, by decide, fun k2 H2 k20 k21 hB2 hR2 => ⟨by show 2 ≤ sizeLine; decide, fun ll hll => ?_⟩⟩
      have f2 := (Fix.same s2c).trans ((hR.same s2c).fix hB2)
      have eF2 := hB2 _ _ (s2c _ _ eF) hlp
      have sll := same_new (o := .lst [.int m, .int k2]) hll
      refine ⟨p, ll, _, rfl, hR2.same sll, upd_same, Ne.symm (hR2.ne hll), by show 0 < 2; decide, by show 2 ≤ 1000; decide, fun i2 x2 H3 hx2 hB3 hR3 => ?_⟩
      have f3 := f2.trans ((Fix.same sll).trans ((hR2.same sll).fix hB3))
      have eF3 := hB3 _ _ (sll _ _ eF2) hlp
      obtain ⟨st, rfl, hst⟩ : ∃ st : Nat, x2 = .int (st : Int) ∧ st ≤ 4 := by
        match i2, hx2 with
        | 0, e => exact ⟨m.toNat, by rw [← Option.some.inj e, Int.toNat_of_nonneg m0.1], by omega⟩
        | 1, e => exact ⟨k2.toNat, by rw [← Option.some.inj e, Int.toNat_of_nonneg k20], by omega⟩
        | i2 + 2, e => simp at e
      -- word
      refine ⟨_, rfl, (st : Int), rfl, by omega, by omega, fun D hD => ?_⟩
      rw [Int.toNat_natCast]
      have hpD : p ≠ D := hR3.ne hD
      refine lc_range (lo := 0) (n := st) (fun i H' => ∃ ws : List Int, But p H3 H' ∧ Row K H' p ∧ H' D = some (.lst (ws.map V.int)) ∧ ws.length = i ∧ ∀ t ∈ ws, InR n t)
        ⟨[], But.same (same_new hD), hR3.new hD, upd_same, rfl, fun _ hm => absurd hm (List.not_mem_nil)⟩ (fun j H' hj h' => ?_) (fun H4 h4 => ?_)
      · obtain ⟨ws, hB, hR', eD, hl', hws⟩ := h'
        refine ⟨rfl, _, rfl, _, rfl, p, n, rfl, hR', by omega, by omega, fun k H11 k0 k1 hB11 hR11 => ?_⟩
        have eD11 := hB11 _ _ eD (Ne.symm hpD)
        refine ⟨_, eD11, ?_, ws ++ [k], (hB.trans hB11).fresh hD, hR11.lst_upd eD11 hpD, ?_, ?_, ?_⟩
        · rw [List.length_map]
          exact small1000 (by omega)
        · rw [upd_same, List.map_append]
          rfl
        · rw [List.length_append, hl']
          rfl
        · intro t hm
          rcases List.mem_append.mp hm with h1 | h1
          · exact hws _ h1
          · rw [List.mem_singleton.mp h1]
            exact ⟨k0, k1⟩
      obtain ⟨ws, hB4, hR4, eD4, lw, hws⟩ := h4
      refine .inl ⟨D, _, rfl, lstAt eD4, fun aw haw => ?_⟩
      have saw := same_new (o := .tup (ws.map V.int)) haw
      have f4 := f3.trans ((hR3.fix hB4).trans (Fix.same saw))
      have eF4 := saw _ _ (hB4 _ _ eF3 hlp)
      have hR4' := hR4.same saw
      have hWs : SqT K (upd H4 aw (.tup (ws.map V.int))) aw (ws.map V.int) := tupAt upd_same
      generalize (upd H4 aw (.tup (ws.map V.int))) = H5 at *
      have hwl : ws.length ≤ 4 := by omega
      -- some
      refine ⟨_, rfl, by show 2 ≤ sizeLine; decide, fun t1 ht1 => ⟨_, rfl, by show 3 ≤ sizeLine; decide, fun q2 hq2 => ⟨_, rfl, aw, ws.map V.int, rfl, .inr ?w1, fun lw hlw => ⟨by show 3 ≤ sizeLine; decide, fun t3 ht3 => ⟨by show 3 ≤ sizeLine; decide, fun t4 ht4 d5 hd5 => ⟨_, rfl, by show 3 ≤ sizeLine; decide, fun t6 ht6 => ⟨_, rfl, by show 3 ≤ sizeLine; decide, fun t7 ht7 => ⟨by show 8 ≤ sizeLine; decide, fun ls hls => ?_⟩⟩⟩⟩⟩⟩⟩⟩
      case w1 => exact onT ((same_new ht1).trans (same_new hq2)) hWs
      have s1 := same_new (o := .tup [.int 0, .ref aw]) ht1
      have s2' := same_new (o := .lst [.int 0, .ref aw, .int 0]) hq2
      have s3 := same_new (o := .lst (ws.map V.int)) hlw
      have s4 := same_new (o := .tup [.int 0, .ref lw, .int 0]) ht3
      have s5 := same_new (o := .tup [.int 0, .int 0, .int 0]) ht4
      have s6 := same_new (o := .dK []) hd5
      have s7 := same_new (o := .tup [.bl true, .ref aw, .int 0]) ht6
      have s8 := same_new (o := .tup [.int 0, .ref aw, .non]) ht7
      have s9 := same_new (o := .lst [.non, .ref t1, .ref q2, .ref t3, .ref t4, .ref d5, .ref t6, .ref t7]) hls
      have z9 := s9
      have z8 := s8.trans z9
      have z7 := s7.trans z8
      have z6 := s6.trans z7
      have z5 := s5.trans z6
      have z4 := s4.trans z5
      have z3 := s3.trans z4
      have z2 := s2'.trans z3
      have z1 := s1.trans z2
      have hR6 := hR4'.same z1
      have hpq : q2 ≠ p := Ne.symm ((hR4'.same s1).ne hq2)
      have hpw : lw ≠ p := Ne.symm (((hR4'.same s1).same s2').ne hlw)
      have SM : Som K _ p aw t1 q2 lw t3 t4 d5 t6 t7 ws := ⟨hpq, hpw, z2 _ _ upd_same, z3 _ _ upd_same, z4 _ _ upd_same, z5 _ _ upd_same, z6 _ _ upd_same, z7 _ _ upd_same, z8 _ _ upd_same, z9 _ _ upd_same, onT z1 hWs⟩
      have f6 := f4.trans (Fix.same z1)
      have eF6 := z1 _ _ eF4
      -- drawn
      refine ⟨_, rfl, _, rfl, p, n, rfl, hR6, by omega, by omega, fun ka H7 ka0 ka1 hB7 hR7 => ⟨_, rfl, _, rfl, _, rfl, p, n, rfl, hR7, by omega, by omega, fun kb H8 kb0 kb1 hB8 hR8 => ⟨by show 3 ≤ sizeLine; decide, fun td htd => ?_⟩⟩⟩
      have f8 := (hR6.fix hB7).trans (hR7.fix hB8)
      have hB68 := hB7.trans hB8
      have SM8 := SM.step f8 hB68
      have hlsp : ls ≠ p := Ne.symm ((hR4'.same (s1.trans (s2'.trans (s3.trans (s4.trans (s5.trans (s6.trans (s7.trans s8)))))))).ne hls)
      have els8 := hB68 ls (.lst [.non, .ref t1, .ref q2, .ref t3, .ref t4, .ref d5, .ref t6, .ref t7]) upd_same hlsp
      have eF8 := hB68 _ _ eF6 hlp
      have std := same_new (o := .tup [.int ka, .ref aw, .int kb]) htd
      -- value
      refine ⟨_, rfl, _, rfl, by show 1 ≤ sizeLine; decide, fun q1 hq1 => ⟨q1, 6, [.ref td], rfl, rfl, upd_same, by decide, by decide, by show 1 * 6 ≤ sizeLine; decide, fun q6 hq6 => ?_⟩⟩
      have sq1 := same_new (o := .lst [.ref td]) hq1
      have sq6 := same_new (o := .lst (List.replicate (6 : Int).toNat [V.ref td]).flatten) hq6
      have sD := std.trans (sq1.trans sq6)
      refine ⟨_, rfl, _, rfl, p, ls, _, rfl, hR8.same sD, sD _ _ els8, hlsp, by show 0 < 8; decide, by show 8 ≤ 1000; decide, fun i3 x3 H9 hx3 hB9 hR9 => ⟨by show 1 ≤ sizeLine; decide, fun q3 hq3 => ?_⟩⟩
      have hp6 : q6 ≠ p := Ne.symm ((hR8.same (std.trans sq1)).ne hq6)
      have eq6 := hB9 q6 (.lst (List.replicate (6 : Int).toNat [V.ref td]).flatten) upd_same hp6
      have f9 := (hR8.same sD).fix hB9
      have sq3 := same_new (o := .lst [x3]) hq3
      refine ⟨q6, q3, _, _, rfl, rfl, sq3 _ _ eq6, upd_same, by show 6 + 1 ≤ sizeLine; decide, fun q4 hq4 => ?_⟩
      have sq4 := same_new (o := .lst ((List.replicate (6 : Int).toNat [V.ref td]).flatten ++ [x3])) hq4
      have s34 := sq3.trans sq4
      refine ⟨p, q4, _, rfl, hR9.same s34, upd_same, Ne.symm ((hR9.same sq3).ne hq4), by show 0 < 7; decide, by show 7 ≤ 1000; decide, fun i4 x4 HA hx4 hBA hRA => ?_⟩
      have fA := (hR9.same s34).fix hBA
      have f8A : Fix H8 HA := (Fix.same sD).trans (f9.trans ((Fix.same s34).trans fA))
      have b8A : But p H8 HA := (But.same sD).trans (hB9.trans ((But.same s34).trans hBA))
      have SMA := SM8.step f8A b8A
      have eFA := b8A _ _ eF8 hlp
      have etd : HA td = some (.tup [.int ka, .ref aw, .int kb]) := fA _ _ (s34 _ _ (f9 _ _ ((sq1.trans sq6) _ _ upd_same) (fun _ z => nomatch z))) (fun _ z => nomatch z)
      have f1A := f6.trans (f8.trans f8A)
      have gA := g.tups f1A.tups
      have tbA := f1A.tabs tb
      obtain ⟨vr, hvk⟩ : ∃ vr, Vk K HA x4 vr := by
        rcases pick6 hx4 with rfl | rfl
        · exact ⟨_, .tri (tupAt etd) (.int ka) (.int kb) (.tup ⟨aw, rfl, SMA.hW⟩ (by omega))⟩
        · exact SMA.kind (by omega) hx3
      -- what is due
      cases hvk with
      | non =>
        refine ⟨_, rfl, true, rfl, ?_⟩
        refine ⟨_, rfl, Nat.zero_le _, fun z hz => ?_⟩
        have sz := same_new (o := .lst []) hz
        refine ⟨_, _, dp_lst (lstAt (sz _ _ eFA)), dp_lst (ns := []) (lstAt upd_same), PySem.W.ke_shaped_ints _, PySem.W.ke_shaped_ints _, ?_⟩
        rw [eqv_lst]
        refine ⟨fun σ3 HG hG3 => ?_, ?_⟩
        · obtain ⟨p, n, v, u, h, o, al, lot, res, far, lf, y5, y7, y8, y10, y11, y12, y13, y14, y15, x, due, y18, y19, vr, rfl, hR, tb, g, hSh, eF, FI, hfl, hlp, hvk, hdue⟩ := hG3
          refine ⟨_, rfl, _, rfl, _, rfl, _, rfl, v, u, h, o, n, .ref al, lot, x, vr, rfl, g, tb, hvk, fun HB res5 ex5 tb5 hS5 => ?_⟩
          rw [hdue res5 hS5]
          have ev5 := Ev.ext ex5
          exact ⟨_, rfl, .bl due, .bl due, .bool due, rfl, .bl _, .bl _, True.intro, fun HC sC => ⟨_, rfl, ifF rfl ⟨p, n, v, u, h, o, al, lot, res, far, lf, y5, y7, y8, y10, y11, y12, y13, y14, y15, some x, some (.bl due), y18, y19, rfl, (hR.ext ex5).same sC, tabs_same tb5 sC, (g.tups ev5.tups).tups (Same.tups sC), hSh, sC _ _ (ex5 _ _ eF (fun ps z => nomatch z)), FI, hfl, hlp⟩⟩⟩
        · refine ⟨_, rfl, .non, .ty "tuple", _, _, false, rfl, .ty "tuple", .base .non, kit_ty (by decide +kernel), _, rfl, ifF rfl ?_⟩
          refine ⟨p, n, v, u, h, o, al, lot, res, far, lf, y5, y7, y8, y10, _, _, _, _, _, .non, decide (far = []), _, _, .nonv, rfl, hRA.same sz, tabs_same tbA sz, gA.tups (Same.tups sz), hSh, sz _ _ eFA, FI, hfl, hlp, .non, fun res5 hS5 => ?e1⟩
          case e1 =>
            have z := FI.none_iff hS5
            cases res5 with
            | none => exact (decide_eq_true (z.mpr rfl)).symm
            | some r3 => exact (decide_eq_false (fun e => nomatch (z.mp e))).symm
      | @bad x5 ro h1 h2 =>
        refine ⟨_, rfl, false, rfl, ?_⟩
        refine ⟨fun σ3 HG hG3 => ?_, ?_⟩
        · obtain ⟨p, n, v, u, h, o, al, lot, res, far, lf, y5, y7, y8, y10, y11, y12, y13, y14, y15, x, due, y18, y19, vr, rfl, hR, tb, g, hSh, eF, FI, hfl, hlp, hvk, hdue⟩ := hG3
          refine ⟨_, rfl, _, rfl, _, rfl, _, rfl, v, u, h, o, n, .ref al, lot, x, vr, rfl, g, tb, hvk, fun HB res5 ex5 tb5 hS5 => ?_⟩
          rw [hdue res5 hS5]
          have ev5 := Ev.ext ex5
          exact ⟨_, rfl, .bl due, .bl due, .bool due, rfl, .bl _, .bl _, True.intro, fun HC sC => ⟨_, rfl, ifF rfl ⟨p, n, v, u, h, o, al, lot, res, far, lf, y5, y7, y8, y10, y11, y12, y13, y14, y15, some x, some (.bl due), y18, y19, rfl, (hR.ext ex5).same sC, tabs_same tb5 sC, (g.tups ev5.tups).tups (Same.tups sC), hSh, sC _ _ (ex5 _ _ eF (fun ps z => nomatch z)), FI, hfl, hlp⟩⟩⟩
        · have fin := shB_bad (h := h) (o := o) (lot := lot) (n := n)
          cases h1 with
          | @lst _ xs hS =>
            refine ⟨_, rfl, .ref x5, .ty "tuple", _, _, false, rfl, .ty "tuple", ty_lst hS, kit_ty (by decide +kernel), _, rfl, ifF rfl ?_⟩
            exact ⟨p, n, v, u, h, o, al, lot, res, far, lf, y5, y7, y8, y10, _, _, _, _, _, .ref x5, false, _, _, .bad, rfl, hRA, tbA, gA, hSh, eFA, FI, hfl, hlp, .bad (.lst hS) h2, fun res5 _ => fin res5⟩
          | @dct _ kvs e =>
            refine ⟨_, rfl, .ref x5, .ty "tuple", _, _, false, rfl, .ty "tuple", .base (.dK e), kit_ty (by decide +kernel), _, rfl, ifF rfl ?_⟩
            exact ⟨p, n, v, u, h, o, al, lot, res, far, lf, y5, y7, y8, y10, _, _, _, _, _, .ref x5, false, _, _, .bad, rfl, hRA, tbA, gA, hSh, eFA, FI, hfl, hlp, .bad (.dct e) h2, fun res5 _ => fin res5⟩
          | @tup _ xs hS =>
            refine ⟨_, rfl, .ref x5, .ty "tuple", _, _, true, rfl, .ty "tuple", ty_tup hS, kit_ty (by decide +kernel), _, rfl, ifT rfl ?_⟩
            refine ⟨_, rfl, x5, xs, rfl, .inr hS, rfl, _, rfl, ifF ?_ ?_⟩
            · rw [V_int]
              refine decide_eq_false fun e => ?_
              have h2 : (decide ((3 : Int) ≤ (xs.length : Int)) && decide ((xs.length : Int) ≤ 3)) = false := h2
              rw [e] at h2
              exact absurd h2 (by decide)
            · exact ⟨p, n, v, u, h, o, al, lot, res, far, lf, y5, y7, y8, y10, _, _, _, _, _, .ref x5, false, _, _, .bad, rfl, hRA, tbA, gA, hSh, eFA, FI, hfl, hlp, .bad (.tup hS) h2, fun res5 _ => fin res5⟩
      | @tri t a0 wv r wo h1 h2 h3 h4 =>
        refine ⟨_, rfl, false, rfl, ?_⟩
        refine ⟨fun σ3 HG hG3 => ?_, ?_⟩
        · obtain ⟨p, n, v, u, h, o, al, lot, res, far, lf, y5, y7, y8, y10, y11, y12, y13, y14, y15, x, due, y18, y19, vr, rfl, hR, tb, g, hSh, eF, FI, hfl, hlp, hvk, hdue⟩ := hG3
          refine ⟨_, rfl, _, rfl, _, rfl, _, rfl, v, u, h, o, n, .ref al, lot, x, vr, rfl, g, tb, hvk, fun HB res5 ex5 tb5 hS5 => ?_⟩
          rw [hdue res5 hS5]
          have ev5 := Ev.ext ex5
          exact ⟨_, rfl, .bl due, .bl due, .bool due, rfl, .bl _, .bl _, True.intro, fun HC sC => ⟨_, rfl, ifF rfl ⟨p, n, v, u, h, o, al, lot, res, far, lf, y5, y7, y8, y10, y11, y12, y13, y14, y15, some x, some (.bl due), y18, y19, rfl, (hR.ext ex5).same sC, tabs_same tb5 sC, (g.tups ev5.tups).tups (Same.tups sC), hSh, sC _ _ (ex5 _ _ eF (fun ps z => nomatch z)), FI, hfl, hlp⟩⟩⟩
        · refine ⟨_, rfl, .ref t, .ty "tuple", _, _, true, rfl, .ty "tuple", ty_tup h1, kit_ty (by decide +kernel), _, rfl, ifT rfl ?_⟩
          refine ⟨_, rfl, t, _, rfl, .inr h1, rfl, _, rfl, ifT rfl ?_⟩
          cases h4 with
          | int i =>
            refine ⟨_, rfl, t, _, 1, .int i, rfl, rfl, h1, rfl, .int i, .ty "tuple", _, _, false, rfl, .ty "tuple", .base (.int i), kit_ty (by decide +kernel), _, rfl, ifF rfl ?_⟩
            exact ⟨p, n, v, u, h, o, al, lot, res, far, lf, y5, y7, y8, y10, _, _, _, _, _, .ref t, false, _, _, .tri a0 none r, rfl, hRA, tbA, gA, hSh, eFA, FI, hfl, hlp, .tri h1 h2 h3 (.int i), fun res5 _ => shB_nov res5 a0 r⟩
          | @lst al2 xs hS =>
            refine ⟨_, rfl, t, _, 1, .ref al2, rfl, rfl, h1, rfl, .ref al2, .ty "tuple", _, _, false, rfl, .ty "tuple", ty_lst hS, kit_ty (by decide +kernel), _, rfl, ifF rfl ?_⟩
            exact ⟨p, n, v, u, h, o, al, lot, res, far, lf, y5, y7, y8, y10, _, _, _, _, _, .ref t, false, _, _, .tri a0 none r, rfl, hRA, tbA, gA, hSh, eFA, FI, hfl, hlp, .tri h1 h2 h3 (.lst hS), fun res5 _ => shB_nov res5 a0 r⟩
          | @tup _ wt hT2 hwt =>
            obtain ⟨aw2, rfl, hW2⟩ := hT2
            refine ⟨_, rfl, t, _, 1, .ref aw2, rfl, rfl, h1, rfl, .ref aw2, .ty "tuple", _, _, true, rfl, .ty "tuple", ty_tup hW2, kit_ty (by decide +kernel), _, rfl, ifT rfl ?_⟩
            refine ⟨_, rfl, Nat.zero_le _, fun z hz => ?_⟩
            have sz := same_new (o := .lst []) hz
            refine ⟨_, _, dp_lst (lstAt (sz _ _ eFA)), dp_lst (ns := []) (lstAt upd_same), PySem.W.ke_shaped_ints _, PySem.W.ke_shaped_ints _, _, rfl, ?_⟩
            rw [eqv_lst]
            refine ite2 (fun e => ?_) (fun e => ?_)
            · have hne : far ≠ [] := fun e2 => by
                rw [e2] at e
                exact absurd e (by decide)
              have hS1 := onT sz h1
              have hW1 := onT sz hW2
              have scr1 : ∀ y ∈ (a0 :: wt.map V.int) ++ [r], Sc y := fun y hy => by
                rcases List.mem_append.mp hy with q1 | q1
                · rcases List.mem_cons.mp q1 with rfl | q1
                  · exact h2
                  · obtain ⟨b, _, rfl⟩ := List.mem_map.mp q1
                    exact .int b
                · rw [List.mem_singleton.mp q1]
                  exact h3
              -- every
              refine ⟨_, rfl, t, _, 0, a0, rfl, rfl, hS1, rfl, by show 1 ≤ sizeLine; decide, fun u1 hu1 => ?_⟩
              have su1 := same_new (o := .tup [a0]) hu1
              refine ⟨_, rfl, t, _, 1, .ref aw2, rfl, rfl, onT su1 hS1, rfl, ?_⟩
              refine catT_ok (tupAt upd_same) (onT su1 hW1) (by rw [List.length_map]; show 1 + wt.length ≤ 1000; omega) fun r1 HB sB hr1 => ?_
              have sB1 := su1.trans sB
              refine ⟨_, rfl, t, _, 2, r, rfl, rfl, onT sB1 hS1, rfl, by show 1 ≤ sizeLine; decide, fun u2 hu2 => ?_⟩
              have su2 := same_new (o := .tup [r]) hu2
              refine catT_ok (onT su2 hr1) (tupAt upd_same) (by rw [List.length_append, List.length_map]; show 1 + wt.length + 1 ≤ 1000; omega) fun r2 HC sC hr2 => ?_
              have sC1 := sz.trans (sB1.trans (su2.trans sC))
              have hr2' : SqT K HC r2 ((a0 :: wt.map V.int) ++ [r]) := hr2
              have gC := gA.tups (Same.tups sC1)
              obtain ⟨_, e', hLC⟩ := id gC.hL
              cases e'
              have hel : ((a0 :: wt.map V.int) ++ [r]).length ≤ 1000 := by
                rw [List.length_append, List.length_cons, List.length_map]
                show wt.length + 1 + 1 ≤ 1000
                omega
              -- right
              refine ⟨_, rfl, r2, rfl, ⟨_, hr2'⟩, fun D hD => ?_⟩
              refine lc_tup (xs := (a0 :: wt.map V.int) ++ [r]) (fun m H' => Same HC H' ∧ H' D = some (.lst ((((a0 :: wt.map V.int) ++ [r]).take m).filter (fun v => !okS lot v)))) ⟨same_new hD, upd_same⟩ (fun m H' _ h' => onT h'.1 hr2') (fun m x H' hx2 h' => ?_) (fun HD h' => ?_)
              · obtain ⟨sm, eD⟩ := h'
                have hsx := scr1 x (List.mem_of_getElem? hx2)
                have hsz : ((((a0 :: wt.map V.int) ++ [r]).take m).filter (fun v => !okS lot v)).length < sizeLine := by
                  have q1 := List.length_filter_le (fun v => !okS lot v) (((a0 :: wt.map V.int) ++ [r]).take m)
                  rw [List.length_take] at q1
                  exact small1000 (by omega)
                have yes : okS lot x = false → Same HC (upd H' D (.lst ((((a0 :: wt.map V.int) ++ [r]).take m).filter (fun v => !okS lot v) ++ [x]))) ∧ (upd H' D (.lst ((((a0 :: wt.map V.int) ++ [r]).take m).filter (fun v => !okS lot v) ++ [x]))) D = some (.lst ((((a0 :: wt.map V.int) ++ [r]).take (m + 1)).filter (fun v => !okS lot v))) := fun ex => by
                  refine ⟨Same.upd sm hD, ?_⟩
                  rw [upd_same, take_more hx2, List.filter_append, List.filter_cons_of_pos (by rw [ex]; rfl), List.filter_nil]
                have no : okS lot x = true → H' D = some (.lst ((((a0 :: wt.map V.int) ++ [r]).take (m + 1)).filter (fun v => !okS lot v))) := fun ex => by
                  rw [take_more hx2, List.filter_append, List.filter_cons_of_neg (by rw [ex]; decide), List.filter_nil, List.append_nil]
                  exact eD
                cases hsx with
                | int b =>
                  refine ⟨rfl, _, rfl, .int b, .ty "bool", _, _, false, rfl, .ty "bool", .base (.int b), kit_ty (by decide +kernel), _, rfl, ifF rfl ?_⟩
                  refine ⟨_, rfl, _, rfl, al, _, rfl, .inr (onT sm hLC), rfl, flat_ints lot, _, rfl, ?_⟩
                  rw [inV_int]
                  refine ite2 (fun ex => ⟨_, rfl, _, eD, hsz, yes ?_⟩) (fun ex => ⟨sm, no ?_⟩)
                  · show decide (b ∈ lot) = false
                    simpa using ex
                  · show decide (b ∈ lot) = true
                    simpa using ex
                | bl => exact ⟨rfl, _, rfl, .bl true, .ty "bool", _, _, true, rfl, .ty "bool", .base (.bl true), kit_ty (by decide +kernel), _, rfl, ifT rfl (ifT rfl ⟨_, rfl, _, eD, hsz, yes rfl⟩)⟩
                | non =>
                  refine ⟨rfl, _, rfl, .non, .ty "bool", _, _, false, rfl, .ty "bool", .base .non, kit_ty (by decide +kernel), _, rfl, ifF rfl ?_⟩
                  refine ⟨_, rfl, _, rfl, al, _, rfl, .inr (onT sm hLC), rfl, flat_ints lot, _, rfl, ?_⟩
                  rw [inV_non]
                  exact ifT rfl ⟨_, rfl, _, eD, hsz, yes rfl⟩
              · obtain ⟨sm, eD⟩ := h'
                rw [List.take_length] at eD
                refine ⟨Nat.zero_le _, fun z2 hz2 => ?_⟩
                have sz2 := same_new (o := .lst []) hz2
                have hscf : ∀ y ∈ ((a0 :: wt.map V.int) ++ [r]).filter (fun v => !okS lot v), Sc y := fun y hy => scr1 y (List.mem_filter.mp hy).1
                refine ⟨_, _, .lst (lstAt (sz2 _ _ eD)) (dp_sc hscf), .lst (lstAt upd_same) .nil, shaped_sc hscf, PySem.W.ke_shaped_ints [], ?_⟩
                rw [eqv_sc0, bads_nil]
                have sE := sC1.trans (sm.trans sz2)
                have gE := gA.tups (Same.tups sE)
                have hSE := onT sE h1
                have hWE := onT sE hW2
                -- due
                have key : ∀ res5, ShR h o lot lot res5 → shB h o lot n res5 (.tri a0 (some wt) r) = ((okS lot a0 && okS lot r && wt.all fun t => decide (t ∈ lot)) && (decide ((wt.length : Int) = lenOf res) && telOf h o wt a0 r)) := fun res5 hS5 => by
                  cases res with
                  | none => exact absurd ((FI.none_iff hSh).mpr rfl) hne
                  | some r3 =>
                    obtain ⟨pl0, w0, r0⟩ := r3
                    cases res5 with
                    | none => exact absurd ((FI.none_iff hS5).mpr rfl) hne
                    | some r4 =>
                      obtain ⟨pl5, w5, r5⟩ := r4
                      rw [shB_tri g.hin, ← shR_len hSh hS5]
                      congr 2
                      rw [Bool.eq_iff_iff, decide_eq_true_iff, decide_eq_true_iff]
                      show wt.length = w0.length ↔ (wt.length : Int) = (w0.length : Int)
                      omega
                have hmin : ∀ m, m ∈ far → (∀ y ∈ far, m ≤ y) → m = lenOf res := fun m hm hle => by
                  cases res with
                  | none => exact absurd ((FI.none_iff hSh).mpr rfl) hne
                  | some r3 =>
                    obtain ⟨pl0, w0, r0⟩ := r3
                    exact FI.min hSh hm hle
                refine ⟨_, rfl, _, rfl, ite2 (fun e1 => ?_) (fun e1 => ?_)⟩
                · obtain ⟨pl, rd, rfl, rfl, hpl, hrd, hws2⟩ := okS_all e1
                  refine ⟨_, rfl, t, _, 1, .ref aw2, rfl, rfl, hSE, rfl, aw2, _, rfl, .inr hWE, _, rfl, lf, far, rfl, lstAt (sE _ _ eFA), List.length_pos_iff.mpr hne, fun m hm hle => ⟨rfl, _, rfl, ?_⟩⟩
                  rw [hmin m hm hle, V_int, List.length_map]
                  refine ite2 (fun e2 => ?_) (fun e2 => ?_)
                  · refine ⟨_, rfl, _, rfl, _, rfl, v, u, h, o, n, t, pl, rd, .ref aw2, wt, rfl, gE.hT, gE.hU, gE.hb, gE.ho, hSE, ⟨aw2, rfl, hWE⟩, g.hin pl hpl, fun t ht => g.hin t (hws2 t ht), ?_⟩
                    refine ⟨p, n, v, u, h, o, al, lot, res, far, lf, y5, y7, y8, y10, _, _, _, _, _, .ref t, telB h o pl wt rd, _, _, .tri (.int pl) (some wt) (.int rd), rfl, hRA.same sE, tabs_same tbA sE, gE, hSh, sE _ _ eFA, FI, hfl, hlp, .tri hSE h2 h3 (.tup ⟨aw2, rfl, hWE⟩ hwt), fun res5 hS5 => ?_⟩
                    rw [key res5 hS5, e1, e2, Bool.true_and, Bool.true_and]
                    rfl
                  · refine ⟨p, n, v, u, h, o, al, lot, res, far, lf, y5, y7, y8, y10, _, _, _, _, _, .ref t, false, _, _, .tri (.int pl) (some wt) (.int rd), rfl, hRA.same sE, tabs_same tbA sE, gE, hSh, sE _ _ eFA, FI, hfl, hlp, .tri hSE h2 h3 (.tup ⟨aw2, rfl, hWE⟩ hwt), fun res5 hS5 => ?_⟩
                    have e3 : decide ((wt.length : Int) = lenOf res) = false := by simpa using e2
                    rw [key res5 hS5, e1, e3, Bool.false_and, Bool.and_false]
                · refine ⟨p, n, v, u, h, o, al, lot, res, far, lf, y5, y7, y8, y10, _, _, _, _, _, .ref t, false, _, _, .tri a0 (some wt) r, rfl, hRA.same sE, tabs_same tbA sE, gE, hSh, sE _ _ eFA, FI, hfl, hlp, .tri hSE h2 h3 (.tup ⟨aw2, rfl, hWE⟩ hwt), fun res5 hS5 => ?_⟩
                  have e3 : (okS lot a0 && okS lot r && wt.all fun t => decide (t ∈ lot)) = false := by
                    cases z3 : (okS lot a0 && okS lot r && wt.all fun t => decide (t ∈ lot)) with
                    | false => rfl
                    | true => exact absurd z3 e1
                  rw [key res5 hS5, e3, Bool.false_and]
            · have he : far = [] := by
                have e2 : ¬ (!decide (far = [])) = true := e
                simpa using e2
              exact ⟨p, n, v, u, h, o, al, lot, res, far, lf, y5, y7, y8, y10, _, _, _, _, _, .ref t, false, _, _, .tri a0 (some wt) r, rfl, hRA.same sz, tabs_same tbA sz, gA.tups (Same.tups sz), hSh, sz _ _ eFA, FI, hfl, hlp, .tri (onT sz h1) h2 h3 (.tup ⟨aw2, rfl, onT sz hW2⟩ hwt), fun res5 hS5 => by rw [(FI.none_iff hS5).mp he]; rfl⟩
    · obtain ⟨p, n, v, u, h, o, al, lot, res, far, lf, y5, y7, y8, y10, y11, y12, y13, y14, y15, y16, y17, y18, y19, rfl, hR, tb, g, hSh, eF, FI, hfl, hlp⟩ := h'
      have n5 := g.hb.hi
      have n2 := g.hb.lo
      refine ⟨_, rfl, n, rfl, ⟨by omega, by omega, by omega, by omega, by omega⟩, fun t ht => ?_⟩
      rw [rgV_rg] at *
      have st := same_new (o := .tup ((rg n).map V.int)) ht
      have g1 := g.tups (Same.tups st)
      have gw : Two K (upd HE t (.tup ((rg n).map V.int))) v u h o n (.ref t) (rg n) := ⟨g1.hT, g1.hU, g1.hb, g1.ho, ⟨t, rfl, tupAt upd_same⟩, by rw [rg_len]; omega, by rw [rg_len]; exact Nat.le_refl _, fun i hi => rg_mem.mp hi, rg_lt n⟩
      refine ⟨_, rfl, _, rfl, _, rfl, v, u, h, o, n, .ref t, rg n, rfl, gw, tabs_same tb st, fun H2 val res2 ex2 tb2 hS2 hV2 => ?_⟩
      have g2 := gw.tups (Ev.ext ex2).tups
      obtain ⟨ah, hxs, rfl, hS, hE⟩ := id g2.hT
      obtain ⟨ao, oxs, rfl, oS, oE⟩ := id g2.hU
      refine ⟨_, rfl, _, rfl, _, _, .tup hS (dp_hab hE), .tup oS (dp_hab oE), shaped_hab _, shaped_hab _, rfl, ?_⟩
      rw [eqv_hab, res_non hV2, V_bl]
      have e : decide (res2 = none) = decide (h = o) := by
        rw [Bool.eq_iff_iff, decide_eq_true_iff, decide_eq_true_iff]
        exact whole_none g.hb g.ho hS2
      rw [e, decide_eq_true rfl]
      exact q H2
end
end RH
set_option Elab.async false
set_option linter.all false
set_option maxRecDepth 100000
set_option maxHeartbeats 2000000
namespace RH
open PySem PySem.Spec PyProof.Rows L2
open LamX (Tabs TabS TabB ExtN CodeO codeO_ne)
/-! ### what the top has left -/
theorem df_mk {K : PySem.W.Frag} {h : Heap} {mg : Str → Option Value} (X : K.In h) (G : h.Ns mainGlobals mg) {x : Str} {st : Stmt} {ps : List Str} {f : Addr} {od an : Option Addr} {sl : Array (Option Value)} {oc kV dc pm cd ct : Value}
    (a : PySem.W.nsIn K mainGlobals x = some (some (.ref f))) (l : K.lookup f = some ⟨oc, od, .func (PySem.W.fnOf x x (defArgs st) (defBody st) (defScope st) .none kV dc pm an cd ct), sl⟩) (c : PySem.W.codeIn K cd x = true) (k : PySem.W.keepIn K (.ref f) = true)
    (b : ∀ (kV doc pm : Value) (an : Option Addr) (cdv ct : Value) (us : List Value), us.length = ps.length → bindArgs (PySem.W.fnOf x x (defArgs st) (defBody st) (defScope st) .none kV doc pm an cdv ct) ⟨us, []⟩ = pure (ps.zip us)) : Df K mg x st ps := by
  have F := fun_mk (st := st) l c k
  exact ⟨f, _, F, PySem.W.mg_of X G a, F.binds b⟩
theorem dfc_mk {K : PySem.W.Frag} {h : Heap} {mg : Str → Option Value} (X : K.In h) (G : h.Ns mainGlobals mg) {x : Str} {st : Stmt} {ps : List Str} {f c : Addr} {od an : Option Addr} {sl : Array (Option Value)} {oc kV dc pm ct : Value}
    (a : PySem.W.nsIn K mainGlobals x = some (some (.ref f))) (l : K.lookup f = some ⟨oc, od, .func (PySem.W.fnOf x x (defArgs st) (defBody st) (defScope st) .none kV dc pm an (.ref c) ct), sl⟩) (cc : PySem.W.codeIn K (.ref c) x = true) (k : PySem.W.keepIn K (.ref f) = true)
    (b : ∀ (kV doc pm : Value) (an : Option Addr) (cdv ct : Value) (us : List Value), us.length = ps.length → bindArgs (PySem.W.fnOf x x (defArgs st) (defBody st) (defScope st) .none kV doc pm an cdv ct) ⟨us, []⟩ = pure (ps.zip us)) : DfC K mg x st ps c := by
  have F := fun_mk (st := st) l cc k
  exact ⟨f, oc, od, kV, dc, pm, an, ct, sl, l, cc, k, PySem.W.mg_of X G a, F.binds b⟩
/-- where a code object's table stands -/
def tabOf (o : Obj) : Option Value := match o.data with
  | .fields vs => vs.toList[11]?
  | _ => none
/-- a maker: its code object, its table -/
structure Mkr (K : PySem.W.Frag) (h : Heap) (mg : Str → Option Value) (x : Str) (st : Stmt) (ps : List Str) (c p : Addr) : Prop where
  df : DfC K mg x st ps c
  hd : PySem.W.CodeHd h c p
  no : K.lookup p = none
  tab : h.get? p = some (PySem.W.tabObj #[])
theorem mkr {K : PySem.W.Frag} {h : Heap} {mg : Str → Option Value} (X : K.In h) (G : h.Ns mainGlobals mg) {x : Str} {st : Stmt} {ps : List Str} {f c p : Addr} {od an : Option Addr} {sl : Array (Option Value)} {oc kV dc pm ct : Value} {o : Obj}
    (a : PySem.W.nsIn K mainGlobals x = some (some (.ref f))) (l : K.lookup f = some ⟨oc, od, .func (PySem.W.fnOf x x (defArgs st) (defBody st) (defScope st) .none kV dc pm an (.ref c) ct), sl⟩) (cc : PySem.W.codeIn K (.ref c) x = true) (k : PySem.W.keepIn K (.ref f) = true)
    (lc : K.lookup c = some o) (t : tabOf o = some (.ref p)) (d : ∀ K' : PySem.W.Frag, K'.lookup c = some o → PySem.W.codeHdIn K' c p = true) (e : K.lookup p = none) (g : h.get? p = some (PySem.W.tabObj #[]))
    (b : ∀ (kV doc pm : Value) (an : Option Addr) (cdv ct : Value) (us : List Value), us.length = ps.length → bindArgs (PySem.W.fnOf x x (defArgs st) (defBody st) (defScope st) .none kV doc pm an cdv ct) ⟨us, []⟩ = pure (ps.zip us)) :
    Mkr K h mg x st ps c p := ⟨dfc_mk X G a l cc k b, PySem.W.codeHd_of_K X (d K lc), e, g⟩
theorem two {A B : Addr → Addr → Prop} {c p c2 p2 : Addr} (a : A c p) (b : B c2 p2) (n : (p != p2) = true) : ∃ c p c2 p2, A c p ∧ B c2 p2 ∧ p ≠ p2 := ⟨c, p, c2, p2, a, b, fun z => by
  rw [z] at n
  simp at n⟩
theorem dfD_mk {K : PySem.W.Frag} {h : Heap} {mg : Str → Option Value} (X : K.In h) (G : h.Ns mainGlobals mg) {x : Str} {st : Stmt} {ps : List Str} {f T : Addr} {od an : Option Addr} {sl : Array (Option Value)} {oc kV dc pm cd ct : Value} {o : Obj} {its : List Value} {m n0 : Nat} {dvs : List V}
    (a : PySem.W.nsIn K mainGlobals x = some (some (.ref f))) (l : K.lookup f = some ⟨oc, od, .func (PySem.W.fnOf x x (defArgs st) (defBody st) (defScope st) (.ref T) kV dc pm an cd ct), sl⟩) (c : PySem.W.codeIn K cd x = true) (k : PySem.W.keepIn K (.ref f) = true)
    (lT : K.lookup T = some o) (oT : o.data = .seq its.toArray m) (hv : Vals dvs its) (hne : dvs ≠ []) (hn : n0 + (dvs.length - 0) = ps.length)
    (b : ∀ (T : Addr) (kV doc pm : Value) (an : Option Addr) (cdv ct : Value) (us its : List Value), us.length = n0 → its.length = dvs.length →
      ∃ k, bindArgs (PySem.W.fnOf x x (defArgs st) (defBody st) (defScope st) (.ref T) kV doc pm an cdv ct) ⟨us, []⟩ = seqItems? (.ref T) >>= k ∧ k (some its.toArray) = pure (ps.zip (us ++ its.drop 0))) : DfD K mg x st ps dvs := by
  have F : FunD K x x (defArgs st) (defBody st) (defScope st) dvs [] f _ := ⟨⟨oc, od, .ref T, kV, dc, pm, an, cd, ct, sl, rfl, l, c, .inr ⟨hne, T, o, its, m, rfl, lT, oT, hv⟩, .inl rfl⟩, k⟩
  obtain ⟨ds, h1, h2⟩ := F.binds1 n0 0 hne hn b
  exact ⟨f, _, F, PySem.W.mg_of X G a, ds, h1, h2⟩
/-- the written part that is meant -/
abbrev kOf {K : PySem.W.Frag} {h : Heap} (_ : K.In h) : PySem.W.Frag := K
theorem const_mk {K : PySem.W.Frag} {h : Heap} {mg : Str → Option Value} (X : K.In h) (G : h.Ns mainGlobals mg) {x : Str} {i : Int} {t : Tok} (a : PySem.W.nsIn K mainGlobals x = some (some (.int i t))) : ∃ t, mg x = some (.int i t) := ⟨t, PySem.W.mg_of X G a⟩
/-- what the end asks of the law -/
def spEnd (K : PySem.W.Frag) (T : List (Addr × Str)) : Sp := fun vs H Q _ => ∃ (a : Addr) (ns : List Int), vs = [.ref a] ∧ SqL K H a (ns.map V.int) ∧ Tabs T H ∧ ∀ H', Q (.bl true) H'
/-- a list that no one writes may be told by its very object -/
theorem frozen {P : Program} {w : World} {K : PySem.W.Frag} {mg : Str → Option Value} {base : Heap} {k : Nat} {f : Addr} {fd : FuncData} {T : List (Addr × Str)} (F : FnOk P w K mg base CX0 k f fd ["script"] (spLaw K T)) : FnOk P w K mg base CX0 k f fd ["script"] (spEnd K T) := by
  refine ⟨fun vs H Q E h => ?_, fun A outer s H args us vs Q E hr e0 hb r h => ?_⟩
  · obtain ⟨a, ns, rfl, _⟩ := h
    rfl
  obtain ⟨a, ns, rfl, hS, hT, q⟩ := h
  rcases hS with (hS | ⟨o, hS⟩) | hS
  · obtain ⟨z, its, n, rv, ho⟩ := (show ObjOk P w H s.heap a (.lst (ns.map V.int)) from e0.hok a _ hS)
    have hne : ∀ b, H b = none ↔ upd H a (.frz { cls := .type "list", data := .seq its.toArray n } (.lst (ns.map V.int))) b = none := fun b => by
      by_cases e : b = a
      · subst e
        rw [hS, upd_same]
        exact ⟨fun z => (nomatch z), fun z => (nomatch z)⟩
      · rw [upd_ne e]
    have ext : ∀ b u, H b = some u → (∀ xs, u ≠ .lst xs) → upd H a (.frz { cls := .type "list", data := .seq its.toArray n } (.lst (ns.map V.int))) b = some u := fun b u e nu => by
      rw [upd_ne (fun z => by subst z; rw [hS] at e; exact nu _ (Option.some.inj e).symm)]
      exact e
    have hok : HOk P w (upd H a (.frz { cls := .type "list", data := .seq its.toArray n } (.lst (ns.map V.int)))) s.heap := fun b u e => by
      by_cases eb : b = a
      · subst eb
        rw [upd_same] at e
        cases e
        exact ⟨ho, z, its, n, rv, ho⟩
      · rw [upd_ne eb] at e
        exact (e0.hok b u e).stay (fun c v _ h => h) (fun c h => ext _ _ h (fun xs z => nomatch z)) (fun c xs h => ext _ _ h (fun xs z => nomatch z))
    have e1 : Env0 P w K mg base A outer s (upd H a (.frz { cls := .type "list", data := .seq its.toArray n } (.lst (ns.map V.int)))) :=
      ⟨e0.frames, e0.mod, fun b o e => ⟨(e0.bs b o e).1, (hne b).mp (e0.bs b o e).2⟩, e0.bsz, e0.funs, fun b h => (hne b).mp (e0.frf b h), hok, e0.bare⟩
    have hT1 : Tabs T (upd H a (.frz { cls := .type "list", data := .seq its.toArray n } (.lst (ns.map V.int)))) := Fix.tabs (fun b u e nu => ext b u e nu) hT
    refine codeAny_mono (F.run A outer s _ args us [.ref a] Q E hr e1 hb r ⟨a, ns, rfl, .inl ⟨_, upd_same⟩, hT1, q⟩) fun rr s' h => ?_
    cases rr with
    | error e => exact h
    | ok fl =>
      cases fl with
      | ret u =>
        obtain ⟨v, H', os, bare, un, hok', r', q'⟩ := h
        refine ⟨v, H', os, bare, ⟨fun b o e n => un.keep b o e ((hne b).mp n), fun b o e n => un.slot b o e ((hne b).mp n), fun b o e n => un.free b o e ((hne b).mp n), un.there, fun b xs e => un.tups b xs (ext b _ e (fun ys z => nomatch z)), fun b o u e => un.frzs b o u (ext b _ e (fun ys z => nomatch z)), fun b ps e => un.tbls b ps (ext b _ e (fun ys z => nomatch z))⟩, hok', r', q'⟩
      | next => exact h
      | brk => exact h
      | cont => exact h
  · exact F.run A outer s H args us [.ref a] Q E hr e0 hb r ⟨a, ns, rfl, .inl ⟨o, hS⟩, hT, q⟩
  · exact F.run A outer s H args us [.ref a] Q E hr e0 hb r ⟨a, ns, rfl, .inr fun H' => .inr hS, hT, q⟩
theorem top {P : Program} {w : World} {K : PySem.W.Frag} {mg : Str → Option Value} {fa : Addr} (hfa : mg "law" = some (.ref fa)) (B : Bu mg) (c2 : ∃ t, mg "FEWEST_PLACES" = some (.int 2 t)) (c5 : ∃ t, mg "MOST_PLACES" = some (.int 5 t)) (bmin : mg "min" = none)
    {k1 p1 k2 p2 : Addr} (hpp : p1 ≠ p2)
    (F_is_integer : Df K mg "is_integer" st_is_integer ["value"])
    (F_is_number : Df K mg "is_number" st_is_number ["value", "low", "high"])
    (F_is_row : Df K mg "is_row" st_is_row ["value", "low", "high"])
    (F_is_place : Df K mg "is_place" st_is_place ["value", "places"])
    (F_are_places : Df K mg "are_places" st_are_places ["value", "places"])
    (F_is_rising : Df K mg "is_rising" st_is_rising ["row"])
    (F_is_layout : Df K mg "is_layout" st_is_layout ["value", "places"])
    (F_is_habit : Df K mg "is_habit" st_is_habit ["value"])
    (F_check_habits : DfD K mg "check_habits" st_check_habits ["habits", "most"] [.int 3])
    (F_is_lot : Df K mg "is_lot" st_is_lot ["value", "places"])
    (F_check_lot : Df K mg "check_lot" st_check_lot ["lot", "places"])
    (F_traced : Df K mg "traced" st_traced ["came", "state"])
    (F_least_word : Df K mg "least_word" st_least_word ["start", "touches", "step", "is_goal"])
    (F_test : Df K mg "test" st_test ["habit", "other", "lot"])
    (F_shows_test : Df K mg "shows_test" st_shows_test ["habit", "other", "lot", "value"])
    (F_check_two : Df K mg "check_two" st_check_two ["habit", "other", "lot"])
    (F_is_of_lot : Df K mg "is_of_lot" st_is_of_lot ["value", "lot", "places"])
    (F_is_test : Df K mg "is_test" st_is_test ["place", "word", "read", "lot", "places"])
    (F_reads_mark : Df K mg "reads_mark" st_reads_mark ["habit", "place", "word", "read"])
    (F_first_pairs : Df K mg "first_pairs" st_first_pairs ["habit", "other", "lot"])
    (F_pair_step : DfC K mg "pair_step" st_pair_step ["habit", "other"] k1)
    (F_telling_read : Df K mg "telling_read" st_telling_read ["pair", "lot"])
    (F_shortest_test : DfC K mg "shortest_test" st_shortest_test ["habit", "other", "lot"] k2)
    (F__law_taken : Df K mg "_law_taken" st__law_taken ["row", "many"])
    (F__law_order : Df K mg "_law_order" st__law_order ["row", "many"])
    (F__law_habit : Df K mg "_law_habit" st__law_habit ["row", "places"])
    (F__law_lot : Df K mg "_law_lot" st__law_lot ["row", "places"])
    (F__law_marks : Df K mg "_law_marks" st__law_marks ["habit", "other", "lot"])
    (F__law_tells : Df K mg "_law_tells" st__law_tells ["habit", "other", "value"])
    (F__law_pick : Df K mg "_law_pick" st__law_pick ["row", "things"])
    (F__law_alike : Df K mg "_law_alike" st__law_alike ["found", "due"])
    (F_law : Df K mg "law" st_law ["script"])
    : ∃ fd : FuncData, (∀ (s : Shared) (v : Value), BindsTo s fd ⟨[v], []⟩ [("script", v)]) ∧ ∀ base : Heap, TabB base mg k1 p1 → TabB base mg k2 p2 → FnOk P w K mg base CX0 10 fa fd ["script"] (spEnd K (tabsT p1 p2)) := by
  obtain ⟨f, fd, F, g, b⟩ := F_law.ex
  have e := hfa.symm.trans g
  cases e
  refine ⟨fd, fun s v => ?_, fun base T1 T2 => ?_⟩
  · obtain ⟨oc, od, kV, doc, pm, an, cdv, ct, osl, rfl, _⟩ := F.ex
    exact .of_eq rfl
  · have C1 := ok_is_integer (P := P) (w := w) (base := base) F_is_integer B
    have C2 := ok_is_number F_is_number C1
    have CRw := ok_is_row (P := P) (w := w) (K := K) (base := base) F_is_row B
    have C3 := ok_is_place F_is_place C2
    have C4 := ok_are_places (K := K) F_are_places B C3
    have C5 := ok_is_layout F_is_layout B C4
    have C6 := ok_is_habit F_is_habit B c2 c5 CRw C5
    have CRi := ok_is_rising (P := P) (w := w) (K := K) (base := base) F_is_rising B
    have C7 := ok_check_habits F_check_habits B CRw C6
    have CL := ok_check_lot F_check_lot (ok_is_lot F_is_lot CRw C4 CRi)
    have C1v := ok_is_integerV (P := P) (w := w) (base := base) F_is_integer B
    have C2v := ok_is_numberV F_is_number C1v
    have C3v := ok_is_placeV F_is_place C2v
    have COv := ok_is_of_lotV (K := K) F_is_of_lot C3v
    have C4v := ok_are_placesV (K := K) F_are_places B C3
    have CITv := ok_is_testV F_is_test B COv C4v
    have CRv := ok_is_rowV (P := P) (w := w) (K := K) (base := base) F_is_row B
    have CRM := ok_reads_mark (P := P) (w := w) (K := K) (base := base) F_reads_mark
    have CTr := ok_traced (P := P) (w := w) (base := base) F_traced B
    have CTr0 := ok_telling (P := P) (w := w) (K := K) (base := base) F_telling_read
    have CFP := ok_first (P := P) (w := w) (K := K) (base := base) F_first_pairs
    have CPS := ok_pair_step (P := P) (w := w) F_pair_step T1 hpp
    have CS := ok_short (P := P) (w := w) F_shortest_test F_least_word B T2 hpp CTr CTr0 CFP CPS
    have C2t := ok_check_two F_check_two B C7 CL
    have CTe := ok_test F_test C2t CS
    have CSh := ok_shows F_shows_test B C2t CS CRv CITv CRM
    have CT := ok_taken (P := P) (w := w) (K := K) (base := base) F__law_taken B
    have COd := ok_order F__law_order B CT
    exact frozen (ok_law F B bmin CT (ok_pick F__law_pick B CT) (ok_lot F__law_lot B CT) (ok_habit F__law_habit B CT COd) (ok_alike0 F__law_alike B) (ok_marks F__law_marks B) (ok_tells F__law_tells) CTe CSh)
end RH
set_option Elab.async false
set_option linter.all false
open PySem PySem.W PyProof.Rows
set_option maxRecDepth 100000 in
set_option maxHeartbeats 0 in
theorem PySem.Challenge.cw_restlesshelf_k13_whole_tests_holds : PySem.Challenge.rw_restlesshelf_k13_whole_tests.Holds := by
  w_on; o_law; k_head; (case hw => w_witness2)
  k_fill
  refine LamX.walk_ofTs (l := PySem.Challenge.rw_restlesshelf_k13_whole_tests) (n := 63) (k := 10) (x := "script") (CX := fun _ => L2.CX0) rfl (by decide) rfl ⟨rfl, by decide, by decide⟩ (fun w h Y => PySem.W.km_in_of Y) ?F (fun _ _ _ _ _ h => h)
  case F =>
    intro w mg fa h Y KX G hmg
    have TT := PySem.W.km_tabs_of Y
    have B : RH.Bu mg := by
      refine' RH.Bu.mk (PySem.W.mg_none_of KX G ?z0) (PySem.W.mg_none_of KX G ?z1) (PySem.W.mg_none_of KX G ?z2) (PySem.W.mg_none_of KX G ?z3) (PySem.W.mg_none_of KX G ?z4) (PySem.W.mg_none_of KX G ?z5) (PySem.W.mg_none_of KX G ?z6) (PySem.W.mg_none_of KX G ?z7) (PySem.W.mg_none_of KX G ?z8) (PySem.W.mg_none_of KX G ?z9) (PySem.W.mg_none_of KX G ?z10) (PySem.W.mg_none_of KX G ?z11) (PySem.W.mg_none_of KX G ?z12)
      (case z0 => k_is); (case z1 => k_is); (case z2 => k_is); (case z3 => k_is); (case z4 => k_is); (case z5 => k_is); (case z6 => k_is); (case z7 => k_is); (case z8 => k_is); (case z9 => k_is); (case z10 => k_is); (case z11 => k_is); (case z12 => k_is)
    have bmin : mg "min" = none := by
      refine' PySem.W.mg_none_of KX G ?zm
      (case zm => k_is)
    have c_FEWEST_PLACES : ∃ t, mg "FEWEST_PLACES" = some (.int 2 t) := by
      refine' RH.const_mk KX G ?a
      (case a => k_is)
    have c_MOST_PLACES : ∃ t, mg "MOST_PLACES" = some (.int 5 t) := by
      refine' RH.const_mk KX G ?a
      (case a => k_is)
    have F_is_integer : RH.Df (RH.kOf KX) mg "is_integer" RH.st_is_integer ["value"] := by
      refine' RH.df_mk KX G ?a ?l ?c ?k (fun _ _ _ _ _ _ us hl => match us, hl with | [_], _ => rfl)
      (case a => k_is); (case l => k_is); (case c => k_is); (case k => k_is)
    have F_is_number : RH.Df (RH.kOf KX) mg "is_number" RH.st_is_number ["value", "low", "high"] := by
      refine' RH.df_mk KX G ?a ?l ?c ?k (fun _ _ _ _ _ _ us hl => match us, hl with | [_, _, _], _ => rfl)
      (case a => k_is); (case l => k_is); (case c => k_is); (case k => k_is)
    have F_is_row : RH.Df (RH.kOf KX) mg "is_row" RH.st_is_row ["value", "low", "high"] := by
      refine' RH.df_mk KX G ?a ?l ?c ?k (fun _ _ _ _ _ _ us hl => match us, hl with | [_, _, _], _ => rfl)
      (case a => k_is); (case l => k_is); (case c => k_is); (case k => k_is)
    have F_is_place : RH.Df (RH.kOf KX) mg "is_place" RH.st_is_place ["value", "places"] := by
      refine' RH.df_mk KX G ?a ?l ?c ?k (fun _ _ _ _ _ _ us hl => match us, hl with | [_, _], _ => rfl)
      (case a => k_is); (case l => k_is); (case c => k_is); (case k => k_is)
    have F_are_places : RH.Df (RH.kOf KX) mg "are_places" RH.st_are_places ["value", "places"] := by
      refine' RH.df_mk KX G ?a ?l ?c ?k (fun _ _ _ _ _ _ us hl => match us, hl with | [_, _], _ => rfl)
      (case a => k_is); (case l => k_is); (case c => k_is); (case k => k_is)
    have F_is_rising : RH.Df (RH.kOf KX) mg "is_rising" RH.st_is_rising ["row"] := by
      refine' RH.df_mk KX G ?a ?l ?c ?k (fun _ _ _ _ _ _ us hl => match us, hl with | [_], _ => rfl)
      (case a => k_is); (case l => k_is); (case c => k_is); (case k => k_is)
    have F_is_layout : RH.Df (RH.kOf KX) mg "is_layout" RH.st_is_layout ["value", "places"] := by
      refine' RH.df_mk KX G ?a ?l ?c ?k (fun _ _ _ _ _ _ us hl => match us, hl with | [_, _], _ => rfl)
      (case a => k_is); (case l => k_is); (case c => k_is); (case k => k_is)
    have F_is_habit : RH.Df (RH.kOf KX) mg "is_habit" RH.st_is_habit ["value"] := by
      refine' RH.df_mk KX G ?a ?l ?c ?k (fun _ _ _ _ _ _ us hl => match us, hl with | [_], _ => rfl)
      (case a => k_is); (case l => k_is); (case c => k_is); (case k => k_is)
    have F_check_habits : RH.DfD (RH.kOf KX) mg "check_habits" RH.st_check_habits ["habits", "most"] [.int 3] := by
      refine' RH.dfD_mk (n0 := 1) KX G ?a ?l ?c ?k ?lT ?oT ?hv (by simp) rfl (fun _ _ _ _ _ _ _ us its hl h2 => match us, its, hl, h2 with | [_], [_], _, _ => ⟨_, rfl, rfl⟩)
      (case a => k_is); (case l => k_is); (case c => k_is); (case k => k_is); (case lT => k_is); (case oT => exact rfl); (case hv => exact .cons ⟨_, rfl⟩ .nil)
    have F_is_lot : RH.Df (RH.kOf KX) mg "is_lot" RH.st_is_lot ["value", "places"] := by
      refine' RH.df_mk KX G ?a ?l ?c ?k (fun _ _ _ _ _ _ us hl => match us, hl with | [_, _], _ => rfl)
      (case a => k_is); (case l => k_is); (case c => k_is); (case k => k_is)
    have F_check_lot : RH.Df (RH.kOf KX) mg "check_lot" RH.st_check_lot ["lot", "places"] := by
      refine' RH.df_mk KX G ?a ?l ?c ?k (fun _ _ _ _ _ _ us hl => match us, hl with | [_, _], _ => rfl)
      (case a => k_is); (case l => k_is); (case c => k_is); (case k => k_is)
    have F_traced : RH.Df (RH.kOf KX) mg "traced" RH.st_traced ["came", "state"] := by
      refine' RH.df_mk KX G ?a ?l ?c ?k (fun _ _ _ _ _ _ us hl => match us, hl with | [_, _], _ => rfl)
      (case a => k_is); (case l => k_is); (case c => k_is); (case k => k_is)
    have F_least_word : RH.Df (RH.kOf KX) mg "least_word" RH.st_least_word ["start", "touches", "step", "is_goal"] := by
      refine' RH.df_mk KX G ?a ?l ?c ?k (fun _ _ _ _ _ _ us hl => match us, hl with | [_, _, _, _], _ => rfl)
      (case a => k_is); (case l => k_is); (case c => k_is); (case k => k_is)
    have F_test : RH.Df (RH.kOf KX) mg "test" RH.st_test ["habit", "other", "lot"] := by
      refine' RH.df_mk KX G ?a ?l ?c ?k (fun _ _ _ _ _ _ us hl => match us, hl with | [_, _, _], _ => rfl)
      (case a => k_is); (case l => k_is); (case c => k_is); (case k => k_is)
    have F_shows_test : RH.Df (RH.kOf KX) mg "shows_test" RH.st_shows_test ["habit", "other", "lot", "value"] := by
      refine' RH.df_mk KX G ?a ?l ?c ?k (fun _ _ _ _ _ _ us hl => match us, hl with | [_, _, _, _], _ => rfl)
      (case a => k_is); (case l => k_is); (case c => k_is); (case k => k_is)
    have F_check_two : RH.Df (RH.kOf KX) mg "check_two" RH.st_check_two ["habit", "other", "lot"] := by
      refine' RH.df_mk KX G ?a ?l ?c ?k (fun _ _ _ _ _ _ us hl => match us, hl with | [_, _, _], _ => rfl)
      (case a => k_is); (case l => k_is); (case c => k_is); (case k => k_is)
    have F_is_of_lot : RH.Df (RH.kOf KX) mg "is_of_lot" RH.st_is_of_lot ["value", "lot", "places"] := by
      refine' RH.df_mk KX G ?a ?l ?c ?k (fun _ _ _ _ _ _ us hl => match us, hl with | [_, _, _], _ => rfl)
      (case a => k_is); (case l => k_is); (case c => k_is); (case k => k_is)
    have F_is_test : RH.Df (RH.kOf KX) mg "is_test" RH.st_is_test ["place", "word", "read", "lot", "places"] := by
      refine' RH.df_mk KX G ?a ?l ?c ?k (fun _ _ _ _ _ _ us hl => match us, hl with | [_, _, _, _, _], _ => rfl)
      (case a => k_is); (case l => k_is); (case c => k_is); (case k => k_is)
    have F_reads_mark : RH.Df (RH.kOf KX) mg "reads_mark" RH.st_reads_mark ["habit", "place", "word", "read"] := by
      refine' RH.df_mk KX G ?a ?l ?c ?k (fun _ _ _ _ _ _ us hl => match us, hl with | [_, _, _, _], _ => rfl)
      (case a => k_is); (case l => k_is); (case c => k_is); (case k => k_is)
    have F_first_pairs : RH.Df (RH.kOf KX) mg "first_pairs" RH.st_first_pairs ["habit", "other", "lot"] := by
      refine' RH.df_mk KX G ?a ?l ?c ?k (fun _ _ _ _ _ _ us hl => match us, hl with | [_, _, _], _ => rfl)
      (case a => k_is); (case l => k_is); (case c => k_is); (case k => k_is)
    have F_telling_read : RH.Df (RH.kOf KX) mg "telling_read" RH.st_telling_read ["pair", "lot"] := by
      refine' RH.df_mk KX G ?a ?l ?c ?k (fun _ _ _ _ _ _ us hl => match us, hl with | [_, _], _ => rfl)
      (case a => k_is); (case l => k_is); (case c => k_is); (case k => k_is)
    have F__law_taken : RH.Df (RH.kOf KX) mg "_law_taken" RH.st__law_taken ["row", "many"] := by
      refine' RH.df_mk KX G ?a ?l ?c ?k (fun _ _ _ _ _ _ us hl => match us, hl with | [_, _], _ => rfl)
      (case a => k_is); (case l => k_is); (case c => k_is); (case k => k_is)
    have F__law_order : RH.Df (RH.kOf KX) mg "_law_order" RH.st__law_order ["row", "many"] := by
      refine' RH.df_mk KX G ?a ?l ?c ?k (fun _ _ _ _ _ _ us hl => match us, hl with | [_, _], _ => rfl)
      (case a => k_is); (case l => k_is); (case c => k_is); (case k => k_is)
    have F__law_habit : RH.Df (RH.kOf KX) mg "_law_habit" RH.st__law_habit ["row", "places"] := by
      refine' RH.df_mk KX G ?a ?l ?c ?k (fun _ _ _ _ _ _ us hl => match us, hl with | [_, _], _ => rfl)
      (case a => k_is); (case l => k_is); (case c => k_is); (case k => k_is)
    have F__law_lot : RH.Df (RH.kOf KX) mg "_law_lot" RH.st__law_lot ["row", "places"] := by
      refine' RH.df_mk KX G ?a ?l ?c ?k (fun _ _ _ _ _ _ us hl => match us, hl with | [_, _], _ => rfl)
      (case a => k_is); (case l => k_is); (case c => k_is); (case k => k_is)
    have F__law_marks : RH.Df (RH.kOf KX) mg "_law_marks" RH.st__law_marks ["habit", "other", "lot"] := by
      refine' RH.df_mk KX G ?a ?l ?c ?k (fun _ _ _ _ _ _ us hl => match us, hl with | [_, _, _], _ => rfl)
      (case a => k_is); (case l => k_is); (case c => k_is); (case k => k_is)
    have F__law_tells : RH.Df (RH.kOf KX) mg "_law_tells" RH.st__law_tells ["habit", "other", "value"] := by
      refine' RH.df_mk KX G ?a ?l ?c ?k (fun _ _ _ _ _ _ us hl => match us, hl with | [_, _, _], _ => rfl)
      (case a => k_is); (case l => k_is); (case c => k_is); (case k => k_is)
    have F__law_pick : RH.Df (RH.kOf KX) mg "_law_pick" RH.st__law_pick ["row", "things"] := by
      refine' RH.df_mk KX G ?a ?l ?c ?k (fun _ _ _ _ _ _ us hl => match us, hl with | [_, _], _ => rfl)
      (case a => k_is); (case l => k_is); (case c => k_is); (case k => k_is)
    have F__law_alike : RH.Df (RH.kOf KX) mg "_law_alike" RH.st__law_alike ["found", "due"] := by
      refine' RH.df_mk KX G ?a ?l ?c ?k (fun _ _ _ _ _ _ us hl => match us, hl with | [_, _], _ => rfl)
      (case a => k_is); (case l => k_is); (case c => k_is); (case k => k_is)
    have F_law : RH.Df (RH.kOf KX) mg "law" RH.st_law ["script"] := by
      refine' RH.df_mk KX G ?a ?l ?c ?k (fun _ _ _ _ _ _ us hl => match us, hl with | [_], _ => rfl)
      (case a => k_is); (case l => k_is); (case c => k_is); (case k => k_is)
    obtain ⟨k1, p1, k2, p2, M1, M2, hpp⟩ : ∃ k1 p1 k2 p2, RH.Mkr (RH.kOf KX) h mg "pair_step" RH.st_pair_step ["habit", "other"] k1 p1 ∧ RH.Mkr (RH.kOf KX) h mg "shortest_test" RH.st_shortest_test ["habit", "other", "lot"] k2 p2 ∧ p1 ≠ p2 := by
      refine' RH.two (RH.mkr KX G ?a ?l ?c ?k ?lc ?t ?d ?e ?g (fun _ _ _ _ _ _ us hl => match us, hl with | [_, _], _ => rfl)) (RH.mkr KX G ?a2 ?l2 ?c2 ?k2 ?lc2 ?t2 ?d2 ?e2 ?g2 (fun _ _ _ _ _ _ us hl => match us, hl with | [_, _, _], _ => rfl)) ?n
      (case a => k_is); (case l => k_is); (case c => k_is); (case k => k_is); (case lc => k_is); (case t => rfl); (case e => first | rfl | kernel_rfl | (with_unfolding_all rfl)); (case g => exact TT _ (by decide)); (case d => exact fun K' e => by unfold PySem.W.codeHdIn; rw [e]; rfl)
      (case a2 => k_is); (case l2 => k_is); (case c2 => k_is); (case k2 => k_is); (case lc2 => k_is); (case t2 => rfl); (case e2 => first | rfl | kernel_rfl | (with_unfolding_all rfl)); (case g2 => exact TT _ (by decide)); (case d2 => exact fun K' e => by unfold PySem.W.codeHdIn; rw [e]; rfl)
      (case n => decide)
    obtain ⟨F_pair_step, hk1, hl1, hm1⟩ := M1
    obtain ⟨F_shortest_test, hk2, hl2, hm2⟩ := M2
    obtain ⟨fd, hb, hF⟩ := RH.top (P := (PySem.Challenge.rw_restlesshelf_k13_whole_tests).prog) (w := w) hmg B c_FEWEST_PLACES c_MOST_PLACES bmin hpp F_is_integer F_is_number F_is_row F_is_place F_are_places F_is_rising F_is_layout F_is_habit F_check_habits F_is_lot F_check_lot F_traced F_least_word F_test F_shows_test F_check_two F_is_of_lot F_is_test F_reads_mark F_first_pairs F_pair_step F_telling_read F_shortest_test F__law_taken F__law_order F__law_habit F__law_lot F__law_marks F__law_tells F__law_pick F__law_alike F_law
    refine ⟨fd, [(k1, p1), (k2, p2)], RH.spEnd (RH.kOf KX) (RH.tabsT p1 p2), ?_, ?_, ?_, hb, ?_, ?_⟩
    · intro p hp
      rcases List.mem_cons.mp hp with e | hp
      · rw [e]; exact hm1
      · rw [List.mem_singleton.mp hp]; exact hm2
    · intro p hp
      rcases List.mem_cons.mp hp with e | hp
      · rw [e]; exact hl1
      · rw [List.mem_singleton.mp hp]; exact hl2
    · intro p hp
      rcases List.mem_cons.mp hp with e | hp
      · rw [e]; exact hk1
      · rw [List.mem_singleton.mp hp]; exact hk2
    · intro H a ns _ _ hH hS
      refine ⟨a, ns, rfl, hS, fun p hp => ?_, fun _ => rfl⟩
      rcases List.mem_cons.mp hp with e | hp
      · rw [e]; exact LamX.TabS.nil (hH (k1, p1) (List.mem_cons_self ..))
      · rw [List.mem_singleton.mp hp]; exact LamX.TabS.nil (hH (k2, p2) (List.mem_cons_of_mem _ (List.mem_singleton.mpr rfl)))
    · intro base _ _ TB
      exact hF base (TB (k1, p1) (List.mem_cons_self ..)) (TB (k2, p2) (List.mem_cons_of_mem _ (List.mem_singleton.mpr rfl)))
