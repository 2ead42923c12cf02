import PyProof.Rows.All
import Wide.All
import OpenK.AllK
import Wide.FinOn
import HandS.ForMost
import HandS.Exc
import HandS.TryOnly
import HandS.ExcOwn
import HandS.WordsExc
import HandS.IsInst
import HandS.Conv
import HandS.Sort
import HandS.SortInts
import HandS.Zip
import HandS.Zip0
import HandS.Wide
import HandS.Deep
import HandS.Flow
import HandS.Style
import HandS.TupAny
import KE.GoesEnum
import KE.KEqSeq
import KE.KEqDeep
import PyProof.TupleOfSeq
import HandS.Lambda
import HandS.Nested
import HandS.EndTab
import KE.KDictDisplayH
import KE.KDictCopyH
import KE.KIndexOf
import HandS.Dict
import HandS.DictTup
import HandS.TupLen
import HandS.Defaults
import HandS.SortRule
import PySem.Challenge.RW_restlesshelf_k01_whole_shelves
set_option Elab.async false
set_option linter.all false
set_option maxRecDepth 100000
set_option maxHeartbeats 2000000
/-! Two rules more: a walk over enumerate of a tuple, sorted of a tuple of ints. -/
namespace RH
open PySem PySem.Spec PyProof.Rows L2
theorem made_enumB {v : Value} {o : Obj} {H : Heap → Prop} (B : Begins v o H) :
    Meets (Builtin.«enumerate.__new__» ⟨[.type "enumerate", v], []⟩) (fun _ R s => H s.heap ∧
      R (.ok (.ret (.ref (s.heap.push o).objs.size))) { s with heap := (s.heap.push o).push { cls := .type "enumerate", data := .fields #[.none, .bool false, .ref s.heap.objs.size, rawInt 0, .none, .none] } }) :=
  .of_wp fun prog w A R s h => by
    obtain ⟨hp, g, d, tz, oz⟩ := s; obtain ⟨h1, h⟩ := h
    have hsub := sub_enumerate
    have q1 : ∀ {A' : Around} {E : Value → Shared → Prop} {Q : Value → Shared → Prop}, Q (.ref hp.objs.size) ⟨hp.push o, g, d, tz, oz⟩ → wpAny (model prog w) A' (pyIter v) Q E ⟨hp, g, d, tz, oz⟩ :=
      fun q => B.iter prog w _ _ ⟨hp, g, d, tz, oz⟩ _ h1 q
    wp_walk using q1
    refine wpAny_stack_any fun st => wpAny_pure ?_
    split
    · rename_i c _ _ _ _ _
      cases (c == Value.type "enumerate")
      · wp_walk using q1
        exact ⟨_, rfl, h⟩
      · wp_walk using q1
        exact ⟨_, rfl, h⟩
    · wp_walk using q1
      exact ⟨_, rfl, h⟩
section
variable {prog : Program} {w : World} {A : Around} {E : Value → Shared → Prop} {s : Shared}
theorem enum_one {v : Value} {o : Obj} {H : Heap → Prop} {Q : Value → Shared → Prop} (B : Begins v o H) (h1 : H s.heap)
    (h : ∀ h', IsEnum h' (s.heap.objs.size + 1) s.heap.objs.size 0 .none → h'.get? s.heap.objs.size = some o → h'.objs.size = s.heap.objs.size + 2 →
      (∀ b o, s.heap.get? b = some o → h'.get? b = some o) → Q (.ref (s.heap.objs.size + 1)) { s with heap := h' }) :
    wpAny (model prog w) A (call (.type "enumerate") [v]) Q E s := by
  refine callType_new F.called_enumerate (by decide) (F.typeCall_enumerate_1 _) (F.newCall_enumerate_1 _) (fun obj => F.args_object_init_2 obj _) F.entry_enumerate_new
    (made_enumB B) ⟨h1, ?_⟩
  have hZ : (s.heap.push o).objs.size = s.heap.objs.size + 1 := Heap.size_push ..
  show _ ∧ _
  rw [hZ]
  have he : IsEnum ((s.heap.push o).push { cls := .type "enumerate", data := .fields #[.none, .bool false, .ref s.heap.objs.size, rawInt 0, .none, .none] }) (s.heap.objs.size + 1) s.heap.objs.size 0 .none := by
    have := Heap.get?_push_size (s.heap.push o) (o := { cls := .type "enumerate", data := .fields #[.none, .bool false, .ref s.heap.objs.size, rawInt 0, .none, .none] }) rfl
    rw [hZ] at this; exact this
  refine ⟨⟨_, he, rfl⟩, h _ he (Heap.get?_push_of_some _ (Heap.get?_push_size _ B.free)) (by rw [Heap.size_push, hZ]) fun b o x => Heap.get?_push_of_some _ (Heap.get?_push_of_some _ x)⟩
end
/-- the tuple at a, each item with vz number in a new pair -/
def IteT (K : PySem.W.Frag) (a : Addr) : It :=
  ⟨fun i H => ∃ (xs : List V) (x : V), SqT K H a xs ∧ xs[i]? = some x, fun i H v H' => ∃ T x, v = .ref T ∧ H T = none ∧ H' = upd H T (.tup [.int (i : Nat), x]) ∧ ∀ xs, SqT K H a xs → xs[i]? = some x, fun i H => ∃ xs : List V, SqT K H a xs ∧ xs.length ≤ i⟩
theorem ne_enum {h : Heap} {e it a : Addr} {i : Int} {old : Value} {vz : Array Value} (he : IsEnum h e it i old) (p : IsTup h a vz) : e ≠ a := fun z => by
  obtain ⟨o, hO, hC, _⟩ := p
  rw [← z, he] at hO
  cases hO
  exact absurd (Value.type.inj hC) (by decide)
theorem turn_enumT {P : Program} {w : World} {K : PySem.W.Frag} {elts : List Expr} {kk : Nat} {tpos : Pos} (a e it : Addr) :
    Turn P w K (.Tuple elts kk tpos) (IteT K a) [e, it] e (fun i h => (∃ old, IsEnum h e it ((i : Nat) : Int) old) ∧ h.IsTupleIter it a i ∧ e ≠ it ∧ a ≠ it) where
  mem := by simp
  obj := fun i h st b hb => by
    obtain ⟨⟨old, he⟩, ⟨o, hO, hC, hD⟩, _⟩ := st
    have e' : b = e ∨ b = it := by simpa using hb
    rcases e' with z | z
    · rw [z]; exact ⟨_, he, fun v q => nomatch q⟩
    · rw [z]; exact ⟨o, hO, fun v q => by rw [hD] at q; cases q⟩
  keep := fun i h h' st k => let ⟨⟨old, he⟩, hi, nEI⟩ := st; ⟨⟨old, k e (by simp) _ he⟩, hi.at fun o q => k it (by simp) o q, nEI⟩
  item := by
    intro X hP hw hK hC i pins s σ H E I hf st hg
    subst hP hw hK
    obtain ⟨⟨old, he⟩, hIt, nEI, nAI⟩ := st
    obtain ⟨xs, x, hSq, hx⟩ := hg
    obtain ⟨vz, rz, p, hZ⟩ := I.tuple hSq
    obtain ⟨u, hu, ru⟩ := rz.get hx
    have ltE : e < s.heap.objs.size := Heap.lt_size he
    have ltI : it < s.heap.objs.size := by obtain ⟨_, q, _⟩ := hIt; exact Heap.lt_size q
    have hlt : i < vz.toArray.size := by
      have := (List.getElem?_eq_some_iff.mp hu).1
      simpa using this
    refine wpAny_pyNext_enum_itemD (Draws.tuple (show X.A.in1.handled = none from I.ok.hd hC) it a nAI vz.toArray) he ⟨hIt, p⟩ hlt nEI (by
      intro hm
      have e' : e = it ∨ e = a := by simpa using hm
      rcases e' with z | z
      · exact nEI z
      · exact ne_enum he p z) fun x' h' tz hP' hO hit' hT hSz kp => ?_
    have ex : x' = u := by
      have h2 : vz.toArray[i]? = some u := by simpa using hu
      rw [h2] at hP'
      exact (Option.some.inj hP').symm
    subst ex
    refine ⟨_, rfl, wpAny_letOwnedTupleGo_enum (s := { s with heap := h', toks := tz + 1 }) hO fun h'' he' sbu => ?_⟩
    have hT2 : h''.get? s.heap.objs.size = some { cls := .type "tuple", data := .seq #[.int i tz, x'] } := (sbu.2 _ (Nat.ne_of_gt ltE)).trans hT
    have new : ObjOk X.prog X.w (upd H s.heap.objs.size (.tup [.int (i : Nat), x])) h'' s.heap.objs.size (.tup [.int (i : Nat), x]) :=
      ⟨by show 2 ≤ sizeLine; decide, [.int i tz, x'], .cons ⟨_, rfl⟩ (.cons ru .nil), ⟨_, hT2, rfl, _, rfl⟩⟩
    have I1 : Inv X pins σ (upd H s.heap.objs.size (.tup [.int (i : Nat), x])) { s with heap := h'', toks := tz + 1 } :=
      I.turnedNew (ch := [e, it]) (fun b ob hb q => (sbu.2 b (fun z => hb (by simp [z]))).trans (kp b ob (fun z => hb (by simp [z])) (fun z => hb (by simp [z])) q)) hf (Nat.le_refl _) new
    refine ⟨.ref s.heap.objs.size, _, I1, rfl, ⟨_, x, rfl, I.hok.fresh (Nat.le_refl _), rfl, fun ys hy => by rw [I.tuple_inj hy hSq]; exact hx⟩, ⟨⟨x', ?_⟩, hit'.1.at fun o q => (sbu.2 it (Ne.symm nEI)).trans q, nEI, nAI⟩, fun b hb => ?_⟩
    · have e1 : ((i + 1 : Nat) : Int) = (i : Int) + 1 := by omega
      rw [e1]; exact he'
    · have hb' : b < s.heap.objs.size := by
        have e' : b = e ∨ b = it := by simpa using hb
        rcases e' with z | z
        · rw [z]; exact ltE
        · rw [z]; exact ltI
      rw [upd_ne (Nat.ne_of_lt hb')]
      exact (hf b hb).1
  done := by
    intro X hP hw hK hC i pins s σ H E I hf st hg
    subst hP hw hK
    obtain ⟨⟨old, he⟩, hIt, nEI, nAI⟩ := st
    obtain ⟨xs, hSq, hx⟩ := hg
    obtain ⟨vz, rz, p, hZ⟩ := I.tuple hSq
    obtain ⟨f0, f1, f2, f3, f4, f5⟩ := hf it (by simp)
    have hl := rz.length
    have hT : s.TypeIs (.ref e) "enumerate" := ⟨_, he, rfl⟩
    unfold pyNext
    refine wpAny_bind (wpAny_attempt (wpAny_callSpecial?_slot (name := Str.ofString "__next__") hT F.slot_enumerate_next
      (wpAny_call_entry F.slot_enumerate_next hT F.entry_enumerate_next ?_ (F.args_enumerate_next_1 _))))
    show wpAny _ _ (field (.ref e) 2 >>= _) _ _ _
    refine wpAny_bind (wpAny_field he rfl (x := .ref it) rfl ?_)
    refine wpAny_bind (wpAny_nextOf_tuple_end (show X.A.in1.handled = none from I.ok.hd hC) hIt p (by simp; omega) fun h' x he' hx' => ?_)
    obtain ⟨o, hO, hc'⟩ := hx'
    refine wpAny_bind (wpAny_isInstance (T := "StopIteration") (b := true) ⟨o, hO, hc'⟩ isSubtype_stop ?_)
    exact wpAny_pure ⟨rfl, I.turned (t' := s.toks) (fun b o hb q => he' b o hb q) f0 f1 f3 f4 f5⟩
  self := fun A i s Q E st h => let ⟨⟨_, he⟩, _⟩ := st; wpAny_pyIter_enum he h
def iEnumT (K : PySem.W.Frag) (ta : TA) : TI := fun σ H R => ta σ H fun vs H1 => ∃ a xs, vs = [.ref a] ∧ SqT K H1 a xs ∧ R (IteT K a) H1
theorem pi_enumT {X : Cx} {e : Expr} {ta : TA} {p pos tpos : Pos} {elts : List Expr} {kk : Nat} (hg : Gl X "enumerate") (hm : X.mg "enumerate" = none) (ha : PA X [e] ta) (hs : starEach [e] X.env = [(false, eval e X.env)] := by rfl) :
    PI X (.Tuple elts kk tpos) (.Call (.Name "enumerate" p) [e] [] pos) (iEnumT X.K ta) := by
  refine ⟨fun pins s σ H R I h => ?_⟩
  refine Call_ (ld_blt I hg hm boot_enumerate (PyProof.Rows.callWith_type1 (thn (ha.run pos pins s σ H _ I h) fun us s1 ⟨vs, H1, I1, r1, q1⟩ => ?_) hs rfl))
  obtain ⟨a, xs, ex, hSq, q⟩ := q1
  subst ex
  cases r1 with
  | cons r rr =>
    cases rr
    cases r
    obtain ⟨vz, rz, p', hZ⟩ := I1.tuple hSq
    have hal : a < s1.heap.objs.size := by obtain ⟨_, q', _⟩ := id p'; exact Heap.lt_size q'
    refine enum_one (begins_tuple a vz.toArray) p' fun h' he hIt hSz kp => wpAny_pyIter_enum he ?_
    have I2 : Inv X pins σ H1 { s1 with heap := h' } := I1.kept (t' := s1.toks) kp
    refine ⟨s1.heap.objs.size + 1, [s1.heap.objs.size + 1, s1.heap.objs.size], _, _, H1, rfl, I2, turn_enumT a (s1.heap.objs.size + 1) s1.heap.objs.size, ⟨⟨.none, he⟩, ⟨_, hIt, rfl, rfl⟩, Nat.succ_ne_self _, Nat.ne_of_lt hal⟩, fun b hb => ?_, q⟩
    have e' : b = s1.heap.objs.size + 1 ∨ b = s1.heap.objs.size := by simpa using hb
    have hle : s1.heap.objs.size ≤ b := by
      rcases e' with z | z
      · rw [z]; exact Nat.le_add_right _ _
      · rw [z]; exact Nat.le_refl _
    exact I1.fpOk hle (I1.hok.fresh hle)
/-! ### sorted(a tuple of ints) -/
def rSortedTup (K : PySem.W.Frag) : List V → Hp → VK → Prop := fun vs H Q => ∃ (a : Addr) (ns : List Int), vs = [V.ref a] ∧ SqT K H a (ns.map V.int) ∧ ns.length < 64 ∧
  ∀ (ns' : List Int) (p : Addr), ns'.Perm ns → ns'.Pairwise (· ≤ ·) → H p = none → Q (.ref p) (upd H p (.lst (ns'.map V.int)))
section
variable {prog : Program} {w : World} {A : Around} {E : Value → Shared → Prop} {s : Shared}
theorem collect_tup {l : Addr} {vs : List Value} {Q : List Value → Shared → Prop} (hl : IsTup s.heap l vs.toArray)
    (h : Q vs { s with heap := (s.heap.push (seqObj "list" #[] 0)).update s.heap.objs.size (Obj.mapSeq (· ++ vs.toArray)) }) (hSz : vs.length ≤ sizeLine := by size_fits) :
    wpAny (model prog w) A (collect (.ref l)) Q E s := by
  obtain ⟨o, hO, hC, n, hD⟩ := id hl
  unfold collect
  refine wpAny_bind (wpAny_runValue (codeAny_builtin F.entry_proto_collect ?_))
  rw [Around.under_plainId F.plain_proto_collect _]
  show wpAny _ A.in1 (newList [] >>= fun l' => again (.builtin "list.__iadd__" ⟨[l', .ref l], []⟩)) _ _ s
  refine wpAny_bind (wpAny_newList (wpAny_pure ⟨plainId_quiet F.plain_list_iadd _, codeAny_builtin F.entry_list_iadd ?_⟩))
  rw [Around.under_plainId F.plain_list_iadd _]
  show wpAny _ _ (Builtin.List.listExtendWith (.ref s.heap.objs.size) (.ref l) (.ref s.heap.objs.size)) _ _ { s with heap := s.heap.push (seqObj "list" #[] 0) }
  unfold Builtin.List.listExtendWith
  have ho' : (s.heap.push (seqObj "list" #[] 0)).get? l = some o := Heap.get?_push_of_some _ hO
  refine wpAny_bind (wpAny_typeOf (T := "tuple") ⟨o, ho', hC⟩ ?_)
  have hT0 : (Value.type "tuple" == Value.type "tuple") = true := by rfl
  rw [if_pos (by rw [hT0]; simp)]
  refine wpAny_bind (listItems_at ho' hD ?_)
  refine wpAny_bind (listItems_at (xs := #[]) (n := 0) (Heap.get?_push_size _ rfl) rfl ?_)
  rw [if_neg (by simp)]
  refine wpAny_bind (listUpdate_at (xs := #[]) (n := 0) (Heap.get?_push_size _ rfl) rfl ?_ (Nat.zero_le _) (by show (#[] ++ vs.toArray).size ≤ sizeLine + 1; simp only [Array.size_append, List.size_toArray, List.length_nil]; omega))
  refine wpAny_pure ?_
  show wpAny (model prog w) A (do
      let o ← load s.heap.objs.size
      match o.data with
      | .seq xs _ => pure xs.toList
      | _ => unsupported "internal:collect") Q E { s with heap := (s.heap.push (seqObj "list" #[] 0)).update s.heap.objs.size (Obj.mapSeq (· ++ vs.toArray)) }
  refine wpAny_bind (wpAny_load (get?_update_seq (Heap.get?_push_size _ rfl) _) ?_)
  show wpAny _ _ (pure ((#[] : Array Value) ++ vs.toArray).toList) Q E _
  rw [show ((#[] : Array Value) ++ vs.toArray).toList = vs by simp]
  exact wpAny_pure h
theorem sorted_intsT {l : Addr} {vs : List Value} {ns : List Int} {Q : Value → Shared → Prop} (hl : IsTup s.heap l vs.toArray) (hI : IntsAre vs ns) (h64 : vs.length < 64)
    (h : ∀ (out : Array Value) (ns' : List Int), IntsAre out.toList ns' → ns'.Perm ns → ns'.Pairwise (· ≤ ·) → Q (.ref (s.heap.objs.size + 1)) { s with heap := sortedAll s.heap vs out }) :
    wpAny (model prog w) A (call (.builtin "sorted") [.ref l]) Q E s := by
  refine Calls.call_function_entry kind_sorted plain_sorted entry_sorted (args_sorted1 _) ?_
  unfold Builtin.«sorted»
  refine wpAny_bind (m := checkCount "sorted" 1 1 _) (wpAny_pure ?_)
  have hsz0 : vs.length ≤ sizeLine := by
    rw [sizeLine_eq]
    omega
  refine wpAny_bind (collect_tup (hSz := hsz0) hl ?_)
  refine wpAny_bind (wpAny_newList ?_)
  have hSz : ((s.heap.push (seqObj "list" #[] 0)).update s.heap.objs.size (Obj.mapSeq (· ++ vs.toArray))).objs.size = s.heap.objs.size + 1 := by
    rw [Heap.size_update, size_push']
  have hOL : (((s.heap.push (seqObj "list" #[] 0)).update s.heap.objs.size (Obj.mapSeq (· ++ vs.toArray))).push (seqObj "list" vs.toArray 0)).get? (s.heap.objs.size + 1) = some (seqObj "list" vs.toArray 0) := by
    rw [← hSz]; exact Heap.get?_push_size _ rfl
  show wpAny _ _ _ _ _ { s with heap := ((s.heap.push (seqObj "list" #[] 0)).update s.heap.objs.size (Obj.mapSeq (· ++ vs.toArray))).push (seqObj "list" vs.toArray 0) }
  rw [hSz]
  refine wpAny_bind (wpAny_holding (wpAny_call_entry slot_list_sort ⟨_, hOL, rfl⟩ entry_list_sort (list_sort_tree hOL hI h64 fun out ns' a1 a2 a3 => ⟨_, rfl, ?_⟩) (args_list_sort _)))
  exact wpAny_pure ⟨_, rfl, h out ns' a1 a2 a3⟩
end
theorem cr_sortedTup {X : Cx} : CallR X (.builtin "sorted") (rSortedTup X.K) := by
  intro pins s σ H vs us Q I r h
  obtain ⟨a, ns, rfl, hs, h64, q⟩ := h
  obtain ⟨vz, rz, hl, _⟩ := I.tuple hs
  rw [Vals.ref1 r]
  have hi := rz.ints
  refine sorted_intsT hl hi (by rw [hi.length]; exact h64) fun out ns' h1 h2 h3 => ?_
  obtain ⟨ep, he'⟩ := PyProof.Rows.sortedAll_at s.heap vz out
  have hLn : (ns'.map V.int).length ≤ sizeLine := by rw [List.length_map, h2.length_eq]; exact small64 h64
  exact ⟨.ref _, upd H (s.heap.objs.size + 1) (.lst (ns'.map V.int)), I.laid (t' := s.toks) (fun _ _ => PyProof.Rows.sortedAll_old) (Nat.le_succ _) ⟨hLn, out.toList, ep, vals_of_ints h1, he'⟩, rfl, q ns' _ h2 h3 (I.hok.fresh (Nat.le_succ _))⟩
end RH
set_option Elab.async false
set_option linter.all false
set_option maxRecDepth 100000
set_option maxHeartbeats 2000000
/-! Lambdas with parameters and captured names, as values: made, handed to a def of the text, called there. -/
namespace RH
open PySem PySem.Spec PyProof.Rows L2
open LamX (Tabs TabS TabB ExtN CodeO codeO_ne inv_table among_app)
open NdefX (NF CellsAt NScope startF ncx inv_startN codeO_at slotAt Caps cells_of upd_none)
/-- a lambda's words, what it captured, its code object -/
structure LF where
  qual : Str
  params : Arguments
  body : Expr
  scope : Scope
  cl : List (Str × Addr)
  c : Addr
abbrev LF.fd (F : LF) (pm ctv : Value) : FuncData := PySem.W.kla_fn "<lambda>" F.qual F.params F.body F.scope F.cl pm (.ref F.c) ctv
abbrev LF.nf (F : LF) : NF := ⟨"<lambda>", F.qual, F.params, [], F.scope, F.cl, F.c⟩
/-- the object at f is this lambda -/
def FnL (f : Addr) (F : LF) : HO := .ext fun h => ∃ (od : Option Addr) (sl : Array (Option Value)) (pm ctv : Value), h.get? f = some (⟨.type "function", od, .func (F.fd pm ctv), sl⟩ : Obj)
theorem fnL_ne {f : Addr} {F : LF} (ps : Array Value) : FnL f F ≠ .tbl ps := fun z => by
  unfold FnL at z
  cases z
theorem fnL_at {P : Program} {w : World} {H : Hp} {h : Heap} {f : Addr} {F : LF} (hok : HOk P w H h) (e : H f = some (FnL f F)) : ∃ (od : Option Addr) (sl : Array (Option Value)) (pm ctv : Value), h.get? f = some (⟨.type "function", od, .func (F.fd pm ctv), sl⟩ : Obj) := (hok f _ e).1
section
variable {X : Cx} {pins : List (Addr × Obj)} {σ : L2.St} {H : Hp} {s : Shared}
theorem inv_lam {F : LF} {h' : Heap} {t' : Nat} {pm ctv : Value} (I : Inv X pins σ H { s with heap := h', toks := t' }) :
    Inv X pins σ (upd H h'.objs.size (FnL h'.objs.size F)) { s with heap := h'.push { cls := .type "function", data := .func (F.fd pm ctv) }, toks := t' } := by
  refine I.laid (t' := t') (a := h'.objs.size) (fun b u e => Heap.get?_push_of_some _ e) (Nat.le_refl _) ?_
  have e : (h'.push ({ cls := .type "function", data := .func (F.fd pm ctv) } : Obj)).get? h'.objs.size = some ({ cls := .type "function", data := .func (F.fd pm ctv) } : Obj) := Heap.get?_push_size _ rfl
  exact ⟨⟨_, _, pm, ctv, e⟩, ⟨_, e⟩, fun h1 h2 ⟨od, sl, p, t, z⟩ st => ⟨od, sl, p, t, st _ z⟩⟩
/-- the lambda is made -/
theorem lam_made {T : List (Addr × Str)} {c P : Addr} {params : Arguments} {body : Expr} {scope : Scope} {pos : Pos} {E : Value → Shared → Prop} {Q : Value → Shared → Prop} (I : Inv X pins σ H s) (TB : TabB X.base X.mg c P) (hcode : X.env.code = .ref c)
    (hm : (P, X.env.qual ++ "<lambda>") ∈ T) (hu : ∀ p ∈ T, p.1 = P → p.2 = X.env.qual ++ "<lambda>") (hT : Tabs T H) (hdef : defaultsOf params X.env = ([], [])) (hfree : ∀ y ∈ scope.names, y.2 = .free → ∃ c, X.env.cells.lookup y.1 = some c)
    (h : ∀ (f c' : Addr) (H1 : Hp) (s' : Shared), Inv X pins σ H1 s' → ExtN H H1 → (∀ b, H1 b = none → H b = none) → Tabs T H1 → H f = none →
      H1 f = some (FnL f ⟨X.env.qual ++ "<lambda>", params, body, scope, cloFrom X.env.cells scope.names [], c'⟩) → H1 c' = some (CodeO c' (X.env.qual ++ "<lambda>")) → Q (.ref f) s') :
    wpAny (model X.prog X.w) X.A (eval (.Lambda params body scope pos) X.env) Q E s := by
  obtain ⟨ps, hP, ht, ha⟩ := hT _ hm
  refine PySem.W.kla_eval hdef ?_
  have bP : s.heap.BuiltinsAt X.mg P := TB.bm.keeps I.bk
  have hP' : s.heap.get? P = some { cls := .none, data := .fields ps } := I.hok P _ hP
  cases hc : codeAmong pos ps.toList with
  | none =>
    refine PySem.W.kla_makeFunction (mg := X.mg) (c := c) (P := P) (ps := ps) (closure_ok hfree) I.ok.glob (I.mod.glob.keeps I.bk) hcode (TB.code.keeps I.bk) hP' ht hc TB.gP bP fun c' ctv h' tk hx hge hlt hrec htb => ?_
    obtain ⟨c2, oc, vs, t, e2, hoc, hd, hv⟩ := hrec
    cases e2
    have nC : H c' = none := I.hok.fresh hge
    have I1 := inv_table (t' := tk) (more := #[rawInt pos.line, rawInt pos.col, .ref c']) (h' := h') I hP (fun b o hb e => hx b o hb e) htb hge ⟨oc, vs, t, hoc, hd, hv⟩
    generalize hG : upd (upd H P (.tbl (ps ++ #[rawInt pos.line, rawInt pos.col, .ref c']))) c' (CodeO c' (X.env.qual ++ "<lambda>")) = G at I1
    have hE : ExtN H G := fun b o e n => by
      rw [← hG, upd_ne (ne_of_none e nC), upd_ne (fun z => n ps (Option.some.inj (e.symm.trans (by rw [z]; exact hP))))]
      exact e
    have gP : G P = some (.tbl (ps ++ #[rawInt pos.line, rawInt pos.col, .ref c'])) := by rw [← hG, upd_ne (ne_of_none hP nC), upd_same]
    have gC : G c' = some (CodeO c' (X.env.qual ++ "<lambda>")) := by rw [← hG, upd_same]
    have gO : ∀ b ps', b ≠ P → H b = some (.tbl ps') → G b = some (.tbl ps') := fun b ps' nb e => by
      rw [← hG, upd_ne (ne_of_none e nC), upd_ne nb]
      exact e
    have gN : ∀ b, G b = none → H b = none := fun b e => by
      rw [← hG] at e
      exact upd_none (upd_none e)
    have eL : (ps ++ #[rawInt pos.line, rawInt pos.col, .ref c']).toList = ps.toList ++ [rawInt pos.line, rawInt pos.col, .ref c'] := by simp
    have T1 : Tabs T G := fun p hp => by
      by_cases hb : p.1 = P
      · rw [hu p hp hb, hb]
        refine ⟨_, gP, by rw [eL]; exact PySem.TriplesOk_snoc _ _ _ _ ht, fun p' cv hcv => ?_⟩
        rw [eL] at hcv
        rcases among_app _ ht hcv with z | z
        · obtain ⟨c0, e1, e2⟩ := ha p' cv z
          exact ⟨c0, e1, hE _ _ e2 codeO_ne⟩
        · exact ⟨c', z, gC⟩
      · obtain ⟨ps', a1, a2, a3⟩ := hT p hp
        refine ⟨ps', gO _ _ hb a1, a2, fun p' cv hcv => ?_⟩
        obtain ⟨c0, e1, e2⟩ := a3 p' cv hcv
        exact ⟨c0, e1, hE _ _ e2 codeO_ne⟩
    have nF : G h'.objs.size = none := I1.hok.fresh (Nat.le_refl _)
    have I2 := inv_lam (F := ⟨X.env.qual ++ "<lambda>", params, body, scope, cloFrom X.env.cells scope.names [], c'⟩) (pm := (X.mg "__name__").getD .none) (ctv := ctv) I1
    refine h h'.objs.size c' _ _ I2 (fun b o e n => ?_) (fun b e => gN b (upd_none e)) (T1.ext fun b o e => ?_) (gN _ nF) upd_same ?_
    · have e1 := hE b o e n
      exact (upd_ne (ne_of_none e1 nF)).trans e1
    · exact (upd_ne (ne_of_none e nF)).trans e
    · exact (upd_ne (ne_of_none gC nF)).trans gC
  | some cv =>
    obtain ⟨c', e, hco⟩ := ha pos cv hc
    subst e
    refine PySem.W.kla_makeFunctionHit (mg := X.mg) (c := c) (P := P) (ps := ps) (closure_ok hfree) I.ok.glob (I.mod.glob.keeps I.bk) hcode (TB.code.keeps I.bk) hP' ht hc bP fun ctv h' tk hx hsz => ?_
    have I1 : Inv X pins σ H { s with heap := h', toks := tk } := I.kept hx
    have nF : H h'.objs.size = none := I1.hok.fresh (Nat.le_refl _)
    have I2 := inv_lam (F := ⟨X.env.qual ++ "<lambda>", params, body, scope, cloFrom X.env.cells scope.names [], c'⟩) (pm := (X.mg "__name__").getD .none) (ctv := ctv) I1
    refine h h'.objs.size c' _ _ I2 (fun b o e n => ?_) (fun b e => upd_none e) (hT.ext fun b o e => ?_) nF upd_same ?_
    · exact (upd_ne (ne_of_none e nF)).trans e
    · exact (upd_ne (ne_of_none e nF)).trans e
    · exact (upd_ne (ne_of_none hco nF)).trans hco
end
/-- lambda a, b: .. as a value -/
def tLamE (T : List (Addr × Str)) (mk : Addr → LF) : TE := fun _ H Q => Tabs T H ∧ ∀ (f c' : Addr) (H1 : Hp), ExtN H H1 → (∀ b, H1 b = none → H b = none) → Tabs T H1 → H f = none → H1 f = some (FnL f (mk c')) → H1 c' = some (CodeO c' (mk c').qual) → Q (.ref f) H1
theorem pe_lam {X : Cx} {T : List (Addr × Str)} {c P : Addr} {params : Arguments} {body : Expr} {scope : Scope} {pos : Pos} (TB : TabB X.base X.mg c P) (hcode : X.env.code = .ref c)
    (hm : (P, X.env.qual ++ "<lambda>") ∈ T) (hu : ∀ p ∈ T, p.1 = P → p.2 = X.env.qual ++ "<lambda>") (hdef : defaultsOf params X.env = ([], []))
    (hfree : ∀ y ∈ scope.names, y.2 = .free → X.env.scope.names.lookup y.1 = some .cell ∨ X.env.scope.names.lookup y.1 = some .free) :
    PE X (.Lambda params body scope pos) (tLamE T fun c' => ⟨X.env.qual ++ "<lambda>", params, body, scope, cloFrom X.env.cells scope.names [], c'⟩) := by
  refine ⟨fun pins s σ H Q I h => ?_⟩
  obtain ⟨hT, q⟩ := h
  refine lam_made I TB hcode hm hu hT hdef (fun y hy e => (hfree y hy e).elim (fun z => I.ok.has _ (.inl z)) fun z => I.ok.has _ (.inr z)) fun f c' H1 s' I' e n T' hf h1 h2 => ?_
  exact ⟨.ref f, H1, I', rfl, q f c' H1 e n T' hf h1 h2⟩
/-! ### what a lambda promises -/
structure LOk (P : Program) (w : World) (K : PySem.W.Frag) (mg : Str → Option Value) (base : Heap) (CX : CXT) (k : Nat) (f : Addr) (F : LF) (ps fr : List Str) (sp : List (Option V) → Sp) : Prop where
  len : ∀ ws vs H Q E, sp ws vs H Q E → vs.length = ps.length
  run : ∀ (A : Around) (outer : List Env) (s : Shared) (H : Hp) (us : List Value) (vs : List V) (ws : List (Option V)) (Q : VK) (E : XK), Room k A → Env0 P w K mg base A outer s H → H f = some (FnL f F) → H F.c = some (CodeO F.c F.qual) →
    CellsAt F.cl fr ws s.heap H → Vals vs us → sp ws vs H Q E → codeAny (model P w) A (.call (.ref f) ⟨us, []⟩) (CR CX outer P w H s Q E) s
section
variable {CX : CXT} {P : Program} {w : World} {K : PySem.W.Frag} {mg : Str → Option Value} {base : Heap} {N ps fr : List Str} {F : LF} {f : Addr} {k j : Nat} {sp : List (Option V) → Sp}
/-- a lambda by its body -/
theorem lok_of (S : NScope N ps fr F.scope) (hb : ∀ (pm ctv : Value) (us : List Value), us.length = ps.length → bindArgs (F.fd pm ctv) ⟨us, []⟩ = pure (ps.zip us)) (len : ∀ ws vs H Q E, sp ws vs H Q E → vs.length = ps.length)
    (hbody : ∀ (A : Around) (outer : List Env) (s : Shared) (H : Hp) (vs : List V) (ws : List (Option V)) (Q : VK) (E : XK), Room k (A.deeper (NdefX.envF F.nf f s.heap.objs.size)) → ws.length = fr.length → sp ws vs H Q E →
      ∃ t, PE (ncx CX P w K mg base N F.nf f A outer s H E) F.body t ∧ t (startF N vs ws) H Q) :
    LOk P w K mg base CX (k + 1) f F ps fr sp := by
  refine ⟨len, fun A outer s H us vs ws Q E hr e0 hf hc C r hsp => ?_⟩
  have hl := len _ _ _ _ _ hsp
  have lim : s.heap.NoLimit := e0.mod.nolimit.keeps fun b o e => (e0.bs b o e).1
  obtain ⟨od, sl, pm, ctv, ho⟩ := fnL_at e0.hok hf
  refine PySem.W.kla_callFunE hr.depth ho rfl S.co S.gen rfl (codeO_at e0.hok hc) ?_
  rw [hb pm ctv us (by rw [← r.length]; exact hl)]
  refine wpAny_pure (wpAny_newFunctionEnv S.nocell (fun ⟨n, _⟩ hy => S.par n (List.of_mem_zip hy).1) (fun h₁ hns hsb => ⟨lim.fresh _ hsb, ?_⟩) S.kind)
  show codeAny _ _ (.expr F.body (NdefX.envF F.nf f s.heap.objs.size)) _ _
  have kp : ∀ b o, s.heap.get? b = some o → h₁.get? b = some o := fun b o e => hsb.extBut b o (Nat.ne_of_lt (Heap.lt_size e)) (Heap.get?_push_of_some _ e)
  obtain ⟨t, ht, hq⟩ := hbody A outer s H vs ws Q E (hr.deeper _) C.len hsp
  have I : Inv (ncx CX P w K mg base N F.nf f A outer s H E) [] (startF N vs ws) H { s with heap := h₁, toks := s.toks + (ps.zip us).length } := inv_startN (F := F.nf) S hr.hd e0 hl r C hns kp
  refine PySem.W.kla_codeExpr (wpAny_mono (ht.run [] _ (startF N vs ws) H Q I hq) (fun v s' hs => ?_) fun e s' hs => hs)
  obtain ⟨v', H', J, rv, q⟩ := hs
  exact ⟨v', H', J.os, J.bare, J.base, J.hok, rv, q⟩
end
/-! ### a def that is handed things that can be called -/
/-- f may be called, from any frame that began at s, H below outer, while live holds -/
structure Callable (P : Program) (w : World) (K : PySem.W.Frag) (mg : Str → Option Value) (base : Heap) (CX : CXT) (k : Nat) (f : Addr) (live : Hp → Prop) (sp : Sp) (outer : List Env) (s : Shared) (H : Hp) : Prop where
  at_ : ∀ (X : Cx), X.prog = P → X.w = w → X.K = K → X.base = base → X.s_0 = s → X.H_0 = H → ∀ pins σ H' s', Inv X pins σ H' s' → live H' → PySem.W.FnAt f s'.heap
  run : ∀ (X : Cx), X.prog = P → X.w = w → X.K = K → X.mg = mg → X.base = base → X.s_0 = s → X.H_0 = H → X.outer = outer → X.ex = [] → Room k X.A → ∀ pins σ H' s' us vs Q E, Inv X pins σ H' s' → live H' → Vals vs us → Passes CX X E → sp vs H' Q E →
    wpAny (model P w) X.A (call (.ref f) us) (EP X pins σ Q) X.xe s'
section
variable {CX : CXT} {P : Program} {w : World} {K : PySem.W.Frag} {mg : Str → Option Value} {base : Heap} {ps fr : List Str} {k : Nat} {f : Addr} {ws : List (Option V)} {outer : List Env} {s : Shared} {H : Hp}
/-- a lambda is alive while its object and its code stand -/
def liveL (f : Addr) (F : LF) : Hp → Prop := fun H => H f = some (FnL f F) ∧ H F.c = some (CodeO F.c F.qual)
theorem callable_lam {F : LF} {sp : List (Option V) → Sp} (Fn : LOk P w K mg base CX k f F ps fr sp) (C : CellsAt F.cl fr ws s.heap H) (nf : ∀ y c, F.cl.lookup y = some c → c ∉ frs outer) :
    Callable P w K mg base CX k f (liveL f F) (sp ws) outer s H := by
  refine ⟨fun X _ _ _ _ _ _ pins σ H' s' I l => ?_, fun X e1 e2 e3 e4 e5 e6 e7 e8 e9 hr pins σ H' s' us vs Q E I l r hx q => ?_⟩
  · obtain ⟨od, sl, pm, ctv, ho⟩ := fnL_at I.hok l.1
    exact ⟨_, od, _, sl, ho⟩
  · subst e1 e2 e3 e4 e5 e6 e7 e8
    have C2 := NdefX.CellsAt.later (X := X) C nf (fun y c _ z => by rw [e9] at z; exact absurd z (by simp)) I
    refine wpAny_call (codeAny_mono (Fn.run X.A X.stack s' H' us vs ws Q E hr I.env0 l.1 l.2 C2 r q) fun r s' hq => ?_)
    cases r with
    | error e => exact hx pins σ H' _ e s' I hq
    | ok fl =>
      cases fl with
      | ret u => exact I.after hq
      | next => exact False.elim hq
      | brk => exact False.elim hq
      | cont => exact False.elim hq
end
def tCan (f : Addr) (live : Hp → Prop) (i : Nat) (sp : Sp) (E : XK) (t : TA) : TE := fun σ H Q => σ[i]? = some (some (.ref f)) ∧ live H ∧ t σ H fun vs H1 => live H1 ∧ sp vs H1 Q E
section
variable {X : Cx} {CX : CXT} {f : Addr} {live : Hp → Prop} {i j k : Nat} {x : Str} {sp : Sp} {E : XK} {t : TA} {e : Expr} {es : List Expr} {p pos : Pos}
theorem pe_can (Cb : Callable X.prog X.w X.K X.mg X.base CX k f live sp X.outer X.s_0 X.H_0) (nx : X.ex = []) (hr : Room j X.A) (hk : k ≤ j) (hx : Passes CX X E)
    (hN : X.N[i]? = some x) (hv : Vis X.env.scope x) (ha : PA X (e :: es) t) (hd : (x == ("__debug__" : Str)) = false := by decide) (hcd : (x == ("__classdict__" : Str)) = false := by decide)
    (he : starEach (e :: es) X.env = (false, eval e X.env) :: starEach es X.env := by rfl) (hpl : (backTo pos (starEach es X.env)).any (·.1) = false := by rfl) :
    PE X (.Call (.Name x p) (e :: es) [] pos) (tCan f live i sp E t) := by
  refine ⟨fun pins s σ H Q I h => ?_⟩
  obtain ⟨hs, hl, ht⟩ := h
  refine wpAny_Call_Name_kw (thn ((pe_var (pos := p) hN hv hd hcd).run pins s σ H (fun v H1 => v = .ref f ∧ H1 = H) I ⟨.ref f, hs, rfl, rfl⟩) fun u s1 ⟨v, H1, I1, r1, q1⟩ => ?_)
  obtain ⟨ev, eH⟩ := q1
  subst ev
  rw [eH] at I1
  obtain rfl : u = Value.ref f := r1
  refine PySem.W.callWith_F (first := []) (Cb.at_ X rfl rfl rfl rfl rfl rfl pins σ H s1 I1 hl) (thn (ha.run pos pins s1 σ H _ I1 ht) fun us s2 ⟨vs, H2, I2, r, h1, q⟩ => ⟨Cb.at_ X rfl rfl rfl rfl rfl rfl pins σ H2 s2 I2 h1, ?_⟩) he hpl
  exact Cb.run X rfl rfl rfl rfl rfl rfl rfl rfl nx (hr.mono hk) pins σ H2 s2 us vs Q E I2 h1 r hx q
end
/-- a def's promise that leans on what it is handed -/
structure FnC (P : Program) (w : World) (K : PySem.W.Frag) (mg : Str → Option Value) (base : Heap) (CX : CXT) (k : Nat) (f : Addr) (fd : FuncData) (ps : List Str) (Pre : List Env → Shared → Hp → Prop) (sp : Sp) : Prop where
  len : ∀ vs H Q E, sp vs H Q E → vs.length = ps.length
  run : ∀ (A : Around) (outer : List Env) (s : Shared) (H : Hp) (args : Args) (us : List Value) (vs : List V) (Q : VK) (E : XK), Room k A → Env0 P w K mg base A outer s H → BindsTo s fd args (ps.zip us) → Vals vs us → Pre outer s H → sp vs H Q E →
    codeAny (model P w) A (.call (.ref f) args) (CR CX outer P w H s Q E) s
section
variable {P : Program} {w : World} {K : PySem.W.Frag} {mg : Str → Option Value} {base : Heap}
theorem fnC_of {x qual : Str} {st : Stmt} {f : Addr} {fd : FuncData} {N ps : List Str} {k : Nat} {sp : Sp} {Pre : List Env → Shared → Hp → Prop} (F : Fun K x qual st f fd) (S : FnScope N ps (defScope st)) (len : ∀ vs H Q E, sp vs H Q E → vs.length = ps.length)
    (hbody : ∀ (cdv : Value) (A : Around) (outer : List Env) (s : Shared) (H : Hp) (vs : List V) (Q : VK) (E : XK), Room k (A.deeper (envOfC qual (defScope st) s.heap.objs.size f cdv)) → Pre outer s H → sp vs H Q E →
      ∃ t, PSs (cxOf CX0 P w K mg base N qual (defScope st) f cdv A outer s H E).nox (defBody st) t ∧ t { nx := fun _ H' => Q .non H', rt := Q } (start N vs) H) : FnC P w K mg base CX0 (k + 1) f fd ps Pre sp := by
  obtain ⟨oc, od, kV, doc, pm, an, cdv, ct, osl, rfl, lk, hcd⟩ := F.ex
  refine ⟨len, fun A outer s H args us vs Q E hr e0 hb r hP hsp => ?_⟩
  have hl := len _ _ _ _ hsp
  have KX : K.In s.heap := e0.mod.kin.keeps fun b o e => (e0.bs b o e).1
  have lim : s.heap.NoLimit := e0.mod.nolimit.keeps fun b o e => (e0.bs b o e).1
  have hkind : ∀ y ∈ ps.zip us, (defScope st).names.lookup y.1 = some .local ∨ ((defScope st).names.lookup y.1 = some .cell ∧ ((cellsFrom (s.heap.objs.size + 1) (defScope st).names []).lookup y.1).isSome = true) := fun y hy =>
    (S.par y.1 (List.of_mem_zip (a := y.1) (b := y.2) hy).1).elim .inl fun q => .inr ⟨q, PySem.W.cellsFrom_some _ _ _ (.inl q)⟩
  refine codeAny_call_function hr.depth (KX _ _ lk) rfl S.co S.gen rfl (PySem.W.codeRec_of KX hcd) (hb _ _ _ _ ?_)
  refine wpAny_newFunctionEnv_cells S.kind hkind fun env he s1 y => ?_
  subst he
  refine ⟨lim.keeps y.toInCall.keep, codeAny_func ?_⟩
  obtain ⟨t, ht, hq⟩ := hbody cdv A outer s H vs Q E (hr.deeper _) hP hsp
  have I : Inv (cxOf CX0 P w K mg base N qual (defScope st) f cdv A outer s H E) [] (L2.start N vs) H s1 := inv_start S hr.hd e0 hl r y
  refine wpAny_mono (ht.nox.run [] s1 (L2.start N vs) H _ I hq) (fun fl s' hs => ?_) fun e s' hs => hs
  cases fl with
  | ret u =>
    obtain ⟨v, σ', H', J, rv, q⟩ := hs
    exact ⟨v, H', J.os, J.bare, J.base, J.hok, rv, q⟩
  | next =>
    obtain ⟨σ', H', J, q⟩ := hs
    exact ⟨V.non, H', J.os, J.bare, J.base, J.hok, rfl, q⟩
  | brk => exact hs.choose_spec.choose_spec.2.elim
  | cont => exact hs.choose_spec.choose_spec.2.elim
end
/-- such a def called: g says with what -/
def tCallC {G : Type} (preS : G → L2.St → Hp → Prop) (sp : G → Sp) (E : XK) (t : TA) : TE := fun σ H Q => t σ H fun vs H1 => ∃ g, preS g σ H1 ∧ sp g vs H1 Q E
theorem pe_callC {G : Type} {X : Cx} {CX : CXT} {k j : Nat} {f : Addr} {fd : FuncData} {ps : List Str} {Pre : G → List Env → Shared → Hp → Prop} {preS : G → L2.St → Hp → Prop} {sp : G → Sp} {E : XK} {x : Str} {p pos : Pos} {e : Expr} {es : List Expr} {t : TA}
    (F : ∀ g, FnC X.prog X.w X.K X.mg X.base CX k f fd ps (Pre g) (sp g)) (hP : ∀ g pins σ H s, Inv X pins σ H s → preS g σ H → Pre g X.stack s H) (hr : Room j X.A) (hk : k ≤ j) (hg : Gl X x) (hm : X.mg x = some (.ref f)) (kp : PySem.W.keepIn X.K (.ref f) = true) (hb : Binds X.K fd ps []) (hx : Passes CX X E)
    (ha : PA X (e :: es) t) (hdb : (x == ("__debug__" : Str)) = false := by decide) (he : starEach (e :: es) X.env = (false, eval e X.env) :: starEach es X.env := by rfl) (hpl : (backTo pos (starEach es X.env)).any (·.1) = false := by rfl) :
    PE X (.Call (.Name x p) (e :: es) [] pos) (tCallC preS sp E t) := by
  refine ⟨fun pins s σ H Q I h => ?_⟩
  refine wpAny_Call_Name_kw (ld_glob I hg hm ?_ hdb)
  refine PySem.W.callWith_K (h₀ := X.base) I.ok.mod.kin kp (thn (ha.run pos pins s σ H _ I h) fun us s1 ⟨vs, H1, I1, r, g, pg, q⟩ => ⟨I1.kIn, ?_⟩) he hpl
  have hl : us.length = ps.length := by rw [← r.length]; exact (F g).len _ _ _ _ q
  have hb' := hb s1 us I1.kIn (by rw [List.append_nil]; exact hl)
  rw [List.append_nil] at hb'
  refine wpAny_call (codeAny_mono ((F g).run X.A X.stack s1 H1 ⟨us, []⟩ us vs Q E (hr.mono hk) I1.env0 hb' r (hP g pins σ H1 s1 I1 pg) q) fun r s' hq => ?_)
  cases r with
  | error e => exact hx pins σ H1 s1 e s' I1 hq
  | ok fl =>
    cases fl with
    | ret u => exact I1.after hq
    | next => exact False.elim hq
    | brk => exact False.elim hq
    | cont => exact False.elim hq
end RH
set_option Elab.async false
set_option linter.all false
set_option maxRecDepth 100000
set_option maxHeartbeats 2000000
/-! Dicts with tuples for keys: one pair written out, their values; where an int stands in a tuple. -/
namespace RH
open PySem PySem.Spec PyProof.Rows L2
theorem one_shape {X : Cx} {k v : Expr} {pos : Pos} : (evalEachOpt [some k] X.env).zip ((evalEach [v] X.env).map fun z => do let x ← z; standAt pos; pure x) = [(eval k X.env, (do let x ← eval v X.env; standAt pos; pure x : Sem Value))].map fun p => (some p.1, p.2) := rfl
/-- the view d.values() at p -/
def valuesO (p d : Addr) : HO := .ext fun h => h.IsValuesView p d
theorem valuesO_ok {P : Program} {w : World} {H : Hp} {h : Heap} {p d : Addr} (e : h.get? p = some { cls := .type "dict_values", data := .fields #[.ref d] }) : ObjOk P w H h p (valuesO p d) :=
  ⟨⟨_, e, rfl, rfl⟩, ⟨_, e⟩, fun h1 h2 x k => let ⟨o, ho, r⟩ := x; ⟨o, k o ho, r⟩⟩
theorem values_meets {prog : Program} {w : World} {d : Addr} {es : Array DictEntry} {ep : Nat} (hd : (d == sysModules) = false) :
    MeetsIn prog w (Builtin.«dict.values» ⟨[.ref d], []⟩) (fun _ R s => s.heap.DictRaw d es ep ∧ R (.ok (.ret (.ref s.heap.objs.size))) { s with heap := s.heap.push { cls := .type "dict_values", data := .fields #[.ref d] } }) :=
  .of_wp fun A R s ⟨hm, h⟩ => by
    unfold Builtin.«dict.values»
    have hs : ∀ (F : Unit → Shared → Prop) (G : Value → Shared → Prop), F () s → wpAny (model prog w) A.in1 (Builtin.Dict.showsAll d) F G s := fun F G f => by
      unfold Builtin.Dict.showsAll
      rw [if_neg (by rw [hd]; decide)]
      exact wpAny_pure f
    have hn : ∀ (F : Addr → Shared → Prop) (G : Value → Shared → Prop), F d s → wpAny (model prog w) A.in1 (Builtin.Dict.noArgs "values" ⟨[.ref d], []⟩) F G s := fun F G f => by
      unfold Builtin.Dict.noArgs
      exact wpAny_bind (wpAny_notOrdered_dict hm.typeIs (wpAny_pure f))
    exact wpAny_bind (hn _ _ (wpAny_bind (hs _ _ (wpAny_bind (wpAny_newObj_type (wpAny_pure ⟨_, rfl, h⟩))))))
end RH
set_option Elab.async false
set_option linter.all false
set_option maxRecDepth 100000
set_option maxHeartbeats 2000000
/-! Tuples told by their very object, and dicts whose keys are such tuples of ints. -/
namespace RH
open PySem PySem.Spec PyProof.Rows L2
def keyOf (s : List Int) : List L2.Key := s.map Sum.inl
theorem keyOf_kV (s : List Int) : (keyOf s).map kV = s.map V.int := by
  unfold keyOf
  rw [List.map_map]
  rfl
theorem mapInt_inj : ∀ {s t : List Int}, s.map V.int = t.map V.int → s = t
  | [], [], _ => rfl
  | [], _ :: _, e => by simp at e
  | _ :: _, [], e => by simp at e
  | a :: s, b :: t, e => by
    rw [List.map_cons, List.map_cons] at e
    injection e with e1 e2
    rw [V.int.inj e1, mapInt_inj e2]
theorem keyOf_inj {s t : List Int} (h : keyOf s = keyOf t) : s = t := by
  have e : (keyOf s).map kV = (keyOf t).map kV := by rw [h]
  rw [keyOf_kV, keyOf_kV] at e
  exact mapInt_inj e
/-- b is a tuple of these ints -/
def KX (H : Hp) (b : Addr) (s : List Int) : Prop := Rd H b (.tup (s.map V.int))
/-- the same, and its very object is known, one without a dict -/
def FT (H : Hp) (b : Addr) (s : List Int) : Prop := ∃ ob, H b = some (.frz ob (.tup (s.map V.int))) ∧ ob.dict = none
theorem FT.kx {H : Hp} {b : Addr} {s : List Int} (h : FT H b s) : KX H b s := let ⟨ob, h, _⟩ := h; .inr ⟨ob, h⟩
inductive XS : List (List Int × V) → List Addr → List (List L2.Key × Addr × Value) → Prop
  | nil : XS [] [] []
  | cons {q : List Int × V} {b : Addr} {u : Value} {as : List (List Int × V)} {bs : List Addr} {xs : List (List L2.Key × Addr × Value)} : RelV q.2 u → XS as bs xs → XS (q :: as) (b :: bs) ((keyOf q.1, b, u) :: xs)
inductive KB (H : Hp) : List (List Int × V) → List Addr → Prop
  | nil : KB H [] []
  | cons {q : List Int × V} {b : Addr} {as : List (List Int × V)} {bs : List Addr} : KX H b q.1 → KB H as bs → KB H (q :: as) (b :: bs)
theorem KB.snoc {H : Hp} {q : List Int × V} {b : Addr} (h : KX H b q.1) : ∀ {as : List (List Int × V)} {bs : List Addr}, KB H as bs → KB H (as ++ [q]) (bs ++ [b])
  | _, _, .nil => .cons h .nil
  | _, _, .cons g t => .cons g (t.snoc h)
theorem KB.imp {H H' : Hp} (f : ∀ b s, KX H b s → KX H' b s) : ∀ {as : List (List Int × V)} {bs : List Addr}, KB H as bs → KB H' as bs
  | _, _, .nil => .nil
  | _, _, .cons g t => .cons (f _ _ g) (t.imp f)
theorem XS.len : ∀ {as : List (List Int × V)} {bs : List Addr} {xs : List (List L2.Key × Addr × Value)}, XS as bs xs → xs.length = as.length
  | _, _, _, .nil => rfl
  | _, _, _, .cons _ t => congrArg (· + 1) t.len
theorem XS.snoc {q : List Int × V} {b : Addr} {u : Value} (h : RelV q.2 u) : ∀ {as : List (List Int × V)} {bs : List Addr} {xs : List (List L2.Key × Addr × Value)}, XS as bs xs → XS (as ++ [q]) (bs ++ [b]) (xs ++ [(keyOf q.1, b, u)])
  | _, _, _, .nil => .cons h .nil
  | _, _, _, .cons g t => .cons g (t.snoc h)
theorem atKey_pos {x : List L2.Key × Addr × Value} {xs : List (List L2.Key × Addr × Value)} {k : List L2.Key} (e : x.1 = k) : atKey (x :: xs) k = some x.2 := by simp [atKey, List.find?_cons, e]
theorem atKey_neg {x : List L2.Key × Addr × Value} {xs : List (List L2.Key × Addr × Value)} {k : List L2.Key} (e : ¬ x.1 = k) : atKey (x :: xs) k = atKey xs k := by simp [atKey, List.find?_cons, e]
theorem XS.no {s : List Int} : ∀ {as : List (List Int × V)} {bs : List Addr} {xs : List (List L2.Key × Addr × Value)}, XS as bs xs → s ∉ as.map Prod.fst → atKey xs (keyOf s) = none
  | _, _, _, .nil, _ => rfl
  | _, _, _, .cons g t, h => (atKey_neg fun e => h (by rw [← keyOf_inj e]; exact List.mem_cons_self ..)).trans (t.no fun z => h (List.mem_cons_of_mem _ z))
theorem XS.yes {s : List Int} : ∀ {as : List (List Int × V)} {bs : List Addr} {xs : List (List L2.Key × Addr × Value)}, XS as bs xs → s ∈ as.map Prod.fst → ∃ v p, atKey xs (keyOf s) = some p ∧ (s, v) ∈ as ∧ RelV v p.2
  | _, _, _, .nil, h => by simp at h
  | q :: as, _, _, .cons (u := u) g t, h => by
    by_cases e : q.1 = s
    · subst e
      exact ⟨q.2, _, atKey_pos rfl, List.mem_cons_self .., g⟩
    · rcases List.mem_cons.mp h with z | z
      · exact absurd z.symm e
      · obtain ⟨v, p, h1, h2, h3⟩ := t.yes z
        exact ⟨v, p, (atKey_neg fun z => e (keyOf_inj z)).trans h1, List.mem_cons_of_mem _ h2, h3⟩
theorem key_ofR {P : Program} {w : World} {H : Hp} {h : Heap} {a : Addr} {s : List Int} (ok : HOk P w H h) (e : KX H a s) : (tupleKind (mixKind P w)).is h (keyOf s) a := by
  obtain ⟨_, its, r, o, h1, h2, n, h3⟩ := (show ObjOk P w H h a (.tup (s.map V.int)) from e.ok ok)
  rw [← keyOf_kV] at r
  exact ⟨o, its.toArray, n, h1, h2, h3, by simpa using items_are r⟩
theorem XS.keys {P : Program} {w : World} {H : Hp} {h : Heap} (ok : HOk P w H h) : ∀ {as : List (List Int × V)} {bs : List Addr} {xs : List (List L2.Key × Addr × Value)}, XS as bs xs → KB H as bs → ∀ x ∈ xs, (tupleKind (mixKind P w)).is h x.1 x.2.1
  | _, _, _, .nil, _, x, hx => nomatch hx
  | _, _, _, .cons g t, .cons k r, x, hx => by
    rcases List.mem_cons.mp hx with e | hx
    · subst e
      exact key_ofR ok k
    · exact t.keys ok r x hx
/-- the dict at d: as with its values, bs its keys' tuples -/
abbrev DE (P : Program) (w : World) (as : List (List Int × V)) (bs : List Addr) (d : Addr) : HO := .ext fun h => (d == sysModules) = false ∧ as.length ≤ sizeLine ∧ ∃ xs : List (List L2.Key × Addr × Value), XS as bs xs ∧
  ∃ o es ep, h.get? d = some o ∧ o.ExactDict ∧ o.data = .dict es ep ∧ es.toList = xs.map (entryOfKey (tupleKind (mixKind P w))) ∧ (xs.map (·.1)).Nodup
theorem DE.ok {P : Program} {w : World} {H : Hp} {h : Heap} {as : List (List Int × V)} {bs : List Addr} {d : Addr} {xs : List (List L2.Key × Addr × Value)} (hd : (d == sysModules) = false) (hl : as.length ≤ sizeLine) (hx : XS as bs xs) (dd : h.DictOfH (tupleKind (mixKind P w)) d xs) : ObjOk P w H h d (DE P w as bs d) := by
  obtain ⟨o, es, ep, h1, h2, h3, h4, _, h5⟩ := dd
  refine ⟨⟨hd, hl, xs, hx, o, es, ep, h1, h2, h3, h4, h5⟩, ⟨o, h1⟩, fun h1 h2 ⟨a1, a2, xs, a3, o, es, ep, b1, b2⟩ k => ⟨a1, a2, xs, a3, o, es, ep, k _ b1, b2⟩⟩
section
variable {X : Cx} {pins : List (Addr × Obj)} {σ : L2.St} {H : Hp} {s : Shared} {a : Addr} {as : List (List Int × V)} {bs : List Addr}
theorem de_of (I : Inv X pins σ H s) (e : H a = some (DE X.prog X.w as bs a)) (k : KB H as bs) : (a == sysModules) = false ∧ as.length ≤ sizeLine ∧ ∃ xs, XS as bs xs ∧ s.heap.DictOfH (tupleKind (mixKind X.prog X.w)) a xs := by
  obtain ⟨h1, h2, xs, h3, o, es, ep, b1, b2, b3, b4, b5⟩ := (show ObjOk X.prog X.w H s.heap a (DE X.prog X.w as bs a) from I.hok a _ e).1
  exact ⟨h1, h2, xs, h3, o, es, ep, b1, b2, b3, b4, h3.keys I.hok k, b5⟩
end
/-! ### the rules -/
def tDisp1E (P : Program) (w : World) (tk tv : TE) : TE := fun σ H Q => ∀ p, H p = none → tk σ (upd H p (DE P w [] [] p)) fun x H1 => tv σ H1 fun y H2 => H2 p = some (DE P w [] [] p) ∧ ∃ (b : Addr) (s : List Int), x = .ref b ∧ KX H2 b s ∧ Q (.ref p) (upd H2 p (DE P w [(s, y)] [b] p))
def tDGetE (P : Program) (w : World) (td ty : TE) : TE := fun σ H Q => td σ H fun x H1 => ty σ H1 fun y H2 => ∃ (a b : Addr) (as : List (List Int × V)) (bs : List Addr) (s : List Int), x = .ref a ∧ y = .ref b ∧ H2 a = some (DE P w as bs a) ∧ KB H2 as bs ∧ KX H2 b s ∧ s ∈ as.map Prod.fst ∧ ∀ v, (s, v) ∈ as → Q v H2
def tDNotInE (P : Program) (w : World) (ty td : TE) : TE := fun σ H Q => ty σ H fun y H1 => td σ H1 fun x H2 => ∃ (a b : Addr) (as : List (List Int × V)) (bs : List Addr) (s : List Int), x = .ref a ∧ y = .ref b ∧ H2 a = some (DE P w as bs a) ∧ KB H2 as bs ∧ KX H2 b s ∧ Q (.bl (!decide (s ∈ as.map Prod.fst))) H2
def sDPutE (P : Program) (w : World) (td ty tv : TE) : TS := fun D σ H => tv σ H fun v H1 => td σ H1 fun x H2 => ty σ H2 fun y H3 => ∃ (a b : Addr) (as : List (List Int × V)) (bs : List Addr) (s : List Int), x = .ref a ∧ y = .ref b ∧ H3 a = some (DE P w as bs a) ∧ KB H3 as bs ∧ KX H3 b s ∧
  s ∉ as.map Prod.fst ∧ as.length < sizeLine ∧ D.nx σ (upd H3 a (DE P w (as ++ [(s, v)]) (bs ++ [b]) a))
section
variable {X : Cx} {o i k v value : Expr} {pos pos' tpos : Pos} {td ty tk tv : TE}
theorem de_typeIs {pins : List (Addr × Obj)} {σ : L2.St} {H : Hp} {s : Shared} {a : Addr} {as : List (List Int × V)} {bs : List Addr} (I : Inv X pins σ H s) (e : H a = some (DE X.prog X.w as bs a)) : s.TypeIs (.ref a) "dict" ∧ ∃ ob, s.heap.get? a = some ob ∧ ob.dict = none := by
  obtain ⟨_, _, xs, _, o, es, ep, b1, b2, _⟩ := (show ObjOk X.prog X.w H s.heap a (DE X.prog X.w as bs a) from I.hok a _ e).1
  exact ⟨⟨o, b1, b2.1⟩, o, b1, b2.2.1⟩
theorem pe_disp1E (hu : X.A.units < cLine) (hk : PE X k tk) (hv : PE X v tv) : PE X (.Dict [some k] [v] pos) (tDisp1E X.prog X.w tk tv) := by
  refine ⟨fun pins s σ H Q I q => ?_⟩
  have hn := I.hok.fresh (Nat.le_refl s.heap.objs.size)
  have hsys : (s.heap.objs.size == sysModules) = false := beq_eq_false_iff_ne.mpr (Ne.symm (Nat.ne_of_lt I.big))
  have I1 := I.laid (a := s.heap.objs.size) (o := DE X.prog X.w [] [] s.heap.objs.size) (h' := s.heap.push { cls := .type "dict", data := .dict #[] }) (t' := s.toks) (fun _ _ q => Heap.get?_push_of_some _ q) (Nat.le_refl _)
    (DE.ok hsys (Nat.zero_le _) .nil (Heap.DictOfH.new s.heap))
  rw [arm_eval_Dict, one_shape, dictDisplay_pairs _ (by simp) (by simp)]
  have ru : (tupleKind (mixKind X.prog X.w)).room X.A := hu
  refine wpAny_bind (wpAny_standAt (wpAny_bind (PySem.wpAny_subDictH (knd := tupleKind (mixKind X.prog X.w)) (Q := fun d s' => wpAny (model X.prog X.w) X.A (pure (Value.ref d)) (EP X pins σ Q) X.xe s') ru (by simp) ?_)))
  show wpAny _ _ (evalPairs (pairTrees [some k] [v] X.env pos)) _ _ _
  refine pairTrees_cons_walk (thn (hk.run pins _ σ _ _ I1 (q _ hn)) fun u s1 ⟨x, H1, I3, rx, q1⟩ => thn (hv.run pins s1 σ H1 _ I3 q1) fun w2 s2 ⟨y, H2, I2, ry, e, b, st, ex, eb, q2⟩ => pairTrees_nil_walk ?_)
  subst ex
  obtain rfl : u = Value.ref b := rx
  obtain ⟨hd, z, xs, rl, dd⟩ := de_of I2 e .nil
  cases rl
  refine ⟨[(keyOf st, b, w2)], ⟨rfl, rfl, key_ofR I2.hok eb, trivial⟩, dd, fun h' tk dd' hs => wpAny_pure ?_⟩
  have hq : ∃ q, h'.get? s.heap.objs.size = some q := let ⟨o, _, _, hq, _⟩ := dd'; ⟨o, hq⟩
  have I4 : Inv X pins σ (upd H2 s.heap.objs.size (DE X.prog X.w [(st, y)] [b] s.heap.objs.size)) { s2 with heap := h', toks := tk } :=
    d_write I2 (by rw [e]; exact True.intro) hs hq (DE.ok hd (by show 1 ≤ sizeLine; decide) (.cons (q := (st, y)) ry .nil) dd')
  exact ⟨.ref s.heap.objs.size, _, I4, rfl, q2⟩
theorem pe_dgetE (hu : X.A.units + 1 < cLine) (ho : PE X o td) (hi : PE X i ty) (hs : NoSl i) : PE X (.Subscript o i pos) (tDGetE X.prog X.w td ty) := by
  refine ⟨fun pins s σ H Q I h => ?_⟩
  refine subD_of PySem.F.slot_dict_getitem.lookup hs (thn (ho.run pins s σ H _ I h) fun u s1 ⟨x, H1, I1, rx, q1⟩ => thn (hi.run pins s1 σ H1 _ I1 q1) fun iv s2 ⟨y, H2, I2, ry, a, b, as, bs, st, ex, ey, e, kb, eb, hm, q2⟩ => ?_)
  subst ex ey
  obtain rfl : u = Value.ref a := rx
  obtain rfl : iv = Value.ref b := ry
  obtain ⟨hd, z, xs, hx, dd⟩ := de_of I2 e kb
  obtain ⟨v, p, h1, h2, h3⟩ := hx.yes hm
  exact ⟨(de_typeIs I2 e).1, wpAny_getItem_heap (tupleKind_room_in1 hu) (key_ofR I2.hok eb) dd h1 ⟨v, H2, I2.tok _, h3, q2 v h2⟩⟩
theorem pc_dnotinE (hu : X.A.units + 1 < cLine) (hi : PE X i ty) (ho : PE X o td) : PC X .NotIn i o (tDNotInE X.prog X.w ty td) := by
  refine ⟨fun pins s σ H Q I h => ?_⟩
  refine thn (hi.run pins s σ H _ I h) fun iv s1 ⟨y, H1, I1, ry, q1⟩ => thn (ho.run pins s1 σ H1 _ I1 q1) fun u s2 ⟨x, H2, I2, rx, a, b, as, bs, st, ex, ey, e, kb, eb, q2⟩ => ?_
  subst ex ey
  obtain rfl : u = Value.ref a := rx
  obtain rfl : iv = Value.ref b := ry
  obtain ⟨hd, z, xs, hx, dd⟩ := de_of I2 e kb
  refine wpAny_notIn_heap (tupleKind_room_in1 hu) (key_ofR I2.hok eb) hd dd ⟨_, H2, I2.tok _, ?_, q2⟩
  by_cases hm : st ∈ as.map Prod.fst
  · obtain ⟨v, p, h1, _⟩ := hx.yes hm
    rw [h1, decide_eq_true hm]
    rfl
  · rw [hx.no hm, decide_eq_false hm]
    rfl
theorem ps_dputE (hu : X.A.units + 1 < cLine) (ho : PE X o td) (hi : PE X i ty) (hv : PE X value tv) (hs : swapsWith value (some (.Subscript o i pos')) pos.line X.env = pure false) : PS X (.Assign [.Subscript o i pos'] value pos) (sDPutE X.prog X.w td ty tv) := by
  refine ⟨fun pins s σ H D I h => ?_⟩
  refine wpAny_Assign_Subscript (thn (hv.run pins s σ H _ I h) fun r s1 ⟨v, H1, I1, rv, q1⟩ => thn (ho.run pins s1 σ H1 _ I1 q1) fun u s2 ⟨x, H2, I2, rx, q2⟩ => thn (hi.run pins s2 σ H2 _ I2 q2) fun iv s3 ⟨y, H3, I3, ry, a, b, as, bs, st, ex, ey, e, kb, eb, hn, hl, q3⟩ => ?_) hs
  subst ex ey
  obtain rfl : u = Value.ref a := rx
  obtain rfl : iv = Value.ref b := ry
  obtain ⟨hd, z, xs, hx, dd⟩ := de_of I3 e kb
  refine wpAny_setItem_heap (hsz := by rw [hx.len]; exact z) (tupleKind_room_in1 hu) (key_ofR I3.hok eb) dd fun h' dd' hs => ?_
  rw [storedH_new (hx.no hn)] at dd'
  have hq : ∃ q, h'.get? a = some q := let ⟨o, _, _, hq, _⟩ := dd'; ⟨o, hq⟩
  exact ⟨σ, _, d_write I3 (by rw [e]; exact True.intro) hs hq (DE.ok hd (by rw [List.length_append]; exact hl) (hx.snoc (q := (st, v)) rv) dd'), q3⟩
def rLenE (P : Program) (w : World) : List V → Hp → VK → Prop := fun xs H Q => ∃ (p : Addr) (as : List (List Int × V)) (bs : List Addr), xs = [.ref p] ∧ H p = some (DE P w as bs p) ∧ KB H as bs ∧ Q (.int ((as.length : Nat) : Int)) H
theorem call_lenE : CallR X (.builtin "len") (rLenE X.prog X.w) := by
  intro pins s σ H xs us Q I r h
  obtain ⟨p, as, bs, rfl, hp, kb, q⟩ := h
  obtain ⟨u, rfl, rx⟩ := vals1 r
  obtain rfl : u = .ref p := rx
  obtain ⟨hd, z, ys, hx, dd⟩ := de_of I hp kb
  refine call_len_dictH hd dd (by rw [hx.len]; rw [sizeLine_eq] at z; omega) ?_
  rw [hx.len]
  exact ⟨.int ((as.length : Nat) : Int), H, I.tok _, ⟨_, rfl⟩, q⟩
/-- d.values() -/
def tValsE (P : Program) (w : World) (to : TE) : TE := fun σ H Q => to σ H fun x H1 => ∃ (a : Addr) (as : List (List Int × V)) (bs : List Addr), x = .ref a ∧ H1 a = some (DE P w as bs a) ∧ ∀ p, H1 p = none → Q (.ref p) (upd H1 p (valuesO p a))
theorem pe_valsE {apos cpos : Pos} (ho : PE X o td) (hbase : attributeBase o "values" X.env (eval o X.env) = eval o X.env := by rfl) (hline : (apos.endLine == cpos.line) = true := by rfl) : PE X (.Call (.Attribute o "values" apos) [] [] cpos) (tValsE X.prog X.w td) := by
  refine ⟨fun pins s σ H Q I h => ?_⟩
  refine wpAny_Call_method0_late hbase hline (thn (ho.run pins s σ H _ I h) fun v s1 ⟨x, H1, I1, r1, a, as, bs, ex, e, q1⟩ => ?_)
  subst ex
  obtain rfl : v = Value.ref a := r1
  obtain ⟨t1, t2⟩ := de_typeIs I1 e
  refine ⟨"dict", "dict.values", PySem.F.plainAttrs_dict, PySem.F.slot_dict_values, PySem.F.type_dict_values, t1, fun b eb => by cases eb; exact t2, Calls.callWith_builtin rfl (PySem.evalArgs_none ?_)⟩
  obtain ⟨hd, _, xs, _, o, es, ep, b1, b2, b3, _⟩ := (show ObjOk X.prog X.w H1 s1.heap a (DE X.prog X.w as bs a) from I1.hok a _ e).1
  have hm : s1.heap.DictRaw a es ep := ⟨o, b1, b2, b3⟩
  refine call_meetsIn PySem.F.slot_dict_values hm.typeIs PySem.F.entry_dict_values (PySem.F.args_dict_values_1 _) (values_meets (es := es) (ep := ep) hd) ⟨hm, ?_⟩
  have hf : H1 s1.heap.objs.size = none := I1.hok.fresh (Nat.le_refl _)
  exact ⟨.ref s1.heap.objs.size, upd H1 s1.heap.objs.size (valuesO s1.heap.objs.size a), I1.laid (t' := s1.toks) (fun b u e => Heap.get?_push_of_some _ e) (Nat.le_refl _) (valuesO_ok (Heap.get?_push_size _ rfl)), rfl, q1 _ hf⟩
theorem XS.vals : ∀ {as : List (List Int × V)} {bs : List Addr} {xs : List (List L2.Key × Addr × Value)}, XS as bs xs → Vals (as.map Prod.snd) (xs.map fun x => x.2.2)
  | _, _, _, .nil => .nil
  | _, _, _, .cons h t => .cons h t.vals
def rListValsE (P : Program) (w : World) : List V → Hp → VK → Prop := fun xs H Q => ∃ (p d : Addr) (as : List (List Int × V)) (bs : List Addr), xs = [.ref p] ∧ H p = some (valuesO p d) ∧ H d = some (DE P w as bs d) ∧ ∀ l, H l = none → Q (.ref l) (upd H l (.lst (as.map Prod.snd)))
theorem call_listValsE (hc : X.calm = true) : CallR X (.type "list") (rListValsE X.prog X.w) := by
  intro pins s σ H xs us Q I r h
  obtain ⟨p, d, as, bs, rfl, hp, hd, q⟩ := h
  obtain ⟨u, rfl, rx⟩ := r.one
  cases rx
  obtain ⟨hs, z, ks, hx, o, es, ep, ho, hxd, hdt, he, _⟩ := (show ObjOk X.prog X.w H s.heap d (DE X.prog X.w as bs d) from I.hok d _ hd).1
  have hv : s.heap.IsValuesView p d := (show ObjOk X.prog X.w H s.heap p (valuesO p d) from I.hok p _ hp).1
  have l1 : es.size = ks.length := size_of_entries he
  have l2 : ks.length = as.length := hx.len
  refine PySem.W.kdl_call (KdlSrc.rawValues (es := es) (ep := ep)) (I.ok.hd hc) ⟨hv, o, ho, hxd, hdt⟩ (by omega) fun h' tk acc' c' kp e it => ?_
  have ea : acc'.toList = ks.map fun x => x.2.2 := by
    refine List.ext_getElem? fun j => ?_
    rw [List.getElem?_map]
    have hl : acc'.toList.length = ks.length := by rw [Array.length_toList, it.1]; exact l1
    by_cases hj : j < ks.length
    · have h1 : acc'.toList[j]? = some acc'.toList[j] := List.getElem?_eq_getElem (by omega)
      have h2 : ks[j]? = some ks[j] := List.getElem?_eq_getElem hj
      obtain ⟨hi, hv'⟩ := it.2 j _ (by rw [← Array.getElem?_toList]; exact h1)
      rw [h1, h2, hv']
      have h3 : es.toList[j]? = some es[j] := by rw [Array.getElem?_toList]; exact Array.getElem?_eq_getElem hi
      rw [he, List.getElem?_map, h2] at h3
      rw [← Option.some.inj h3]
      rfl
    · rw [List.getElem?_eq_none (by omega), List.getElem?_eq_none (by omega)]
      rfl
  have rv : Vals (as.map Prod.snd) acc'.toList := by rw [ea]; exact hx.vals
  refine ⟨.ref s.heap.objs.size, _, I.laid (t' := tk) (o := .lst (as.map Prod.snd)) kp (Nat.le_refl _) ?_, rfl, q _ (I.hok.fresh (Nat.le_refl _))⟩
  exact ⟨by rw [List.length_map]; exact z, acc'.toList, c', rv, by rw [Array.toArray_toList]; exact e⟩
/-- tuple(xs) of a list, told by its very object -/
def kTupF (K : PySem.W.Frag) (x : V) (H : Hp) (Q : VK) : Prop := ∃ p xs, x = .ref p ∧ SqL K H p xs ∧ ∀ q ob, H q = none → ob.dict = none → Q (.ref q) (upd H q (.frz ob (.tup xs)))
theorem pe_tupleF {a : Expr} {ta : TE} {p : Pos} (hg : Gl X "tuple") (hm : X.mg "tuple" = none) (ha : PE X a ta) (na : starEach [a] X.env = (false, eval a X.env) :: starEach [] X.env := by rfl) : PE X (.Call (.Name "tuple" p) [a] [] pos) (tThen ta (kTupF X.K)) := by
  refine ⟨fun pins s σ H Q I h => ?_⟩
  refine Call_ (ld_blt I hg hm boot_tuple (PyProof.Rows.callWith_type1 (one_arg ha I h (fun v s2 x H2 I2 r q => ?_) na) na))
  obtain ⟨p, xs, rfl, hs, q⟩ := q
  obtain rfl : v = .ref p := r
  obtain ⟨its, rv, pl, hz⟩ := I2.list hs
  refine call_tuple_list pl.isList (fun h' hk => ?_) (by rw [List.size_toArray, ← rv.length]; exact hz)
  have I3 : Inv X pins σ H2 { s2 with heap := h' } := I2.kept (t' := s2.toks) hk
  have e : (h'.push { cls := .type "tuple", data := .seq its.toArray }).get? h'.objs.size = some { cls := .type "tuple", data := .seq its.toArray } := Heap.get?_push_size _ rfl
  have I4 : Inv X pins σ (upd H2 h'.objs.size (.frz { cls := .type "tuple", data := .seq its.toArray } (.tup xs))) { s2 with heap := h'.push { cls := .type "tuple", data := .seq its.toArray } } :=
    I3.laid (t' := s2.toks) (fun b o e => Heap.get?_push_of_some _ e) (Nat.le_refl _) ⟨e, hz, its, rv, IsTup.new _ _⟩
  exact ⟨.ref h'.objs.size, _, I4, rfl, q _ _ (I3.hok.fresh (Nat.le_refl _)) rfl⟩
end
end RH
set_option Elab.async false
set_option linter.all false
set_option maxRecDepth 100000
set_option maxHeartbeats 2000000
/-! Sorted lists of tuples of ints, of any length; more rules for dicts whose keys are such tuples. -/
namespace RH
open PySem PySem.Spec PyProof.Rows L2
open SrtO (Swo Srtd Stb SortableO Cmp lt2)
open TS (TupInts intsOf code Bd lex_ints firsts_of)
/-- below 10, by the digits -/
def ltL (s t : List Int) : Bool := decide (code 10 s < code 10 t)
theorem swo_by {α : Type} (f : α → Int) : Swo fun x y : α => decide (f x < f y) := by
  refine ⟨fun x y h => ?_, fun x y z h1 h2 => ?_⟩
  · simp only [decide_eq_true_eq] at h
    simp only [decide_eq_false_iff_not]
    omega
  · simp only [decide_eq_false_iff_not] at *
    omega
theorem ltL_swo : Swo ltL := swo_by (code 10)
section
variable {prog : Program} {w : World} {A : Around} {E : Value → Shared → Prop} {s : Shared}
/-- each of vs is a tuple of d ints below 10 -/
def TupsD (h : Heap) (d : Nat) (vs : List Value) : Prop := ∀ v ∈ vs, TupInts h v (intsOf h v) ∧ (intsOf h v).length = d ∧ Bd 10 (intsOf h v)
theorem tups_cmp {d : Nat} {vs : List Value} {k : Value → Int} (hv : ∀ v ∈ vs, TupInts s.heap v (intsOf s.heap v) ∧ (intsOf s.heap v).length = d ∧ Bd 10 (intsOf s.heap v) ∧ k v = code 10 (intsOf s.heap v)) :
    Cmp prog w A s (tuples' true) (fun p => p.1 ∈ vs) (lt2 fun v u => decide (k v < k u)) := by
  intro p q hm hm'
  obtain ⟨⟨a, xs, e1, ⟨o, ho, hc, n, hd⟩, i1⟩, l1, b1, k1⟩ := hv _ hm
  obtain ⟨⟨a', ys, e2, ⟨o', ho', hc', n', hd'⟩, i2⟩, l2, b2, k2⟩ := hv _ hm'
  show wpAny (model prog w) A (keyLt' (tuples' true) p.1 q.1) (fun r s' => s' = s ∧ r = decide (k p.1 < k q.1)) (fun _ _ => False) s
  rw [k1, k2]
  generalize hx : intsOf s.heap p.1 = ns at *
  generalize hy : intsOf s.heap q.1 = ms at *
  rw [e1, e2]
  refine PySem.W.kat_lt ho hd ho' hd' ?_
  have sz : decide (xs.size < ys.size) = false := by
    have q1 := i1.length
    have q2 := i2.length
    rw [Array.length_toList] at q1 q2
    exact decide_eq_false (by omega)
  rw [sz]
  exact lex_ints 0 i1 i2 (by omega) b1 b2 ⟨rfl, rfl⟩
theorem tups_firsts {h : Heap} {d : Nat} (hd : 1 ≤ d) : ∀ vs : List Value, TupsD h d vs → ∃ fs, PySem.W.KatTups h vs fs ∧ fs.length = vs.length ∧ ∀ f, f ∈ fs → ∃ n t, f = Value.int n t := fun vs x =>
  firsts_of (B := 10) hd vs fun v hv => ⟨_, (x v hv).1, (x v hv).2.1, (x v hv).2.2⟩
theorem tups_sortable {a : Addr} {d : Nat} {vs : List Value} {k : Value → Int} (hd : 1 ≤ d) (h0 : 0 < vs.length) (hv : ∀ v ∈ vs, TupInts s.heap v (intsOf s.heap v) ∧ (intsOf s.heap v).length = d ∧ Bd 10 (intsOf s.heap v) ∧ k v = code 10 (intsOf s.heap v))
    (ha : ∀ o, s.heap.get? a = some o → o.cls ≠ .type "tuple") : SortableO prog w A s a vs fun v u => decide (k v < k u) := by
  intro h' keep
  have hv' : ∀ v ∈ vs, TupInts h' v (intsOf h' v) ∧ (intsOf h' v).length = d ∧ Bd 10 (intsOf h' v) ∧ k v = code 10 (intsOf h' v) := fun v hm => by
    obtain ⟨t, l, b, e⟩ := hv v hm
    have t' := t.keeps (h' := h') fun b o e c => keep b o (fun z => by subst z; exact ha o e c) e
    have e2 : intsOf h' v = intsOf s.heap v := t'.ints
    rw [e2]
    exact ⟨t', l, b, e⟩
  obtain ⟨fs, h1, h2, h3⟩ := tups_firsts hd vs fun v hm => ⟨(hv' v hm).1, (hv' v hm).2.1, (hv' v hm).2.2.1⟩
  refine ⟨tuples' true, fun Q E hq => ?_, tups_cmp hv'⟩
  refine PySem.W.kat_kind (T := .type "int") h1 (by omega) (fun f hm => ?_) (by rfl) ?_
  · obtain ⟨x, t, rfl⟩ := h3 f hm
    exact PySem.W.Looks.of_pure rfl
  · have e : (Value.type "int" != Value.type "tuple") = true := by first | decide +kernel | rfl | decide
    rw [e]
    exact hq
end
/-- each of xs is a tuple of the ints -/
inductive EX (H : Hp) : List V → List (List Int) → Prop
  | nil : EX H [] []
  | cons {b : Addr} {s : List Int} {xs : List V} {ls : List (List Int)} : KX H b s → EX H xs ls → EX H (.ref b :: xs) (s :: ls)
theorem EX.len {H : Hp} : ∀ {xs : List V} {ls : List (List Int)}, EX H xs ls → xs.length = ls.length
  | _, _, .nil => rfl
  | _, _, .cons _ t => congrArg (· + 1) t.len
theorem EX.imp {H H' : Hp} (f : ∀ b s, KX H b s → KX H' b s) : ∀ {xs : List V} {ls : List (List Int)}, EX H xs ls → EX H' xs ls
  | _, _, .nil => .nil
  | _, _, .cons g t => .cons (f _ _ g) (t.imp f)
theorem EX.snoc {H : Hp} {b : Addr} {s : List Int} (h : KX H b s) : ∀ {xs : List V} {ls : List (List Int)}, EX H xs ls → EX H (xs ++ [.ref b]) (ls ++ [s])
  | _, _, .nil => .cons h .nil
  | _, _, .cons g t => .cons g (t.snoc h)
theorem EX.at {H : Hp} : ∀ {xs : List V} {ls : List (List Int)} {i : Nat} {s : List Int}, EX H xs ls → ls[i]? = some s → ∃ b, xs[i]? = some (V.ref b) ∧ KX H b s
  | _, _, _, _, .nil, e => by simp at e
  | _, _, 0, _, .cons h _, e => by
    cases Option.some.inj e
    exact ⟨_, rfl, h⟩
  | _, _, i + 1, _, .cons _ t, e => t.at (i := i) e
theorem kx_ints {P : Program} {w : World} {H : Hp} {h : Heap} {a : Addr} {s : List Int} (ok : HOk P w H h) (e : KX H a s) : TupInts h (.ref a) s := by
  obtain ⟨_, its, r, hl⟩ := (show ObjOk P w H h a (.tup (s.map V.int)) from e.ok ok)
  exact ⟨a, its.toArray, rfl, hl, by simpa using r.ints⟩
theorem EX.vals {P : Program} {w : World} {H : Hp} {h : Heap} (ok : HOk P w H h) : ∀ {xs : List V} {ls : List (List Int)} {vs : List Value}, EX H xs ls → Vals xs vs → vs.map (intsOf h) = ls ∧ ∀ v ∈ vs, ∃ b, v = Value.ref b ∧ KX H b (intsOf h v)
  | _, _, _, .nil, .nil => ⟨rfl, fun _ hv => nomatch hv⟩
  | _, _, _, .cons (s := s) k t, .cons r rs => by
    obtain ⟨e1, e2⟩ := t.vals ok rs
    rename_i b xs ls u us
    obtain rfl : u = Value.ref b := r
    have e := (kx_ints ok k).ints
    refine ⟨by rw [List.map_cons, e1, e], fun v hv => ?_⟩
    rcases List.mem_cons.mp hv with rfl | hv
    · exact ⟨b, rfl, by rw [e]; exact k⟩
    · exact e2 v hv
theorem EX.of {P : Program} {w : World} {H : Hp} {h : Heap} : ∀ {out : List Value}, (∀ v ∈ out, ∃ b, v = Value.ref b ∧ KX H b (intsOf h v)) → Vals (out.map backV) out ∧ EX H (out.map backV) (out.map (intsOf h))
  | [], _ => ⟨.nil, .nil⟩
  | v :: out, hv => by
    obtain ⟨r, e⟩ := EX.of (P := P) (w := w) (H := H) (h := h) (out := out) fun u hu => hv u (List.mem_cons_of_mem _ hu)
    obtain ⟨b, rfl, k⟩ := hv v (List.mem_cons_self ..)
    exact ⟨.cons rfl r, .cons k e⟩
/-- what sorted makes of tuples of the ints ls -/
def SoT (H : Hp) (ls : List (List Int)) (ys : List V) (ls' : List (List Int)) : Prop := Srtd ltL ls' ∧ Stb ltL ls' ls ∧ EX H ys ls' ∧ ls'.length = ls.length
theorem SoT.one {H H' : Hp} {ls a b : List (List Int)} {ys zs : List V} (h1 : SoT H ls ys a) (h2 : SoT H' ls zs b) : a = b :=
  SrtO.stb_uniq ltL_swo h1.1 h2.1 ⟨h1.2.1.perm.trans h2.2.1.perm.symm, fun x => (h1.2.1.cls x).trans (h2.2.1.cls x).symm⟩
def rSortT (K : PySem.W.Frag) : List V → Hp → VK → Prop := fun vs H Q => ∃ (a : Addr) (xs : List V) (ls : List (List Int)) (d : Nat), vs = [V.ref a] ∧ SqL K H a xs ∧ EX H xs ls ∧ 1 ≤ d ∧ (∀ s ∈ ls, s.length = d ∧ Bd 10 s) ∧
  ∀ ys ls' p, SoT H ls ys ls' → H p = none → Q (.ref p) (upd H p (.lst ys))
theorem call_sortT {X : Cx} : CallR X (.builtin "sorted") (rSortT X.K) := by
  intro pins s σ H vs us Q I r h
  obtain ⟨a, xs, ls, d, rfl, hs, hx, hd, hb, q⟩ := h
  obtain ⟨its, rv, hl, hz⟩ := I.list hs
  obtain ⟨u, rfl, ru⟩ := vals1 r
  obtain rfl : u = Value.ref a := ru
  obtain ⟨e1, e2⟩ := hx.vals I.hok rv
  have hT : ∀ v ∈ its, TupInts s.heap v (intsOf s.heap v) ∧ (intsOf s.heap v).length = d ∧ Bd 10 (intsOf s.heap v) ∧ code 10 (intsOf s.heap v) = code 10 (intsOf s.heap v) := fun v hv => by
    obtain ⟨b, rfl, k⟩ := e2 v hv
    have hm : intsOf s.heap (.ref b) ∈ ls := by rw [← e1]; exact List.mem_map.mpr ⟨_, hv, rfl⟩
    exact ⟨kx_ints I.hok k, (hb _ hm).1, (hb _ hm).2, rfl⟩
  refine SrtO.sorted_ord (swo_by fun v => code 10 (intsOf s.heap v)) hl.isList (by rw [← rv.length]; exact hz) (fun h2 h₁ a ha kk => ?_) fun out hs hb2 => ?_
  · refine tups_sortable (s := { s with heap := h₁ }) hd (by omega) (fun v hm => ?_) fun o e => ?_
    · obtain ⟨t, l, b, _⟩ := hT v hm
      have t' := t.keeps (h' := h₁) fun b o e _ => (kk b o e).2
      have e2 : intsOf h₁ v = intsOf s.heap v := t'.ints
      show TupInts h₁ v (intsOf h₁ v) ∧ (intsOf h₁ v).length = d ∧ Bd 10 (intsOf h₁ v) ∧ _ = code 10 (intsOf h₁ v)
      rw [e2]
      exact ⟨t', l, b, rfl⟩
    · have e' : some o = some (seqObj "list" its.toArray 0) := e.symm.trans ha
      cases e'
      intro c
      exact absurd (Value.type.inj c) (by decide)
  · obtain ⟨r3, x3⟩ := EX.of (P := X.prog) (w := X.w) (H := H) (h := s.heap) (out := out) fun v hv => e2 v (hb2.perm.mem_iff.mp hv)
    obtain ⟨n, hn⟩ := sortedAll_at s.heap its out.toArray
    have hlen : out.length = its.length := hb2.len
    have so : SoT H ls (out.map backV) (out.map (intsOf s.heap)) := by
      refine ⟨SrtO.srtd_map hs, ?_, x3, by rw [List.length_map, hlen, ← e1, List.length_map]⟩
      rw [← e1]
      exact SrtO.Stb.map ltL_swo (intsOf s.heap) hb2
    refine ⟨.ref _, upd H (s.heap.objs.size + 1) (.lst (out.map backV)), I.laid (t' := s.toks) (fun b o e => sortedAll_old e) (Nat.le_succ _) ⟨?_, out, n, r3, hn⟩, rfl, q _ _ _ so (I.hok.fresh (Nat.le_succ _))⟩
    rw [List.length_map, hlen, ← rv.length]
    exact hz
end RH
set_option Elab.async false
set_option linter.all false
set_option maxRecDepth 100000
set_option maxHeartbeats 2000000
namespace RH
open PySem PySem.Spec PyProof.Rows L2
open SrtO (Swo Srtd Stb SortableO Cmp lt2)
open TS (TupInts intsOf code Bd lex_ints firsts_of)
theorem KB.ex {H : Hp} : ∀ {as : List (List Int × V)} {bs : List Addr}, KB H as bs → EX H (bs.map V.ref) (as.map Prod.fst)
  | _, _, .nil => .nil
  | _, _, .cons g t => .cons g t.ex
theorem XS.adr : ∀ {as : List (List Int × V)} {bs : List Addr} {xs : List (List L2.Key × Addr × Value)}, XS as bs xs → xs.map (fun x => x.2.1) = bs
  | _, _, _, .nil => rfl
  | _, _, _, .cons _ t => by rw [List.map_cons, t.adr]
theorem vals_refs : ∀ bs : List Addr, Vals (bs.map V.ref) (bs.map Value.ref)
  | [] => .nil
  | b :: bs => .cons rfl (vals_refs bs)
/-- the keys, as they are walked -/
theorem keys_walked {P : Program} {w : World} {as : List (List Int × V)} {bs : List Addr} {xs : List (List L2.Key × Addr × Value)} {es : Array DictEntry} {acc : Array Value} (hx : XS as bs xs) (he : es.toList = xs.map (entryOfKey (tupleKind (mixKind P w))))
    (it : ItemsOf (fun i v => ∃ hi : i < es.size, v = es[i].key) acc es.size) : acc.toList = bs.map Value.ref := by
  have l1 : es.size = xs.length := size_of_entries he
  rw [← hx.adr, List.map_map]
  refine List.ext_getElem? fun j => ?_
  rw [List.getElem?_map]
  have hl : acc.toList.length = xs.length := by rw [Array.length_toList, it.1]; exact l1
  by_cases hj : j < xs.length
  · have h1 : acc.toList[j]? = some acc.toList[j] := List.getElem?_eq_getElem (by omega)
    have h2 : xs[j]? = some xs[j] := List.getElem?_eq_getElem hj
    obtain ⟨hi, hv'⟩ := it.2 j _ (by rw [← Array.getElem?_toList]; exact h1)
    rw [h1, h2, hv']
    have h3 : es.toList[j]? = some es[j] := by rw [Array.getElem?_toList]; exact Array.getElem?_eq_getElem hi
    rw [he, List.getElem?_map, h2] at h3
    rw [← Option.some.inj h3]
    rfl
  · rw [List.getElem?_eq_none (by omega), List.getElem?_eq_none (by omega)]
    rfl
theorem XS.blen : ∀ {as : List (List Int × V)} {bs : List Addr} {xs : List (List L2.Key × Addr × Value)}, XS as bs xs → bs.length = as.length
  | _, _, _, .nil => rfl
  | _, _, _, .cons _ t => congrArg (· + 1) t.blen
/-- list(d) -/
def rListE (P : Program) (w : World) : List V → Hp → VK → Prop := fun xs H Q => ∃ (d : Addr) (as : List (List Int × V)) (bs : List Addr), xs = [.ref d] ∧ H d = some (DE P w as bs d) ∧ ∀ l, H l = none → Q (.ref l) (upd H l (.lst (bs.map V.ref)))
theorem call_listE {X : Cx} (hc : X.calm = true) : CallR X (.type "list") (rListE X.prog X.w) := by
  intro pins s σ H xs us Q I r h
  obtain ⟨d, as, bs, rfl, hd, q⟩ := h
  obtain ⟨u, rfl, rx⟩ := r.one
  cases rx
  obtain ⟨hs, z, ks, hx, o, es, ep, ho, hxd, hdt, he, _⟩ := (show ObjOk X.prog X.w H s.heap d (DE X.prog X.w as bs d) from I.hok d _ hd).1
  have l1 : es.size = ks.length := size_of_entries he
  have l2 : ks.length = as.length := hx.len
  refine PySem.W.kdl_call (KdlSrc.rawDict (es := es) (ep := ep) hs) (I.ok.hd hc) ⟨o, ho, hxd, hdt⟩ (by omega) fun h' tk acc' c' kp e it => ?_
  have ea := keys_walked hx he it
  have rv : Vals (bs.map V.ref) acc'.toList := by rw [ea]; exact vals_refs bs
  refine ⟨.ref s.heap.objs.size, _, I.laid (t' := tk) (o := .lst (bs.map V.ref)) kp (Nat.le_refl _) ?_, rfl, q _ (I.hok.fresh (Nat.le_refl _))⟩
  exact ⟨by rw [List.length_map, hx.blen]; exact z, acc'.toList, c', rv, by rw [Array.toArray_toList]; exact e⟩
/-- sorted(d) -/
def rSortE (P : Program) (w : World) : List V → Hp → VK → Prop := fun vs H Q => ∃ (a : Addr) (as : List (List Int × V)) (bs : List Addr) (d : Nat), vs = [V.ref a] ∧ H a = some (DE P w as bs a) ∧ KB H as bs ∧ 1 ≤ d ∧ (∀ q ∈ as, q.1.length = d ∧ Bd 10 q.1) ∧
  ∀ ys ls' p, SoT H (as.map Prod.fst) ys ls' → H p = none → Q (.ref p) (upd H p (.lst ys))
theorem call_sortE {X : Cx} (hcalm : X.calm = true) : CallR X (.builtin "sorted") (rSortE X.prog X.w) := by
  intro pins s σ H vs us Q I r h
  obtain ⟨a, as, bs, d, rfl, ha, kb, hd, hb, q⟩ := h
  obtain ⟨u, rfl, ru⟩ := vals1 r
  obtain rfl : u = Value.ref a := ru
  obtain ⟨hs, z, ks, hx, o, es, ep, ho, hxd, hdt, he, _⟩ := (show ObjOk X.prog X.w H s.heap a (DE X.prog X.w as bs a) from I.hok a _ ha).1
  have l1 : es.size = ks.length := size_of_entries he
  have l2 : ks.length = as.length := hx.len
  refine Calls.call_function_entry PyProof.Rows.kind_sorted PyProof.Rows.plain_sorted PyProof.Rows.entry_sorted (PyProof.Rows.args_sorted1 _) ?_
  unfold Builtin.«sorted»
  refine wpAny_bind (m := checkCount "sorted" 1 1 _) (wpAny_pure ?_)
  refine wpAny_bind (PySem.W.kdu_collect (A := X.A.in1) (KdlSrc.rawDict (es := es) (ep := ep) hs) (I.ok.hd hcalm) ⟨o, ho, hxd, hdt⟩ (by omega) fun h' tk acc hk it => ?_)
  have ea := keys_walked hx he it
  have hex := kb.ex
  have hal : acc.toList.length = as.length := by rw [ea, List.length_map, hx.blen]
  have rv : Vals (bs.map V.ref) acc.toList := by rw [ea]; exact vals_refs bs
  have I1 : Inv X pins σ H { s with heap := h', toks := tk } := I.kept hk
  obtain ⟨e1, e2⟩ := hex.vals I1.hok rv
  refine wpAny_bind (wpAny_newList ?_ (by rw [hal]; exact z))
  have hoL : (h'.push (seqObj "list" acc.toList.toArray 0)).get? h'.objs.size = some (seqObj "list" acc.toList.toArray 0) := Heap.get?_push_size _ rfl
  show wpAny _ _ _ _ _ { s with heap := h'.push (seqObj "list" acc.toList.toArray 0), toks := tk }
  have hT : ∀ v ∈ acc.toList, TupInts (h'.push (seqObj "list" acc.toList.toArray 0)) v (intsOf (h'.push (seqObj "list" acc.toList.toArray 0)) v) ∧ (intsOf (h'.push (seqObj "list" acc.toList.toArray 0)) v).length = d ∧ Bd 10 (intsOf (h'.push (seqObj "list" acc.toList.toArray 0)) v) ∧ code 10 (intsOf h' v) = code 10 (intsOf (h'.push (seqObj "list" acc.toList.toArray 0)) v) := fun v hv => by
    obtain ⟨b, rfl, k⟩ := e2 v hv
    have hm : intsOf h' (.ref b) ∈ as.map Prod.fst := by rw [← e1]; exact List.mem_map.mpr ⟨_, hv, rfl⟩
    obtain ⟨qq, hq, eq⟩ := List.mem_map.mp hm
    have t := kx_ints I1.hok k
    have t' := t.keeps (h' := h'.push (seqObj "list" acc.toList.toArray 0)) fun b o e _ => Heap.get?_push_of_some _ e
    have e3 : intsOf (h'.push (seqObj "list" acc.toList.toArray 0)) (.ref b) = intsOf h' (.ref b) := t'.ints
    rw [e3, ← eq]
    rw [← eq] at t'
    exact ⟨t', (hb _ hq).1, (hb _ hq).2, rfl⟩
  refine wpAny_bind (wpAny_holding (wpAny_call_entry PyProof.Rows.slot_list_sort ⟨_, hoL, rfl⟩ PyProof.Rows.entry_list_sort
    (SrtO.list_sort_ord (s := { s with heap := h'.push (seqObj "list" acc.toList.toArray 0), toks := tk }) (swo_by fun v => code 10 (intsOf h' v)) hoL (by rw [hal]; exact z)
      (fun h2 => tups_sortable (s := { s with heap := h'.push (seqObj "list" acc.toList.toArray 0), toks := tk }) hd (by omega) hT fun o e => ?_) fun out g1 g2 => ⟨_, rfl, ?_⟩) (PyProof.Rows.args_list_sort _)))
  · have e' : some o = some (seqObj "list" acc.toList.toArray 0) := e.symm.trans hoL
    cases e'
    intro c
    exact absurd (Value.type.inj c) (by decide)
  obtain ⟨e', he'⟩ := PyProof.Rows.sortedHeap_at (vs := acc.toList) (out := out.toArray) hoL
  obtain ⟨r3, x3⟩ := EX.of (P := X.prog) (w := X.w) (H := H) (h := h') (out := out) fun v hv => e2 v (g2.perm.mem_iff.mp hv)
  have hlen : out.length = acc.toList.length := g2.len
  have so : SoT H (as.map Prod.fst) (out.map backV) (out.map (intsOf h')) := by
    refine ⟨SrtO.srtd_map g1, ?_, x3, by rw [List.length_map, hlen, ← e1, List.length_map]⟩
    rw [← e1]
    exact SrtO.Stb.map ltL_swo (intsOf h') g2
  refine wpAny_pure ⟨_, rfl, .ref h'.objs.size, upd H h'.objs.size (.lst (out.map backV)), I1.laid (t' := tk) (fun b u e => ?_) (Nat.le_refl _)
    (show ObjOk X.prog X.w _ _ _ (.lst (out.map backV)) from ⟨by rw [List.length_map, hlen, hal]; exact z, out, e', r3, he'⟩), rfl, q _ _ _ so (I1.hok.fresh (Nat.le_refl _))⟩
  have hb : b < h'.objs.size := Heap.lt_size e
  rw [PyProof.Rows.sortedHeap_old (Nat.ne_of_lt hb) (by rw [size_push']; exact Nat.lt_succ_of_lt hb)]
  exact Heap.get?_push_of_some _ e
/-! ### get, in, a new one, [..] = -/
def tDGet2E (P : Program) (w : World) (td ty tx : TE) : TE := fun σ H Q => td σ H fun x H1 => ∃ (a : Addr) (as : List (List Int × V)) (bs : List Addr), x = .ref a ∧ H1 a = some (DE P w as bs a) ∧ ty σ H1 fun y H2 => tx σ H2 fun z H3 => ∃ (b : Addr) (as : List (List Int × V)) (bs : List Addr) (s : List Int), y = .ref b ∧ H3 a = some (DE P w as bs a) ∧ KB H3 as bs ∧ KX H3 b s ∧
  (s ∈ as.map Prod.fst → ∀ v, (s, v) ∈ as → Q v H3) ∧ (s ∉ as.map Prod.fst → Q z H3)
def tDInE (P : Program) (w : World) (ty td : TE) : TE := fun σ H Q => ty σ H fun y H1 => td σ H1 fun x H2 => ∃ (a b : Addr) (as : List (List Int × V)) (bs : List Addr) (s : List Int), x = .ref a ∧ y = .ref b ∧ H2 a = some (DE P w as bs a) ∧ KB H2 as bs ∧ KX H2 b s ∧ Q (.bl (decide (s ∈ as.map Prod.fst))) H2
def tDNewE (P : Program) (w : World) : TE := fun _ H Q => ∀ p, H p = none → Q (.ref p) (upd H p (DE P w [] [] p))
def rSetE (P : Program) (w : World) : V → V → V → Hp → (Hp → Prop) → Prop := fun o i v H Q => ∃ (a b : Addr) (as : List (List Int × V)) (bs : List Addr) (s : List Int), o = .ref a ∧ i = .ref b ∧ H a = some (DE P w as bs a) ∧ KB H as bs ∧ KX H b s ∧ s ∉ as.map Prod.fst ∧ as.length < sizeLine ∧ Q (upd H a (DE P w (as ++ [(s, v)]) (bs ++ [b]) a))
section
variable {X : Cx} {o i e f : Expr} {pos apos cpos : Pos} {td ty tx : TE}
theorem pe_dget2E (hu : X.A.units + 1 < cLine) (ho : PE X o td) (he : PE X e ty) (hf : PE X f tx) (m : M2 X o "get" apos e f cpos) : PE X (.Call (.Attribute o "get" apos) [e, f] [] cpos) (tDGet2E X.prog X.w td ty tx) := by
  refine ⟨fun pins s σ H Q I h => ?_⟩
  refine wpAny_Call_method m.base m.few m.line PySem.F.plainAttrs_dict PySem.F.slot_dict_get PySem.F.type_dict_get (thn (ho.run pins s σ H _ I h) fun u s1 ⟨x, H1, I1, rx, a, as1, bs1, ex, d, q1⟩ => ?_)
  subst ex
  obtain rfl : u = Value.ref a := rx
  obtain ⟨t1, t2⟩ := de_typeIs I1 d
  refine ⟨t1, fun b eb => by cases eb; exact t2, ?_⟩
  rw [m.trees]
  refine Calls.callWith_builtin rfl (Calls.evalArgs_plain (Calls.spliced_cons (thn (he.run pins s1 σ H1 _ I1 q1) fun iv s2 ⟨y, H2, I2, ry, q2⟩ =>
    Calls.spliced_cons (thn (hf.run pins s2 σ H2 _ I2 q2) fun fv s3 ⟨z, H3, I3, rz, b, as, bs, st, ey, hd3, kb, eb, q3, q4⟩ => Calls.spliced_nil ?_))))
  subst ey
  obtain rfl : iv = Value.ref b := ry
  obtain ⟨hd, zz, xs, hx, dd⟩ := de_of I3 hd3 kb
  refine call_meetsIn PySem.F.slot_dict_get dd.typeIs PySem.F.entry_dict_get (PySem.F.args_dict_get_3 _ _ _) (meetsH_dict_get_default (tupleKind (mixKind X.prog X.w)) a b hd fv) ⟨tupleKind_room_in1 hu, keyOf st, xs, key_ofR I3.hok eb, dd, ?_⟩
  by_cases hm : st ∈ as.map Prod.fst
  · obtain ⟨v, p, h1, h2, h3⟩ := hx.yes hm
    rw [h1]
    exact ⟨v, H3, I3.tok _, h3, q3 hm v h2⟩
  · rw [hx.no hm]
    exact ⟨z, H3, I3.tok _, rz, q4 hm⟩
theorem pc_dinE (hu : X.A.units + 1 < cLine) (hi : PE X i ty) (ho : PE X o td) : PC X .In i o (tDInE X.prog X.w ty td) := by
  refine ⟨fun pins s σ H Q I h => ?_⟩
  refine thn (hi.run pins s σ H _ I h) fun iv s1 ⟨y, H1, I1, ry, q1⟩ => thn (ho.run pins s1 σ H1 _ I1 q1) fun u s2 ⟨x, H2, I2, rx, a, b, as, bs, st, ex, ey, e, kb, eb, q2⟩ => ?_
  subst ex ey
  obtain rfl : u = Value.ref a := rx
  obtain rfl : iv = Value.ref b := ry
  obtain ⟨hd, z, xs, hx, dd⟩ := de_of I2 e kb
  refine wpAny_in_heap (tupleKind_room_in1 hu) (key_ofR I2.hok eb) hd dd ⟨_, H2, I2.tok _, ?_, q2⟩
  by_cases hm : st ∈ as.map Prod.fst
  · obtain ⟨v, p, h1, _⟩ := hx.yes hm
    rw [h1, decide_eq_true hm]
    rfl
  · rw [hx.no hm, decide_eq_false hm]
    rfl
theorem pe_dnewE : PE X (.Dict [] [] pos) (tDNewE X.prog X.w) := ⟨fun pins s σ H Q I h =>
  wpAny_Dict_empty ⟨.ref s.heap.objs.size, _, I.laid (a := s.heap.objs.size) (o := DE X.prog X.w [] [] s.heap.objs.size) (t' := s.toks) (fun _ _ q => Heap.get?_push_of_some _ q) (Nat.le_refl _)
    (DE.ok (beq_eq_false_iff_ne.mpr (Ne.symm (Nat.ne_of_lt I.big))) (Nat.zero_le _) .nil (Heap.DictOfH.new s.heap)), rfl, h _ (I.hok.fresh (Nat.le_refl _))⟩⟩
theorem set_dE (hu : X.A.units + 1 < cLine) : PSet X (rSetE X.prog X.w) := by
  intro pins s σ H o i v ov iv u Q I ro ri rv h
  obtain ⟨a, b, as, bs, st, rfl, rfl, e, kb, eb, hn, hl, q⟩ := h
  obtain rfl : ov = Value.ref a := ro
  obtain rfl : iv = Value.ref b := ri
  obtain ⟨hd, z, xs, hx, dd⟩ := de_of I e kb
  refine wpAny_setItem_heap (hsz := by rw [hx.len]; exact z) (tupleKind_room_in1 hu) (key_ofR I.hok eb) dd fun h' dd' hs => ?_
  rw [storedH_new (hx.no hn)] at dd'
  have hq : ∃ q, h'.get? a = some q := let ⟨o, _, _, hq, _⟩ := dd'; ⟨o, hq⟩
  exact ⟨_, d_write I (by rw [e]; exact True.intro) hs hq (DE.ok hd (by rw [List.length_append]; exact hl) (hx.snoc (q := (st, v)) rv) dd'), q⟩
end
end RH
set_option Elab.async false
set_option linter.all false
set_option maxRecDepth 100000
set_option maxHeartbeats 2000000
namespace RH
open PySem PySem.Spec PyProof.Rows L2
def topS (i : Nat) : Stmt := PySem.Challenge.pw_restlesshelf_k01_whole_shelves.main.body.getD i (.Pass ⟨0, 0, 0, 0⟩)
abbrev st_is_integer : Stmt := topS 10
theorem sc_is_integer : FnScope ["value"] ["value"] (defScope st_is_integer) :=
  ⟨rfl, rfl, rfl, by decide +kernel, rfl, by decide +kernel, by decide +kernel⟩
abbrev st_is_number : Stmt := topS 11
theorem sc_is_number : FnScope ["value", "low", "high"] ["value", "low", "high"] (defScope st_is_number) :=
  ⟨rfl, rfl, rfl, by decide +kernel, rfl, by decide +kernel, by decide +kernel⟩
abbrev st_is_row : Stmt := topS 12
theorem sc_is_row : FnScope ["value", "low", "high"] ["value", "low", "high"] (defScope st_is_row) :=
  ⟨rfl, rfl, rfl, by decide +kernel, rfl, by decide +kernel, by decide +kernel⟩
abbrev st_is_place : Stmt := topS 13
theorem sc_is_place : FnScope ["value", "places"] ["value", "places"] (defScope st_is_place) :=
  ⟨rfl, rfl, rfl, by decide +kernel, rfl, by decide +kernel, by decide +kernel⟩
abbrev st_are_places : Stmt := topS 14
theorem sc_are_places : FnScope ["value", "places", "place"] ["value", "places"] (defScope st_are_places) :=
  ⟨rfl, rfl, rfl, by decide +kernel, rfl, by decide +kernel, by decide +kernel⟩
abbrev st_is_layout : Stmt := topS 15
theorem sc_is_layout : FnScope ["value", "places"] ["value", "places"] (defScope st_is_layout) :=
  ⟨rfl, rfl, rfl, by decide +kernel, rfl, by decide +kernel, by decide +kernel⟩
abbrev st_is_word : Stmt := topS 16
theorem sc_is_word : FnScope ["value", "places"] ["value", "places"] (defScope st_is_word) :=
  ⟨rfl, rfl, rfl, by decide +kernel, rfl, by decide +kernel, by decide +kernel⟩
abbrev st_check_habit : Stmt := topS 17
theorem sc_check_habit : FnScope ["habit", "place", "moves"] ["habit"] (defScope st_check_habit) :=
  ⟨rfl, rfl, rfl, by decide +kernel, rfl, by decide +kernel, by decide +kernel⟩
abbrev st_check_layout : Stmt := topS 18
theorem sc_check_layout : FnScope ["layout", "places"] ["layout", "places"] (defScope st_check_layout) :=
  ⟨rfl, rfl, rfl, by decide +kernel, rfl, by decide +kernel, by decide +kernel⟩
abbrev st_check_place : Stmt := topS 19
theorem sc_check_place : FnScope ["place", "places"] ["place", "places"] (defScope st_check_place) :=
  ⟨rfl, rfl, rfl, by decide +kernel, rfl, by decide +kernel, by decide +kernel⟩
abbrev st_check_word : Stmt := topS 20
theorem sc_check_word : FnScope ["word", "places"] ["word", "places"] (defScope st_check_word) :=
  ⟨rfl, rfl, rfl, by decide +kernel, rfl, by decide +kernel, by decide +kernel⟩
abbrev st_places_of_habit : Stmt := topS 23
theorem sc_places_of_habit : FnScope ["habit"] ["habit"] (defScope st_places_of_habit) :=
  ⟨rfl, rfl, rfl, by decide +kernel, rfl, by decide +kernel, by decide +kernel⟩
abbrev st_move : Stmt := topS 24
theorem sc_move : FnScope ["habit", "layout", "place", "moves", "stood"] ["habit", "layout", "place"] (defScope st_move) :=
  ⟨rfl, rfl, rfl, by decide +kernel, rfl, by decide +kernel, by decide +kernel⟩
abbrev st_move_along : Stmt := topS 25
theorem sc_move_along : FnScope ["habit", "layout", "word", "place"] ["habit", "layout", "word"] (defScope st_move_along) :=
  ⟨rfl, rfl, rfl, by decide +kernel, rfl, by decide +kernel, by decide +kernel⟩
abbrev st_depths : Stmt := topS 26
theorem sc_depths : FnScope ["start", "touches", "step", "most", "found", "level", "further", "state", "place", "new"] ["start", "touches", "step", "most"] (defScope st_depths) :=
  ⟨rfl, rfl, rfl, by decide +kernel, rfl, by decide +kernel, by decide +kernel⟩
abbrev st_traced : Stmt := topS 27
theorem sc_traced : FnScope ["came", "state", "word", "place"] ["came", "state"] (defScope st_traced) :=
  ⟨rfl, rfl, rfl, by decide +kernel, rfl, by decide +kernel, by decide +kernel⟩
abbrev st_least_word : Stmt := topS 28
theorem sc_least_word : FnScope ["start", "touches", "step", "is_goal", "came", "level", "further", "state", "place", "new"] ["start", "touches", "step", "is_goal"] (defScope st_least_word) :=
  ⟨rfl, rfl, rfl, by decide +kernel, rfl, by decide +kernel, by decide +kernel⟩
abbrev st_layout_depths : Stmt := topS 29
theorem sc_layout_depths : FnScope ["habit", "layout"] ["habit", "layout"] (defScope st_layout_depths) :=
  ⟨rfl, rfl, rfl, by decide +kernel, rfl, by decide +kernel, by decide +kernel⟩
abbrev st_word_to_layout : Stmt := topS 30
theorem sc_word_to_layout : FnScope ["habit", "one", "other"] ["habit", "one", "other"] (defScope st_word_to_layout) :=
  ⟨rfl, rfl, rfl, by decide +kernel, rfl, by decide +kernel, by decide +kernel⟩
abbrev st_touched : Stmt := topS 32
theorem sc_touched : FnScope ["habit", "layout", "place"] ["habit", "layout", "place"] (defScope st_touched) :=
  ⟨rfl, rfl, rfl, by decide +kernel, rfl, by decide +kernel, by decide +kernel⟩
abbrev st_after : Stmt := topS 33
theorem sc_after : FnScope ["habit", "layout", "word"] ["habit", "layout", "word"] (defScope st_after) :=
  ⟨rfl, rfl, rfl, by decide +kernel, rfl, by decide +kernel, by decide +kernel⟩
abbrev st_can_come : Stmt := topS 34
theorem sc_can_come : FnScope ["habit", "layout"] ["habit", "layout"] (defScope st_can_come) :=
  ⟨rfl, rfl, rfl, by decide +kernel, rfl, by decide +kernel, by decide +kernel⟩
abbrev st_word_between : Stmt := topS 35
theorem sc_word_between : FnScope ["habit", "one", "other"] ["habit", "one", "other"] (defScope st_word_between) :=
  ⟨rfl, rfl, rfl, by decide +kernel, rfl, by decide +kernel, by decide +kernel⟩
abbrev st_distance : Stmt := topS 36
theorem sc_distance : FnScope ["habit", "one", "other", "word"] ["habit", "one", "other"] (defScope st_distance) :=
  ⟨rfl, rfl, rfl, by decide +kernel, rfl, by decide +kernel, by decide +kernel⟩
abbrev st_farthest : Stmt := topS 37
theorem sc_farthest : FnScope ["habit", "layout"] ["habit", "layout"] (defScope st_farthest) :=
  ⟨rfl, rfl, rfl, by decide +kernel, rfl, by decide +kernel, by decide +kernel⟩
abbrev st_order : Stmt := topS 38
theorem sc_order : FnScope ["habit"] ["habit"] (defScope st_order) :=
  ⟨rfl, rfl, rfl, by decide +kernel, rfl, by decide +kernel, by decide +kernel⟩
abbrev st__law_taken : Stmt := topS 40
theorem sc__law_taken : FnScope ["row", "many", "found", "cell"] ["row", "many"] (defScope st__law_taken) :=
  ⟨rfl, rfl, rfl, by decide +kernel, rfl, by decide +kernel, by decide +kernel⟩
abbrev st__law_order : Stmt := topS 41
theorem sc__law_order : FnScope ["row", "many", "left", "found"] ["row", "many"] (defScope st__law_order) :=
  ⟨rfl, rfl, rfl, by decide +kernel, rfl, by decide +kernel, by decide +kernel⟩
abbrev st__law_habit : Stmt := topS 42
theorem sc__law_habit : FnScope ["row", "places", "way", "found", "place", "moved", "other", "spot"] ["row", "places"] (defScope st__law_habit) :=
  ⟨rfl, rfl, rfl, by decide +kernel, rfl, by decide +kernel, by decide +kernel⟩
abbrev st__law_alike : Stmt := topS 43
theorem sc__law_alike : FnScope ["found", "due", "k"] ["found", "due"] (defScope st__law_alike) :=
  ⟨rfl, rfl, rfl, by decide +kernel, rfl, by decide +kernel, by decide +kernel⟩
abbrev st__law_touch : Stmt := topS 44
theorem sc__law_touch : FnScope ["habit", "layout", "place", "spot"] ["habit", "layout", "place"] (defScope st__law_touch) :=
  ⟨rfl, rfl, rfl, by decide +kernel, rfl, by decide +kernel, by decide +kernel⟩
abbrev st__law_near : Stmt := topS 45
theorem sc__law_near : FnScope ["habit", "layout", "found", "far", "grown", "one", "place", "other"] ["habit", "layout"] (defScope st__law_near) :=
  ⟨rfl, rfl, rfl, by decide +kernel, rfl, by decide +kernel, by decide +kernel⟩
abbrev st__law_pick : Stmt := topS 46
theorem sc__law_pick : FnScope ["row", "things"] ["row", "things"] (defScope st__law_pick) :=
  ⟨rfl, rfl, rfl, by decide +kernel, rfl, by decide +kernel, by decide +kernel⟩
abbrev st__law_least_word : Stmt := topS 47
theorem sc__law_least_word : FnScope ["habit", "layout", "other", "many", "last", "turn", "longer", "seen", "one", "word", "place", "spot"] ["habit", "layout", "other", "many"] (defScope st__law_least_word) :=
  ⟨rfl, rfl, rfl, by decide +kernel, rfl, by decide +kernel, by decide +kernel⟩
abbrev st_law : Stmt := topS 48
theorem sc_law : FnScope ["script", "row", "places", "habit", "layout", "word", "here", "place", "near", "turn", "other", "found", "whole"] ["script"] (defScope st_law) :=
  ⟨rfl, rfl, rfl, by decide +kernel, rfl, by decide +kernel, by decide +kernel⟩
/-! ### what the top has written -/
/-- the def x of the text stands in the module under its name -/
structure Df (K : PySem.W.Frag) (mg : Str → Option Value) (x : Str) (st : Stmt) (ps : List Str) : Prop where
  ex : ∃ (f : Addr) (fd : FuncData), Fun K x x st f fd ∧ mg x = some (.ref f) ∧ Binds K fd ps []
/-- names of the interpreter that the module leaves alone -/
structure Bu (mg : Str → Option Value) : Prop where
  isi : mg "isinstance" = none
  int : mg "int" = none
  bool : mg "bool" = none
  str : mg "str" = none
  tuple : mg "tuple" = none
  list : mg "list" = none
  len : mg "len" = none
  all : mg "all" = none
  zip : mg "zip" = none
  range : mg "range" = none
  sorted : mg "sorted" = none
  enumerate : mg "enumerate" = none
  max : mg "max" = none
section
variable {P : Program} {w : World} {K : PySem.W.Frag} {mg : Str → Option Value} {base : Heap}
/-- a def that may be called by its name -/
structure Cal (P : Program) (w : World) (K : PySem.W.Frag) (mg : Str → Option Value) (base : Heap) (k : Nat) (x : Str) (sp : Sp) : Prop where
  ex : ∃ (f : Addr) (fd : FuncData) (ps : List Str), FnOk P w K mg base CX0 k f fd ps sp ∧ mg x = some (.ref f) ∧ PySem.W.keepIn K (.ref f) = true ∧ Binds K fd ps []
theorem mkCal {x : Str} {st : Stmt} {N ps : List Str} {k : Nat} {sp : Sp} (F : Df K mg x st ps) (S : FnScope N ps (defScope st)) (len : ∀ vs H Q E, sp vs H Q E → vs.length = ps.length)
    (hbody : ∀ (f : Addr) (cdv : Value) (A : Around) (outer : List Env) (s : Shared) (H : Hp) (vs : List V) (Q : VK) (E : XK), Room k (A.deeper (envOfC x (defScope st) s.heap.objs.size f cdv)) → sp vs H Q E →
      ∃ t, PSs (cxOf CX0 P w K mg base N x (defScope st) f cdv A outer s H E).nox (defBody st) t ∧ t { nx := fun _ H' => Q .non H', rt := Q } (start N vs) H) : Cal P w K mg base (k + 1) x sp := by
  obtain ⟨f, fd, F, g, b⟩ := F.ex
  exact ⟨f, fd, ps, F.ok S len (hbody f), g, F.kp, b⟩
theorem Cal.imp {k : Nat} {x : Str} {sp sp' : Sp} (c : Cal P w K mg base k x sp) (h : ∀ vs H Q E, sp' vs H Q E → sp vs H Q E) : Cal P w K mg base k x sp' := by
  obtain ⟨f, fd, ps, F, g, kp, b⟩ := c.ex
  exact ⟨f, fd, ps, F.imp h, g, kp, b⟩
end
theorem pc {X : Cx} {k j : Nat} {x : Str} {sp : Sp} {p pos : Pos} {e : Expr} {es : List Expr} {t : TA} (c : Cal X.prog X.w X.K X.mg X.base k x sp) (hr : Room j X.A) (ha : PA X (e :: es) t) (hk : k ≤ j := by decide) (hg : Gl X x := by rfl)
    (hdb : (x == ("__debug__" : Str)) = false := by decide) (he : starEach (e :: es) X.env = (false, eval e X.env) :: starEach es X.env := by rfl) (hpl : (backTo pos (starEach es X.env)).any (·.1) = false := by rfl) :
    PE X (.Call (.Name x p) (e :: es) [] pos) (tCall sp [] E0 t) := by
  obtain ⟨f, fd, ps, F, hm, kp, b⟩ := c.ex
  exact pe_call F (hr.mono hk) hg hm kp b .nil pass0 ha hdb he hpl
/-- a statement that is never come to -/
theorem ps_no {X : Cx} {st : Stmt} : PS X st (fun _ _ _ => False) := ⟨fun _ _ _ _ _ _ h => h.elim⟩
/-! ### heaps, tuples of ints, and of such -/
theorem same_new {H : Hp} {p : Addr} {o : HO} (h : H p = none) : Same H (upd H p o) := fun b x e => by
  rw [upd_ne (ne_of_none e h)]
  exact e
theorem seqT {K : PySem.W.Frag} {H H' : Hp} {a : Addr} {xs : List V} (e : ∀ o, H a = some o → H' a = some o) (h : SqT K H a xs) : SqT K H' a xs := by
  rcases h with (h | ⟨o, h⟩) | h
  · exact .inl (.inl (e _ h))
  · exact .inl (.inr ⟨o, e _ h⟩)
  · exact .inr h
theorem onT {K : PySem.W.Frag} {H H' : Hp} {a : Addr} {xs : List V} (e : Same H H') (h : SqT K H a xs) : SqT K H' a xs := seqT (fun o => e a o) h
theorem tupAt {K : PySem.W.Frag} {H : Hp} {a : Addr} {xs : List V} (h : H a = some (.tup xs)) : SqT K H a xs := .inl (.inl h)
theorem lstAt {K : PySem.W.Frag} {H : Hp} {a : Addr} {xs : List V} (h : H a = some (.lst xs)) : SqL K H a xs := .inl (.inl h)
/-- a tuple's type -/
theorem ty_tup {K : PySem.W.Frag} {H : Hp} {a : Addr} {xs : List V} (h : SqT K H a xs) : TyX K H (.ref a) (.type "tuple") := by
  rcases h with (h | ⟨o, h⟩) | ⟨o, its, n, h, c, _⟩
  · exact .base (.tup h)
  · exact .fTuple h
  · exact .kTuple h c
/-- each by each -/
inductive Each {α : Type} (R : V → α → Prop) : List V → List α → Prop
  | nil : Each R [] []
  | cons {v : V} {d : α} {vs : List V} {ds : List α} : R v d → Each R vs ds → Each R (v :: vs) (d :: ds)
theorem Each.len {α : Type} {R : V → α → Prop} : ∀ {vs : List V} {ds : List α}, Each R vs ds → vs.length = ds.length
  | _, _, .nil => rfl
  | _, _, .cons _ t => congrArg (· + 1) t.len
theorem Each.imp {α : Type} {R R' : V → α → Prop} (f : ∀ v d, R v d → R' v d) : ∀ {vs : List V} {ds : List α}, Each R vs ds → Each R' vs ds
  | _, _, .nil => .nil
  | _, _, .cons h t => .cons (f _ _ h) (t.imp f)
theorem Each.at {α : Type} {R : V → α → Prop} : ∀ {vs : List V} {ds : List α} {i : Nat} {v : V}, Each R vs ds → vs[i]? = some v → ∃ d, ds[i]? = some d ∧ R v d
  | _, _, _, _, .nil, e => by simp at e
  | _, _, 0, _, .cons h _, e => by
    have e' := Option.some.inj e
    subst e'
    exact ⟨_, rfl, h⟩
  | _, _, i + 1, _, .cons _ t, e => t.at (i := i) e
theorem Each.of {α : Type} {R : V → α → Prop} : ∀ {vs : List V} {ds : List α} {i : Nat} {d : α}, Each R vs ds → ds[i]? = some d → ∃ v, vs[i]? = some v ∧ R v d
  | _, _, _, _, .nil, e => by simp at e
  | _, _, 0, _, .cons h _, e => by
    have e' := Option.some.inj e
    subst e'
    exact ⟨_, rfl, h⟩
  | _, _, i + 1, _, .cons _ t, e => t.of (i := i) e
theorem Each.snoc {α : Type} {R : V → α → Prop} {v : V} {d : α} (h : R v d) : ∀ {vs : List V} {ds : List α}, Each R vs ds → Each R (vs ++ [v]) (ds ++ [d])
  | _, _, .nil => .cons h .nil
  | _, _, .cons g t => .cons g (t.snoc h)
/-- a tuple of ints -/
def TI (K : PySem.W.Frag) (H : Hp) (v : V) (ns : List Int) : Prop := ∃ a, v = .ref a ∧ SqT K H a (ns.map V.int)
/-- a tuple of such -/
def TII (K : PySem.W.Frag) (H : Hp) (v : V) (nss : List (List Int)) : Prop := ∃ a vs, v = .ref a ∧ SqT K H a vs ∧ Each (TI K H) vs nss
def THs (K : PySem.W.Frag) (H : Hp) (v : V) (hs : List (List (List Int))) : Prop := ∃ a vs, v = .ref a ∧ SqT K H a vs ∧ Each (TII K H) vs hs
/-- all tuples stand -/
def Tups (K : PySem.W.Frag) (H H' : Hp) : Prop := ∀ a xs, SqT K H a xs → SqT K H' a xs
theorem Same.tups {K : PySem.W.Frag} {H H' : Hp} (e : Same H H') : Tups K H H' := fun _ _ h => onT e h
theorem TI.on {K : PySem.W.Frag} {H H' : Hp} {v : V} {ns : List Int} (e : Tups K H H') (h : TI K H v ns) : TI K H' v ns := let ⟨a, h1, h2⟩ := h; ⟨a, h1, e _ _ h2⟩
theorem TII.on {K : PySem.W.Frag} {H H' : Hp} {v : V} {nss : List (List Int)} (e : Tups K H H') (h : TII K H v nss) : TII K H' v nss := let ⟨a, vs, h1, h2, h3⟩ := h; ⟨a, vs, h1, e _ _ h2, h3.imp fun _ _ z => z.on e⟩
theorem THs.on {K : PySem.W.Frag} {H H' : Hp} {v : V} {hs : List (List (List Int))} (e : Tups K H H') (h : THs K H v hs) : THs K H' v hs := let ⟨a, vs, h1, h2, h3⟩ := h; ⟨a, vs, h1, e _ _ h2, h3.imp fun _ _ z => z.on e⟩
theorem map_at {ns : List Int} {i : Nat} {x : V} (h : (ns.map V.int)[i]? = some x) : ∃ n, ns[i]? = some n ∧ x = .int n := by
  rw [List.getElem?_map] at h
  cases e : ns[i]? with
  | none =>
    rw [e] at h
    cases h
  | some n =>
    rw [e] at h
    exact ⟨n, rfl, (Option.some.inj h).symm⟩
theorem at_map {ns : List Int} {i : Nat} {n : Int} (h : ns[i]? = some n) : (ns.map V.int)[i]? = some (.int n) := by
  rw [List.getElem?_map, h]
  rfl
theorem all_snoc {α : Type} (f : α → Bool) {l : List α} {i : Nat} {x : α} (h : l[i]? = some x) : (l.take (i + 1)).map f = (l.take i).map f ++ [f x] := by
  rw [List.take_add_one, h, List.map_append]
  rfl
/-! ### lists of ints, compared -/
theorem dpAll_ints {K : PySem.W.Frag} {H : Hp} : ∀ ns : List Int, DpAll K H (ns.map V.int) (ns.map PyData.int)
  | [] => .nil
  | n :: ns => .cons (.int n) (dpAll_ints ns)
theorem dp_lst {K : PySem.W.Frag} {H : Hp} {a : Addr} {ns : List Int} (h : SqL K H a (ns.map V.int)) : Dp K H (.ref a) (.list (ns.map PyData.int)) := .lst h (dpAll_ints ns)
theorem dp_tup {K : PySem.W.Frag} {H : Hp} {a : Addr} {ns : List Int} (h : SqT K H a (ns.map V.int)) : Dp K H (.ref a) (.tuple (ns.map PyData.int)) := .tup h (dpAll_ints ns)
theorem eqv_lst (ns ms : List Int) : PyData.eqv (.list (ns.map PyData.int)) (.list (ms.map PyData.int)) = decide (ns = ms) := by
  rw [PyData.eqv]
  exact PySem.W.ked_eqvAll ns ms
def rg (n : Nat) : List Int := (List.range n).map fun i : Nat => (i : Int)
theorem rgV_rg (n : Nat) : rgV 0 (n : Int) = (rg n).map V.int := by
  unfold rgV rg
  rw [List.map_map, Int.sub_zero, Int.toNat_natCast]
  refine List.map_congr_left fun i _ => ?_
  show V.int (0 + (i : Int)) = V.int (i : Int)
  rw [Int.zero_add]
theorem rg_len (n : Nat) : (rg n).length = n := by
  unfold rg
  rw [List.length_map, List.length_range]
theorem rg_mem {n : Nat} {x : Int} : x ∈ rg n ↔ 0 ≤ x ∧ x < n := by
  unfold rg
  rw [List.mem_map]
  constructor
  · rintro ⟨i, h, rfl⟩
    have := List.mem_range.mp h
    omega
  · rintro ⟨h1, h2⟩
    exact ⟨x.toNat, List.mem_range.mpr (by omega), by omega⟩
theorem rg_at {n i : Nat} (h : i < n) : (rg n)[i]? = some (i : Int) := by
  unfold rg
  rw [List.getElem?_map, List.getElem?_range h]
  rfl
/-! ### walks over enumerate and zip of tuples -/
section
variable {K : PySem.W.Frag} {a b : Addr} {xs ys : List V}
theorem for_enumT {g : TG} {tb : TS} {D : Ends} {σ : L2.St} {H : Hp} (Pv : Nat → L2.St → Hp → Prop) (h0 : Pv 0 σ H) (hl : ∀ i σ H, Pv i σ H → SqT K H a xs)
    (hs : ∀ i x T σ H, xs[i]? = some x → Pv i σ H → H T = none → g (.ref T) σ (upd H T (.tup [.int (i : Nat), x])) fun σ2 H2 => tb { D with nx := Pv (i + 1), ct := Pv (i + 1), bk := D.nx } σ2 H2) (hd : ∀ σ H, Pv xs.length σ H → D.nx σ H) :
    ∃ W : Nat → Nat → L2.St → Hp → Prop, (∃ m, W 0 m σ H) ∧ ∀ i m σ H, W i m σ H →
      ((IteT K a).stop i H ∧ D.nx σ H) ∨ ((IteT K a).go i H ∧ ∃ N : L2.St → Hp → Prop, (∀ σ' H', N σ' H' → ∃ m', m' < m ∧ W (i + 1) m' σ' H') ∧ ∀ x H', (IteT K a).yld i H x H' → g x σ H' fun σ2 H2 => tb { D with nx := N, ct := N, bk := D.nx } σ2 H2) := by
  refine ⟨fun i m σ H => m = xs.length - i ∧ i ≤ xs.length ∧ Pv i σ H, ⟨xs.length, rfl, Nat.zero_le _, h0⟩, ?_⟩
  rintro i m σ H ⟨rfl, hi, p⟩
  have q := hl i σ H p
  by_cases hlt : i < xs.length
  · have hx : xs[i]? = some xs[i] := List.getElem?_eq_getElem hlt
    refine .inr ⟨⟨xs, _, q, hx⟩, Pv (i + 1), fun σ' H' p' => ⟨xs.length - (i + 1), by omega, rfl, hlt, p'⟩, fun v H' y => ?_⟩
    obtain ⟨T, x', rfl, hT, rfl, f1⟩ := y
    exact hs i x' T σ H (f1 xs q) p hT
  · have e : i = xs.length := by omega
    subst e
    exact .inl ⟨⟨xs, q, Nat.le_refl _⟩, hd σ H p⟩
end
end RH
set_option Elab.async false
set_option linter.all false
set_option maxRecDepth 100000
set_option maxHeartbeats 2000000
namespace RH
open PySem PySem.Spec PyProof.Rows L2
/-! ### the checks -/
section
variable {P : Program} {w : World} {K : PySem.W.Frag} {mg : Str → Option Value} {base : Heap}
/-- an int alone: its kind -/
def spIsInteger : Sp := fun vs H Q _ => ∃ i : Int, vs = [.int i] ∧ Q (.bl true) H
theorem ok_is_integer (F : Df K mg "is_integer" st_is_integer ["value"]) (B : Bu mg) : Cal P w K mg base 1 "is_integer" spIsInteger := by
  refine mkCal F sc_is_integer (fun vs H Q E h => ?_) (fun f cdv A outer s H vs Q E hr h => ?_)
  · obtain ⟨i, rfl, _⟩ := h
    rfl
  · obtain ⟨i, rfl, q⟩ := h
    refine ⟨_, pss_one (ps_ret (pe_and (pe_callB call_isi (by rfl) B.isi (by decide +kernel) (pa_cons (pv 0) (pa_cons (pe_bltn (v := .ty "int") (by rfl) B.int (by decide +kernel) rfl) pa_nil)))
      (pe_one (pe_not (pe_callB call_isi (by rfl) B.isi (by decide +kernel) (pa_cons (pv 0) (pa_cons (pe_bltn (v := .ty "bool") (by rfl) B.bool (by decide +kernel) rfl) pa_nil))))))), ?_⟩
    exact ⟨_, rfl, .int i, .ty "int", _, _, true, rfl, .ty "int", .base (.int i), kit_ty (by decide +kernel), true, rfl,
      _, rfl, .int i, .ty "bool", _, _, false, rfl, .ty "bool", .base (.int i), kit_ty (by decide +kernel), false, rfl, q⟩
def spIsNumber : Sp := fun vs H Q _ => ∃ i lo hi : Int, vs = [.int i, .int lo, .int hi] ∧ Q (.bl (decide (lo ≤ i) && decide (i ≤ hi))) H
theorem ok_is_number (F : Df K mg "is_number" st_is_number ["value", "low", "high"]) (C1 : Cal P w K mg base 1 "is_integer" spIsInteger) : Cal P w K mg base 2 "is_number" spIsNumber := by
  refine mkCal F sc_is_number (fun vs H Q E h => ?_) (fun f cdv A outer s H vs Q E hr h => ?_)
  · obtain ⟨i, lo, hi, rfl, _⟩ := h
    rfl
  · obtain ⟨i, lo, hi, rfl, q⟩ := h
    refine ⟨_, pss_one (ps_ret (pe_and (pc C1 hr (pa_cons (pv 0) pa_nil)) (pe_one (pe_chain op_le op_le (pv 1) (pv 0) (pv 2))))), ?_⟩
    refine ⟨_, rfl, i, rfl, true, rfl, _, rfl, _, rfl, lo, i, rfl, rfl, _, rfl, ite2 (fun e => ?_) (fun e => ?_)⟩
    · refine ⟨_, rfl, i, hi, rfl, rfl, ?_⟩
      rw [e, Bool.true_and] at q
      exact q
    · have e' : decide (lo ≤ i) = false := by simpa using e
      rw [e', Bool.false_and] at q
      exact q
end
end RH
set_option Elab.async false
set_option linter.all false
set_option maxRecDepth 100000
set_option maxHeartbeats 2000000
namespace RH
open PySem PySem.Spec PyProof.Rows L2
section
variable {P : Program} {w : World} {K : PySem.W.Frag} {mg : Str → Option Value} {base : Heap}
def spIsRow (K : PySem.W.Frag) : Sp := fun vs H Q _ => ∃ (a : Addr) (xs : List V) (lo hi : Int), vs = [.ref a, .int lo, .int hi] ∧ SqT K H a xs ∧ Q (.bl (decide (lo ≤ (xs.length : Int)) && decide ((xs.length : Int) ≤ hi))) H
theorem ok_is_row (F : Df K mg "is_row" st_is_row ["value", "low", "high"]) (B : Bu mg) : Cal P w K mg base 1 "is_row" (spIsRow K) := by
  refine mkCal F sc_is_row (fun vs H Q E h => ?_) (fun f cdv A outer s H vs Q E hr h => ?_)
  · obtain ⟨a, xs, lo, hi, rfl, _⟩ := h
    rfl
  · obtain ⟨a, xs, lo, hi, rfl, hS, q⟩ := h
    refine ⟨_, pss_one (ps_ret (pe_and (pe_callB call_isi (by rfl) B.isi (by decide +kernel) (pa_cons (pv 0) (pa_cons (pe_bltn (v := .ty "tuple") (by rfl) B.tuple (by decide +kernel) rfl) pa_nil)))
      (pe_one (pe_chain op_le op_le (pv 1) (pe_callB call_len_seq (by rfl) B.len PySem.boot_len (pa_cons (pv 0) pa_nil)) (pv 2))))), ?_⟩
    refine ⟨_, rfl, .ref a, .ty "tuple", _, _, true, rfl, .ty "tuple", ty_tup hS, kit_ty (by decide +kernel), true, rfl, _, rfl, _, rfl, a, xs, rfl, .inr hS, lo, (xs.length : Int), rfl, rfl, _, rfl, ite2 (fun e => ?_) (fun e => ?_)⟩
    · refine ⟨_, rfl, _, hi, rfl, rfl, ?_⟩
      rw [e, Bool.true_and] at q
      exact q
    · have e' : decide (lo ≤ (xs.length : Int)) = false := by simpa using e
      rw [e', Bool.false_and] at q
      exact q
def spIsPlace : Sp := fun vs H Q _ => ∃ i p : Int, vs = [.int i, .int p] ∧ Q (.bl (decide (0 ≤ i) && decide (i ≤ p - 1))) H
theorem ok_is_place (F : Df K mg "is_place" st_is_place ["value", "places"]) (C2 : Cal P w K mg base 2 "is_number" spIsNumber) : Cal P w K mg base 3 "is_place" spIsPlace := by
  refine mkCal F sc_is_place (fun vs H Q E h => ?_) (fun f cdv A outer s H vs Q E hr h => ?_)
  · obtain ⟨i, p, rfl, _⟩ := h
    rfl
  · obtain ⟨i, p, rfl, q⟩ := h
    refine ⟨_, pss_one (ps_ret (pc C2 hr (pa_cons (pv 0) (pa_cons pe_int (pa_cons (pe_op op_sub (pv 1) pe_int) pa_nil))))), ?_⟩
    exact ⟨_, rfl, _, rfl, p, 1, rfl, rfl, i, 0, p - 1, rfl, q⟩
/-- all are places -/
def inP (p : Int) (ns : List Int) : Bool := ns.all fun i => decide (0 ≤ i) && decide (i ≤ p - 1)
def spArePlaces (K : PySem.W.Frag) : Sp := fun vs H Q _ => ∃ (v : V) (ns : List Int) (p : Int), vs = [v, .int p] ∧ TI K H v ns ∧ ns.length ≤ 1000 ∧ ∀ H', Same H H' → Q (.bl (inP p ns)) H'
theorem ok_are_places (F : Df K mg "are_places" st_are_places ["value", "places"]) (B : Bu mg) (C3 : Cal P w K mg base 3 "is_place" spIsPlace) : Cal P w K mg base 4 "are_places" (spArePlaces K) := by
  refine mkCal F sc_are_places (fun vs H Q E h => ?_) (fun f cdv A outer s H vs Q E hr h => ?_)
  · obtain ⟨v, ns, p, rfl, _⟩ := h
    rfl
  · obtain ⟨v, ns, p, rfl, ⟨a, rfl, hS⟩, hlen, q⟩ := h
    refine ⟨_, pss_one (ps_ret (pe_and (pe_callB call_isi (by rfl) B.isi (by decide +kernel) (pa_cons (pv 0) (pa_cons (pe_bltn (v := .ty "tuple") (by rfl) B.tuple (by decide +kernel) rfl) pa_nil)))
      (pe_one (pe_callB (cr_all rfl) (by rfl) B.all (by decide +kernel) (pa_cons (pe_lc (own := [("place", 2)]) (g := gName 2) (tt := tYes) rfl sc_are_places.nd (pi_tup (pv 0)) (blkOk_by (N := ["value", "places", "place"]) (sc := defScope st_are_places) (by decide +kernel))
        (fun _ _ _ _ _ => pg_name (i := 2) sc_are_places.nd rfl (Or.inl rfl)) (fun _ _ _ _ _ => pts_nil) (fun _ _ _ _ _ => pc C3 hr (pa_cons (pv 2) (pa_cons (pv 1) pa_nil)))) pa_nil))))), ?_⟩
    refine ⟨_, rfl, .ref a, .ty "tuple", _, _, true, rfl, .ty "tuple", ty_tup hS, kit_ty (by decide +kernel), true, rfl, ?_⟩
    refine ⟨_, rfl, a, rfl, ⟨_, hS⟩, fun D hD => ?_⟩
    refine lc_tup (xs := ns.map V.int) (fun i H' => Same H H' ∧ H' D = some (.lst (((ns.take i).map fun i => decide (0 ≤ i) && decide (i ≤ p - 1)).map V.bl))) ⟨same_new hD, upd_same⟩ (fun i H' _ h' => onT h'.1 hS) (fun i x H' hx h' => ?_) (fun H' h' => ?_)
    · obtain ⟨n, hn, rfl⟩ := map_at hx
      obtain ⟨sm, eD⟩ := h'
      refine ⟨rfl, _, rfl, _, rfl, n, p, rfl, _, eD, ?_, ?_, ?_⟩
      · rw [List.length_map, List.length_map, List.length_take]
        exact small1000 (by omega)
      · intro b o e
        rw [upd_ne (ne_of_none e hD)]
        exact sm b o e
      · rw [upd_same, all_snoc _ hn, List.map_append]
        rfl
    · obtain ⟨sm, eD⟩ := h'
      rw [List.length_map, List.take_length] at eD
      refine ⟨D, _, rfl, lstAt eD, ?_⟩
      have e : ((ns.map fun i => decide (0 ≤ i) && decide (i ≤ p - 1)).all id) = inP p ns := by
        unfold inP
        rw [List.all_map]
        rfl
      rw [e]
      exact q H' sm
end
end RH
set_option Elab.async false
set_option linter.all false
set_option maxRecDepth 100000
set_option maxHeartbeats 2000000
namespace RH
open PySem PySem.Spec PyProof.Rows L2
/-! ### slices and constants -/
theorem cut_from (xs : List V) (k : Nat) : cutV xs (some (k : Int)) none = xs.drop k := by
  unfold cutV
  rw [HT.sIx_nat, HT.sIx_none]
  rcases Nat.le_total k xs.length with h | h
  · rw [Nat.min_eq_left h]
    exact List.take_of_length_le (by rw [List.length_drop]; exact Nat.le_refl _)
  · rw [Nat.min_eq_right h, Nat.sub_self, List.take_zero, List.drop_eq_nil_of_le h]
theorem cut_to (xs : List V) (k : Nat) : cutV xs none (some (k : Int)) = xs.take k := by
  unfold cutV
  rw [HT.sIx_nat, HT.sIx_none, List.drop_zero, Nat.sub_zero]
  rcases Nat.le_total k xs.length with h | h
  · rw [Nat.min_eq_left h]
  · rw [Nat.min_eq_right h, List.take_length, List.take_of_length_le h]
/-- a number that the module keeps -/
theorem pk {X : Cx} {x : Str} {i : Int} {pos : Pos} (h : ∃ t, X.mg x = some (.int i t)) (hg : Gl X x := by rfl) (hn : x ≠ "__name__" := by decide) (hd : (x == ("__debug__" : Str)) = false := by decide) : PE X (.Name x pos) (tC (.int i)) := by
  obtain ⟨t, h⟩ := h
  exact pe_glob (v := .int i) hg h ⟨_, rfl⟩ hd
/-! ### rules within a comprehension: the written part is told -/
def rLenK (K : PySem.W.Frag) : List V → Hp → VK → Prop := fun xs H Q => ∃ p ys, xs = [.ref p] ∧ (SqL K H p ys ∨ SqT K H p ys) ∧ Q (.int ys.length) H
theorem cl_len {X : Cx} (K : PySem.W.Frag) (h : X.K = K := by rfl) : CallR X (.builtin "len") (rLenK K) := by
  subst h
  exact call_len_seq
theorem ixT {X : Cx} (K : PySem.W.Frag) (h : X.K = K := by rfl) : IxR X (rIxT K) := by
  subst h
  exact ix_tup
/-! ### rising, a layout, a habit -/
def isLay (p : Nat) (ns : List Int) : Bool := ns.isPerm (rg p)
def isHab (nss : List (List Int)) : Bool := decide (2 ≤ nss.length) && decide (nss.length ≤ 5) && nss.all (isLay nss.length)
theorem inP_of {p : Nat} {ns : List Int} (h : ns.Perm (rg p)) : inP p ns = true := by
  unfold inP
  rw [List.all_eq_true]
  intro i hi
  have := rg_mem.mp (h.mem_iff.mp hi)
  rw [Bool.and_eq_true]
  exact ⟨decide_eq_true (by omega), decide_eq_true (by omega)⟩
theorem rg_le (p : Nat) : (rg p).Pairwise (· ≤ ·) := by
  unfold rg
  rw [List.pairwise_map]
  exact (List.pairwise_lt_range (n := p)).imp fun h => by omega
section
variable {P : Program} {w : World} {K : PySem.W.Frag} {mg : Str → Option Value} {base : Heap}
def spIsLayout (K : PySem.W.Frag) : Sp := fun vs H Q _ => ∃ (v : V) (ns : List Int) (p : Nat), vs = [v, .int p] ∧ TI K H v ns ∧ ns.length < 64 ∧ p ≤ 1000 ∧ ∀ H', Same H H' → Q (.bl (isLay p ns)) H'
theorem ok_is_layout (F : Df K mg "is_layout" st_is_layout ["value", "places"]) (B : Bu mg) (C4 : Cal P w K mg base 4 "are_places" (spArePlaces K)) : Cal P w K mg base 5 "is_layout" (spIsLayout K) := by
  refine mkCal F sc_is_layout (fun vs H Q E h => ?_) (fun f cdv A outer s H vs Q E hr h => ?_)
  · obtain ⟨v, ns, p, rfl, _⟩ := h
    rfl
  · obtain ⟨v, ns, p, rfl, ⟨a, rfl, hS⟩, hlen, hp, q⟩ := h
    refine ⟨_, pss_one (ps_ret (pe_and (pc C4 hr (pa_cons (pv 0) (pa_cons (pv 1) pa_nil)))
      (pe_one (pe_cmpR (op_eqD hr.units) (pe_callB cr_sortedTup (by rfl) B.sorted (by decide +kernel) (pa_cons (pv 0) pa_nil)) (pe_listRg rfl (by rfl) B.list (prg_1 (by rfl) B.range (pv 1))) (nomark _))))), ?_⟩
    refine ⟨_, rfl, _, rfl, .ref a, ns, p, rfl, ⟨a, rfl, hS⟩, by omega, fun H1 sm1 => ⟨_, rfl, ite2 (fun e => ?_) (fun e => ?_)⟩⟩
    · refine ⟨_, rfl, a, ns, rfl, onT sm1 hS, hlen, fun ns' pL hpm hpw nL => ⟨_, rfl, (p : Int), rfl, ⟨by omega, by omega, by omega, by omega, by omega⟩, fun q' nq => ?_⟩⟩
      have nqp : pL ≠ q' := ne_of_none upd_same nq
      refine ⟨_, _, dp_lst (ns := ns') (lstAt ?_), dp_lst (ns := rg p) (lstAt ?_), PySem.W.ke_shaped_ints _, PySem.W.ke_shaped_ints _, ?_⟩
      · rw [upd_ne nqp, upd_same]
      · rw [upd_same, rgV_rg]
      · have e2 : PyData.eqv (.list (ns'.map PyData.int)) (.list ((rg p).map PyData.int)) = isLay p ns := by
          rw [eqv_lst, Bool.eq_iff_iff, decide_eq_true_iff]
          unfold isLay
          rw [List.isPerm_iff]
          constructor
          · intro z
            rw [← z]
            exact hpm.symm
          · intro z
            exact PySem.W.ksm_same (hpm.trans z) hpw (rg_le p)
        rw [e2]
        exact q _ (sm1.trans ((same_new nL).trans (same_new nq)))
    · have e2 : isLay p ns = false := by
        cases z : isLay p ns with
        | false => rfl
        | true => exact absurd (inP_of (List.isPerm_iff.mp z)) e
      have e3 : inP (p : Int) ns = false := by simpa using e
      rw [e2] at q
      exact q _ sm1
end
end RH
set_option Elab.async false
set_option linter.all false
set_option maxRecDepth 100000
set_option maxHeartbeats 2000000
namespace RH
open PySem PySem.Spec PyProof.Rows L2
/-! ### the mathematics of marks -/
theorem ifT {c : Bool} {A B : Prop} (hc : c = true) (h : A) : if c = true then A else B := by
  rw [if_pos hc]
  exact h
theorem ifF {c : Bool} {A B : Prop} (hc : c = false) (h : B) : if c = true then A else B := by
  rw [hc, if_neg Bool.false_ne_true]
  exact h
/-- a habit of n places -/
structure Hb (n : Nat) (h : List (List Int)) : Prop where
  len : h.length = n
  perm : ∀ ns ∈ h, ns.Perm (rg n)
  lo : 2 ≤ n
  hi : n ≤ 5
theorem Hb.is {n : Nat} {h : List (List Int)} (q : Hb n h) : isHab h = true := by
  unfold isHab
  simp only [Bool.and_eq_true, decide_eq_true_eq, List.all_eq_true]
  refine ⟨⟨by have := q.len; have := q.lo; omega, by have := q.len; have := q.hi; omega⟩, fun ns hm => ?_⟩
  unfold isLay
  rw [q.len, List.isPerm_iff]
  exact q.perm ns hm
theorem Hb.short {n : Nat} {h : List (List Int)} (q : Hb n h) {ns : List Int} (hm : ns ∈ h) : ns.length = n := by
  rw [(q.perm ns hm).length_eq, rg_len]
def mv (h : List (List Int)) (t s : Int) : Int := (h.getD t.toNat []).getD s.toNat 0
theorem Hb.at {n : Nat} {h : List (List Int)} (q : Hb n h) {t s : Int} (t0 : 0 ≤ t) (t1 : t < n) (s0 : 0 ≤ s) (s1 : s < n) :
    ∃ ns, h[t.toNat]? = some ns ∧ ns[s.toNat]? = some (mv h t s) ∧ 0 ≤ mv h t s ∧ mv h t s < n := by
  have h1 : t.toNat < h.length := by rw [q.len]; omega
  have e1 : h[t.toNat]? = some h[t.toNat] := List.getElem?_eq_getElem h1
  have hm : h[t.toNat] ∈ h := List.getElem_mem h1
  have h2 : s.toNat < h[t.toNat].length := by rw [q.short hm]; omega
  have e2 : h[t.toNat][s.toNat]? = some h[t.toNat][s.toNat] := List.getElem?_eq_getElem h2
  have e4 : h.getD t.toNat [] = h[t.toNat] := by
    rw [List.getD_eq_getElem?_getD, e1]
    rfl
  have e3 : mv h t s = h[t.toNat][s.toNat] := by
    unfold mv
    rw [e4, List.getD_eq_getElem?_getD, e2]
    rfl
  have h4 := rg_mem.mp ((q.perm _ hm).mem_iff.mp (List.getElem_mem h2))
  rw [← e3] at h4
  exact ⟨_, e1, by rw [e3]; exact e2, h4⟩
def InR (n : Nat) (i : Int) : Prop := 0 ≤ i ∧ i < n
theorem take_more {α : Type} {l : List α} {i : Nat} {x : α} (h : l[i]? = some x) : l.take (i + 1) = l.take i ++ [x] := by
  rw [List.take_add_one, h]
  rfl
/-- an item of an int's place -/
theorem at_int {α : Type} {xs : List α} {z : Int} {v : α} (h0 : 0 ≤ z) (h : xs[z.toNat]? = some v) : atI xs z = some v := by
  have e : z = ((z.toNat : Nat) : Int) := by omega
  rw [e]
  exact atI_nat h
section
variable {P : Program} {w : World} {K : PySem.W.Frag} {mg : Str → Option Value} {base : Heap}
theorem inP_in {p : Nat} {ns : List Int} (h : ∀ i ∈ ns, InR p i) : inP p ns = true := by
  unfold inP
  rw [List.all_eq_true]
  intro i hi
  obtain ⟨h1, h2⟩ := h i hi
  rw [Bool.and_eq_true]
  exact ⟨decide_eq_true h1, decide_eq_true (by omega)⟩
end
end RH
set_option Elab.async false
set_option linter.all false
set_option maxRecDepth 100000
set_option maxHeartbeats 2000000
namespace RH
open PySem PySem.Spec PyProof.Rows L2
theorem ix2 {K : PySem.W.Frag} {H : Hp} {xs : List V} {h : List (List Int)} {n : Nat} (hE : Each (TI K H) xs h) (q : Hb n h) {t s : Int} (ht : InR n t) (hs : InR n s) :
    ∃ (a' : Addr) (ns : List Int), atI xs t = some (.ref a') ∧ SqT K H a' (ns.map V.int) ∧ atI (ns.map V.int) s = some (.int (mv h t s)) := by
  obtain ⟨ns, e1, e2, _⟩ := q.at ht.1 ht.2 hs.1 hs.2
  obtain ⟨v, e3, a', rfl, hS⟩ := hE.of e1
  exact ⟨a', ns, at_int ht.1 e3, hS, at_int hs.1 (at_map e2)⟩
theorem V_int (a b : Int) : decide (V.int a = V.int b) = decide (a = b) := by
  rw [Bool.eq_iff_iff, decide_eq_true_iff, decide_eq_true_iff]
  exact ⟨fun h => V.int.inj h, fun h => by rw [h]⟩
end RH
set_option Elab.async false
set_option linter.all false
set_option maxRecDepth 100000
set_option maxHeartbeats 2000000
namespace RH
open PySem PySem.Spec PyProof.Rows L2
/-! ### the law's own row of draws -/
/-- all but what stands at p is as it was -/
def But (p : Addr) (H H' : Hp) : Prop := ∀ b o, H b = some o → b ≠ p → H' b = some o
theorem But.refl (p : Addr) (H : Hp) : But p H H := fun _ _ e _ => e
theorem But.trans {p : Addr} {H H1 H2 : Hp} (a : But p H H1) (b : But p H1 H2) : But p H H2 := fun c o e n => b c o (a c o e n) n
theorem But.same {p : Addr} {H H1 : Hp} (a : Same H H1) : But p H H1 := fun c o e _ => a c o e
theorem But.upd {p : Addr} {H H1 : Hp} {o : HO} (a : But p H H1) : But p H (upd H1 p o) := fun c u e n => by
  rw [upd_ne n]
  exact a c u e n
/-- all that is no list is as it was -/
def Fix (H H' : Hp) : Prop := ∀ b o, H b = some o → (∀ xs, o ≠ .lst xs) → H' b = some o
theorem Fix.refl (H : Hp) : Fix H H := fun _ _ e _ => e
theorem Fix.trans {H H1 H2 : Hp} (a : Fix H H1) (b : Fix H1 H2) : Fix H H2 := fun c o e n => b c o (a c o e n) n
theorem Fix.same {H H1 : Hp} (a : Same H H1) : Fix H H1 := fun c o e _ => a c o e
theorem Fix.lst {H : Hp} {p : Addr} {xs : List V} {o : HO} (h : H p = some (.lst xs)) : Fix H (L2.upd H p o) := fun b u e n => by
  by_cases z : b = p
  · subst z
    rw [h] at e
    cases e
    exact absurd rfl (n _)
  · rw [upd_ne z]
    exact e
theorem Fix.tups {K : PySem.W.Frag} {H H' : Hp} (b : Fix H H') : Tups K H H' := fun a xs hS => by
  rcases hS with (hS | ⟨u, hS⟩) | hS
  · exact .inl (.inl (b _ _ hS (fun _ z => nomatch z)))
  · exact .inl (.inr ⟨u, b _ _ hS (fun _ z => nomatch z)⟩)
  · exact .inr hS
theorem But.fix {H H' : Hp} {p : Addr} {xs : List V} (h : H p = some (.lst xs)) (b : But p H H') : Fix H H' := fun c o e n => b c o e fun z => by
  subst z
  rw [h] at e
  cases e
  exact n _ rfl
/-- a list that never changes -/
def Fz (K : PySem.W.Frag) (H : Hp) (a : Addr) (xs : List V) : Prop := (∃ o, H a = some (.frz o (.lst xs))) ∨ ∀ H', SqL K H' a xs
theorem Fz.seq {K : PySem.W.Frag} {H : Hp} {a : Addr} {xs : List V} (h : Fz K H a xs) : SqL K H a xs := by
  rcases h with ⟨o, h⟩ | h
  · exact .inl (.inr ⟨o, h⟩)
  · exact h H
theorem Fz.on {K : PySem.W.Frag} {H H' : Hp} {a : Addr} {xs : List V} (f : Fix H H') (h : Fz K H a xs) : Fz K H' a xs := by
  rcases h with ⟨o, h⟩ | h
  · exact .inl ⟨o, f _ _ h (fun _ z => nomatch z)⟩
  · exact .inr h
theorem Fz.of {K : PySem.W.Frag} {H : Hp} {a : Addr} {xs : List V} (o : Only H) (h : SqL K H a xs) : Fz K H a xs := by
  rcases h with (h | h) | h
  · rcases o a with e | ⟨u, ys, e⟩
    · rw [e] at h
      cases h
    · rw [e] at h
      cases h
  · exact .inl h
  · exact .inr fun H' => .inr h
/-- row: the script, how many of it are taken, the running number, what is left of a great one -/
structure RowA (K : PySem.W.Frag) (H : Hp) (p a : Addr) (ns : List Int) (i r c : Int) : Prop where
  at_ : H p = some (.lst [.ref a, .int i, .int r, .int c])
  fz : Fz K H a (ns.map V.int)
  pos : 0 ≤ i
theorem RowA.scr {K : PySem.W.Frag} {H : Hp} {p a : Addr} {ns : List Int} {i r c : Int} (h : RowA K H p a ns i r c) : SqL K H a (ns.map V.int) := h.fz.seq
def Row (K : PySem.W.Frag) (H : Hp) (p : Addr) : Prop := ∃ a ns i r c, RowA K H p a ns i r c
theorem RowA.put {K : PySem.W.Frag} {H : Hp} {p a : Addr} {ns : List Int} {i r c i' r' c' : Int} (h : RowA K H p a ns i r c) (hi : 0 ≤ i') :
    RowA K (upd H p (.lst [.ref a, .int i', .int r', .int c'])) p a ns i' r' c' :=
  ⟨upd_same, h.fz.on (Fix.lst h.at_), hi⟩
theorem RowA.row {K : PySem.W.Frag} {H : Hp} {p a : Addr} {ns : List Int} {i r c : Int} (h : RowA K H p a ns i r c) : Row K H p := ⟨_, _, _, _, _, h⟩
theorem Row.lst {K : PySem.W.Frag} {H : Hp} {p : Addr} (h : Row K H p) : ∃ xs, H p = some (.lst xs) := by
  obtain ⟨a, ns, i, r, c, h⟩ := h
  exact ⟨_, h.at_⟩
theorem Row.fix {K : PySem.W.Frag} {H H' : Hp} {p : Addr} (h : Row K H p) (b : But p H H') : Fix H H' := by
  obtain ⟨xs, e⟩ := h.lst
  exact But.fix e b
theorem Row.on {K : PySem.W.Frag} {H H' : Hp} {p : Addr} (h : Row K H p) (f : Fix H H') (e : H' p = H p) : Row K H' p := by
  obtain ⟨a, ns, i, r, c, h⟩ := h
  exact ⟨a, ns, i, r, c, e.trans h.at_, h.fz.on f, h.pos⟩
theorem Row.same {K : PySem.W.Frag} {H H' : Hp} {p : Addr} (h : Row K H p) (s : Same H H') : Row K H' p := by
  obtain ⟨xs, e⟩ := h.lst
  exact h.on (Fix.same s) ((s _ _ e).trans e.symm)
/-- another list is written -/
theorem Row.lst_upd {K : PySem.W.Frag} {H : Hp} {p q : Addr} {xs : List V} {o : HO} (h : Row K H p) (e : H q = some (.lst xs)) (n : p ≠ q) : Row K (upd H q o) p := h.on (Fix.lst e) (upd_ne n)
/-- a new object -/
theorem Row.new {K : PySem.W.Frag} {H : Hp} {p q : Addr} {o : HO} (h : Row K H p) (e : H q = none) : Row K (upd H q o) p := h.same (same_new e)
theorem Row.ne {K : PySem.W.Frag} {H : Hp} {p q : Addr} (h : Row K H p) (e : H q = none) : p ≠ q := by
  obtain ⟨xs, e'⟩ := h.lst
  exact ne_of_none e' e
section
variable {P : Program} {w : World} {K : PySem.W.Frag} {mg : Str → Option Value} {base : Heap}
def spTaken (K : PySem.W.Frag) : Sp := fun vs H Q _ => ∃ (p : Addr) (m : Int), vs = [.ref p, .int m] ∧ Row K H p ∧ 0 < m ∧ m < 1048576 ∧ ∀ k H', 0 ≤ k → k < m → But p H H' → Row K H' p → Q (.int k) H'
theorem ok_taken (F : Df K mg "_law_taken" st__law_taken ["row", "many"]) (B : Bu mg) : Cal P w K mg base 1 "_law_taken" (spTaken K) := by
  refine mkCal F sc__law_taken (fun vs H Q E h => ?_) (fun f cdv A outer s H vs Q E hr h => ?_)
  · obtain ⟨p, m, rfl, _⟩ := h
    rfl
  · obtain ⟨p, m, rfl, ⟨a, ns, i, r, c, hR⟩, m0, m1, q⟩ := h
    refine ⟨_, pss_cons (ps_if (pt_cmpR op_gt (pe_ix ix_list (pv 0) pe_int (fun _ _ => rfl)) pe_int (nomark _))
        (pss_cons (ps_set (i := 2) sc__law_taken.nd rfl (.inl rfl) (pe_op op_mod (pe_callTy call_int1 (by rfl) B.int (by decide +kernel) (pa_cons (pe_ix ix_list (pv 0) pe_int (fun _ _ => rfl)) pa_nil)) (pv 1)))
        (pss_cons (ps_asg (pe_op op_fdiv (pe_ix ix_list (pv 0) pe_int (fun _ _ => rfl)) (pv 1)) (pg_sub (pv 0) pe_int set_list))
        (pss_one (ps_ret (pv 2))))) pss_nil)
      (pss_cons (ps_asg (pe_op op_add (pe_ix ix_list (pv 0) pe_int (fun _ _ => rfl)) pe_int) (pg_sub (pv 0) pe_int set_list))
      (pss_cons (ps_if (pt_cmpR op_gt (pe_ix ix_list (pv 0) pe_int (fun _ _ => rfl)) (pe_callB (cl_len K) (by rfl) B.len PySem.boot_len (pa_cons (pe_ix ix_list (pv 0) pe_int (fun _ _ => rfl)) pa_nil)) (nomark _))
        (pss_cons (ps_asg (pe_op op_mod (pe_callTy call_int1 (by rfl) B.int (by decide +kernel) (pa_cons (pe_op op_add (pe_op op_mul (pe_ix ix_list (pv 0) pe_int (fun _ _ => rfl)) pe_int) pe_int) pa_nil)) pe_int) (pg_sub (pv 0) pe_int set_list))
        (pss_one (ps_ret (pe_op op_mod (pe_callTy call_int1 (by rfl) B.int (by decide +kernel) (pa_cons (pe_op op_fdiv (pe_ix ix_list (pv 0) pe_int (fun _ _ => rfl)) pe_int) pa_nil)) (pv 1))))) pss_nil)
      (pss_cons (ps_set (i := 3) sc__law_taken.nd rfl (.inl rfl) (pe_ix ix_list (pe_ix ix_list (pv 0) pe_int (fun _ _ => rfl)) (pe_op op_sub (pe_ix ix_list (pv 0) pe_int (fun _ _ => rfl)) pe_int) (fun _ _ => rfl)))
      (pss_cons (ps_asg (pe_op op_mod (pe_callTy call_int1 (by rfl) B.int (by decide +kernel) (pa_cons (pe_op op_add (pe_op op_add (pe_op op_mul (pe_ix ix_list (pv 0) pe_int (fun _ _ => rfl)) pe_int) (pv 3)) pe_int) pa_nil)) pe_int) (pg_sub (pv 0) pe_int set_list))
      (pss_cons (ps_if (pt_cmpR op_ge (pv 3) (pe_op op_pow pe_int pe_int) (nomark _))
        (pss_one (ps_asg (pe_op op_fdiv (pv 3) (pv 1)) (pg_sub (pv 0) pe_int set_list))) pss_nil)
      (pss_one (ps_ret (pe_op op_mod (pe_callTy call_int1 (by rfl) B.int (by decide +kernel) (pa_cons (pv 3) pa_nil)) (pv 1))))))))), ?_⟩
    have L := hR.at_
    refine ⟨_, rfl, p, _, 3, .int c, rfl, rfl, lstAt L, rfl, c, 0, rfl, rfl, _, rfl, ite2 (fun e => ?_) (fun e => ?_)⟩
    · refine ⟨_, rfl, p, _, 3, .int c, rfl, rfl, lstAt L, rfl, .inl ⟨c, rfl, _, rfl, c, m, rfl, rfl, m0, ?_⟩⟩
      refine ⟨_, rfl, p, _, 3, .int c, rfl, rfl, lstAt L, rfl, _, rfl, c, m, rfl, rfl, ⟨m0, by omega⟩, _, rfl, p, _, 3, 3, rfl, rfl, L, rfl, ?_⟩
      exact ⟨_, rfl, q (c % m) _ (Int.emod_nonneg _ (by omega)) (Int.emod_lt_of_pos _ m0) (But.upd (But.refl p H)) (hR.put hR.pos).row⟩
    · refine ⟨_, rfl, p, _, 1, .int i, rfl, rfl, lstAt L, rfl, i, 1, rfl, rfl, _, rfl, p, _, 1, 1, rfl, rfl, L, rfl, ?_⟩
      have R1 : RowA K (upd H p (.lst [.ref a, .int (i + 1), .int r, .int c])) p a ns (i + 1) r c := hR.put (by have := hR.pos; omega)
      have L1 := R1.at_
      refine ⟨_, rfl, p, _, 1, .int (i + 1), rfl, rfl, lstAt L1, rfl, _, rfl, p, _, 0, .ref a, rfl, rfl, lstAt L1, rfl, a, _, rfl, .inl R1.scr, _, _, rfl, rfl, _, rfl, ite2 (fun e1 => ?_) (fun e1 => ?_)⟩
      · refine ⟨_, rfl, p, _, 2, .int r, rfl, rfl, lstAt L1, rfl, r, 48271, rfl, rfl, .inr ⟨by decide, by decide⟩, _, 11, rfl, rfl, .inl ⟨_, rfl, _, _, rfl, rfl, (by show (0 : Int) < 2147483647; decide), _, rfl, p, _, 2, 2, rfl, rfl, L1, rfl, ?_⟩⟩
        have R2 : RowA K (upd (upd H p (.lst [.ref a, .int (i + 1), .int r, .int c])) p (.lst [.ref a, .int (i + 1), .int ((r * 48271 + 11) % 2147483647), .int c])) p a ns (i + 1) ((r * 48271 + 11) % 2147483647) c := R1.put R1.pos
        refine ⟨_, rfl, p, _, 2, _, rfl, rfl, lstAt R2.at_, rfl, _, 7, rfl, rfl, ⟨by decide, by decide⟩, .inl ⟨_, rfl, _, rfl, _, m, rfl, rfl, m0, ?_⟩⟩
        exact q _ _ (Int.emod_nonneg _ (by omega)) (Int.emod_lt_of_pos _ m0) (But.upd (But.upd (But.refl p H))) R2.row
      · have hi : i < (ns.length : Int) := by
          rw [List.length_map] at e1
          have e9 : i + 1 ≤ (ns.length : Int) := by simpa using e1
          omega
        have hi0 := hR.pos
        obtain ⟨z, hz⟩ : ∃ z, ns[i.toNat]? = some z := ⟨ns[i.toNat]'(by omega), List.getElem?_eq_getElem (by omega)⟩
        refine ⟨_, rfl, p, _, 0, .ref a, rfl, rfl, lstAt L1, rfl, _, rfl, p, _, 1, .int (i + 1), rfl, rfl, lstAt L1, rfl, _, 1, rfl, rfl, a, _, i + 1 - 1, .int z, rfl, rfl, R1.scr, at_int (by omega) (at_map (by rw [show (i + 1 - 1).toNat = i.toNat by omega]; exact hz)), ?_⟩
        refine ⟨_, rfl, p, _, 2, .int r, rfl, rfl, lstAt L1, rfl, r, 48271, rfl, rfl, .inr ⟨by decide, by decide⟩, _, rfl, _, z, rfl, rfl, _, 11, rfl, rfl, .inl ⟨_, rfl, _, _, rfl, rfl, (by show (0 : Int) < 2147483647; decide), _, rfl, p, _, 2, 2, rfl, rfl, L1, rfl, ?_⟩⟩
        have R2 : RowA K (upd (upd H p (.lst [.ref a, .int (i + 1), .int r, .int c])) p (.lst [.ref a, .int (i + 1), .int ((r * 48271 + z + 11) % 2147483647), .int c])) p a ns (i + 1) ((r * 48271 + z + 11) % 2147483647) c := R1.put R1.pos
        refine ⟨_, rfl, 10, 18, rfl, rfl, ⟨by decide, by decide, by decide⟩, z, _, rfl, rfl, _, rfl, ite2 (fun e2 => ?_) (fun e2 => ?_)⟩
        · refine ⟨_, rfl, _, rfl, z, m, rfl, rfl, ⟨m0, by omega⟩, _, rfl, p, _, 3, 3, rfl, rfl, R2.at_, rfl, ?_⟩
          refine ⟨_, rfl, .inl ⟨z, rfl, _, rfl, z, m, rfl, rfl, m0, ?_⟩⟩
          exact q _ _ (Int.emod_nonneg _ (by omega)) (Int.emod_lt_of_pos _ m0) (But.upd (But.upd (But.upd (But.refl p H)))) (R2.put R2.pos).row
        · refine ⟨_, rfl, .inl ⟨z, rfl, _, rfl, z, m, rfl, rfl, m0, ?_⟩⟩
          exact q _ _ (Int.emod_nonneg _ (by omega)) (Int.emod_lt_of_pos _ m0) (But.upd (But.upd (But.refl p H))) R2.row
end
end RH
set_option Elab.async false
set_option linter.all false
set_option maxRecDepth 100000
set_option maxHeartbeats 2000000
namespace RH
open PySem PySem.Spec PyProof.Rows L2
theorem ix_nat {n : Nat} {k : Int} (h0 : 0 ≤ k) (h1 : k < n) : seqIndex? k n = some k.toNat := by
  unfold seqIndex?
  have e : (if k < 0 then k + (n : Int) else k) = k := if_neg (by omega)
  simp only [e]
  rw [if_pos]
  simp [h0, h1]
theorem But.fresh {p l : Addr} {H H1 : Hp} {o : HO} (a : But p H H1) (e : H l = none) : But p H (L2.upd H1 l o) := fun c u h n => by
  rw [upd_ne (ne_of_none h e)]
  exact a c u h n
theorem map_erase (ns : List Int) (k : Nat) : (ns.map V.int).eraseIdx k = (ns.eraseIdx k).map V.int := by
  induction ns generalizing k with
  | nil => rfl
  | cons n ns ih =>
    cases k with
    | zero => rfl
    | succ k =>
      show V.int n :: (ns.map V.int).eraseIdx k = V.int n :: (ns.eraseIdx k).map V.int
      rw [ih]
theorem perm_erase : ∀ {ls : List Int} {k : Nat} {y : Int}, ls[k]? = some y → ls.Perm (y :: ls.eraseIdx k)
  | [], k, y, h => by simp at h
  | a :: ls, 0, y, h => by
    have e : a = y := Option.some.inj h
    subst e
    exact List.Perm.refl _
  | a :: ls, k + 1, y, h => by
    have ih := perm_erase (ls := ls) (k := k) (y := y) h
    exact (ih.cons a).trans (List.Perm.swap ..)
section
variable {P : Program} {w : World} {K : PySem.W.Frag} {mg : Str → Option Value} {base : Heap}
def spPick (K : PySem.W.Frag) : Sp := fun vs H Q _ => ∃ (p l : Addr) (xs : List V), vs = [.ref p, .ref l] ∧ Row K H p ∧ H l = some (.lst xs) ∧ l ≠ p ∧ 0 < xs.length ∧ xs.length ≤ 1000 ∧
  ∀ (i : Nat) x H', xs[i]? = some x → But p H H' → Row K H' p → Q x H'
theorem ok_pick (F : Df K mg "_law_pick" st__law_pick ["row", "things"]) (B : Bu mg) (CT : Cal P w K mg base 1 "_law_taken" (spTaken K)) : Cal P w K mg base 2 "_law_pick" (spPick K) := by
  refine mkCal F sc__law_pick (fun vs H Q E h => ?_) (fun f cdv A outer s H vs Q E hr h => ?_)
  · obtain ⟨p, l, xs, rfl, _⟩ := h
    rfl
  · obtain ⟨p, l, xs, rfl, hR, hl, hlp, l0, l1, q⟩ := h
    refine ⟨_, pss_one (ps_ret (pe_ix ix_list (pv 1) (pc CT hr (pa_cons (pv 0) (pa_cons (pe_callB (cl_len K) (by rfl) B.len PySem.boot_len (pa_cons (pv 1) pa_nil)) pa_nil))) (fun _ _ => rfl))), ?_⟩
    refine ⟨_, rfl, _, rfl, _, rfl, l, xs, rfl, .inl (lstAt hl), p, xs.length, rfl, hR, by omega, by omega, fun k H' k0 k1 hB hR' => ?_⟩
    have hk : k.toNat < xs.length := by omega
    exact ⟨l, xs, k, _, rfl, rfl, lstAt (hB _ _ hl hlp), at_int k0 (List.getElem?_eq_getElem hk), q _ _ H' (List.getElem?_eq_getElem hk) hB hR'⟩
def spOrder (K : PySem.W.Frag) : Sp := fun vs H Q _ => ∃ (p : Addr) (n : Nat), vs = [.ref p, .int n] ∧ Row K H p ∧ n ≤ 1000 ∧ ∀ (H' : Hp) (q : Addr) (ns : List Int), ns.Perm (rg n) → But p H H' → Row K H' p → H q = none → FT H' q ns → Q (.ref q) H'
theorem ok_order (F : Df K mg "_law_order" st__law_order ["row", "many"]) (B : Bu mg) (CT : Cal P w K mg base 1 "_law_taken" (spTaken K)) : Cal P w K mg base 2 "_law_order" (spOrder K) := by
  refine mkCal F sc__law_order (fun vs H Q E h => ?_) (fun f cdv A outer s H vs Q E hr h => ?_)
  · obtain ⟨p, n, rfl, _⟩ := h
    rfl
  · obtain ⟨p, n, rfl, hR, hn, q⟩ := h
    refine ⟨_, pss_cons (ps_par (i := 2) (j := 3) rfl sc__law_order.nd rfl rfl (by decide) rfl rfl (pa_cons (pe_listRg rfl (by rfl) B.list (prg_1 (by rfl) B.range (pv 1))) (pa_cons (pe_lst pa_nil) pa_nil)) rfl)
      (pss_cons (ps_while PassesOwn.never (pt_cmpR (op_neD hr.units) (pv 2) (pe_lst pa_nil) (nomark _))
        (pss_one (ps_expr (pe_bm PySem.F.plainAttrs_list PySem.F.slot_list_append PySem.F.type_list_append mt_append (pv 3) (pa_cons (pe_bm PySem.F.plainAttrs_list PySem.F.slot_list_pop PySem.F.type_list_pop mt_popAt (pv 2)
          (pa_cons (pc CT hr (pa_cons (pv 0) (pa_cons (pe_callB (cl_len K) (by rfl) B.len PySem.boot_len (pa_cons (pv 2) pa_nil)) pa_nil))) pa_nil)) pa_nil)))))
      (pss_one (ps_ret (pe_tupleF (by rfl) B.tuple (pv 3))))), ?_⟩
    refine ⟨_, rfl, n, rfl, ⟨by omega, by omega, by omega, by omega, by omega⟩, fun l hl => ⟨Nat.zero_le _, fun g hg => ⟨_, _, rfl, ?_⟩⟩⟩
    have hlg : l ≠ g := ne_of_none upd_same hg
    have hgH : H g = none := by
      rw [upd_ne (Ne.symm hlg)] at hg
      exact hg
    have hpl : p ≠ l := hR.ne hl
    have hpg : p ≠ g := hR.ne hgH
    refine ⟨fun m σ H' => ∃ ls fs : List Int, m = ls.length ∧ σ = [some (.ref p), some (.int n), some (.ref l), some (.ref g)] ∧ But p H H' ∧ Row K H' p ∧ H' l = some (.lst (ls.map V.int)) ∧ H' g = some (.lst (fs.map V.int)) ∧ (fs ++ ls).Perm (rg n),
      ⟨(rg n).length, rg n, [], rfl, rfl, But.same (Same.trans (same_new hl) (same_new hg)), (hR.new hl).new hg, ?_, upd_same, List.Perm.refl _⟩, ?_⟩
    · rw [upd_ne hlg, upd_same, rgV_rg]
    rintro m σ H1 ⟨ls, fs, rfl, rfl, hB, hR1, e1, e2, hpm⟩
    refine ⟨_, rfl, Nat.zero_le _, fun z hz => ?_⟩
    have sz : Same H1 (upd H1 z (.lst [])) := same_new hz
    refine ⟨_, _, dp_lst (ns := ls) (lstAt (sz _ _ e1)), dp_lst (ns := []) (lstAt upd_same), PySem.W.ke_shaped_ints _, PySem.W.ke_shaped_ints _, _, rfl, ?_⟩
    rw [eqv_lst]
    have len1 : fs.length + ls.length = n := by
      have := hpm.length_eq
      rw [List.length_append, rg_len] at this
      exact this
    cases ls with
    | nil =>
      refine ifF rfl ⟨_, rfl, g, _, rfl, lstAt (sz _ _ e2), fun t ob ht hob => ?_⟩
      rw [List.append_nil] at hpm
      have st : Same H1 (upd (upd H1 z (.lst [])) t (.frz ob (.tup (fs.map V.int)))) := sz.trans (same_new ht)
      refine q _ t fs hpm (hB.trans (But.same st)) (hR1.same st) ?_ ⟨ob, upd_same, hob⟩
      cases e : H t with
      | none => rfl
      | some o =>
        exfalso
        by_cases zp : t = p
        · obtain ⟨xs, ep⟩ := hR1.lst
          rw [zp, sz _ _ ep] at ht
          cases ht
        · rw [sz _ _ (hB _ _ e zp)] at ht
          cases ht
    | cons y ls =>
      have hRz : Row K (upd H1 z (.lst [])) p := hR1.same sz
      have e1z := sz _ _ e1
      have e2z := sz _ _ e2
      refine ifT rfl ⟨fun σ' H' => ∃ m', m' < (y :: ls).length ∧ ∃ ls fs : List Int, m' = ls.length ∧ σ' = [some (.ref p), some (.int n), some (.ref l), some (.ref g)] ∧ But p H H' ∧ Row K H' p ∧ H' l = some (.lst (ls.map V.int)) ∧ H' g = some (.lst (fs.map V.int)) ∧ (fs ++ ls).Perm (rg n), fun _ _ h => h, ?_⟩
      refine ⟨_, rfl, .inl ⟨rfl, _, lstAt e2z⟩, _, rfl, .inl ⟨rfl, _, lstAt e1z⟩, _, rfl, _, rfl, l, _, rfl, .inl (lstAt e1z), p, _, rfl, hRz, ?_, ?_, fun k H3 k0 k1 hB3 hR3 => ?_⟩
      · rw [List.length_map, List.length_cons]
        omega
      · rw [List.length_map]
        omega
      rw [List.length_map] at k1
      have e1' := hB3 _ _ e1z (Ne.symm hpl)
      have e2' := hB3 _ _ e2z (Ne.symm hpg)
      have hk : k.toNat < (y :: ls).length := by omega
      obtain ⟨v, hv⟩ : ∃ v, (y :: ls)[k.toNat]? = some v := ⟨_, List.getElem?_eq_getElem hk⟩
      have e2u : (upd H3 l (.lst (((y :: ls).map V.int).eraseIdx k.toNat))) g = some (.lst (fs.map V.int)) := by
        rw [upd_ne (Ne.symm hlg)]
        exact e2'
      refine ⟨l, _, k, k.toNat, .int v, rfl, rfl, e1', by omega, by omega, ?_, at_map hv, g, _, .int v, rfl, rfl, e2u, ?_, ?_⟩
      · rw [List.length_map]
        exact ix_nat k0 k1
      · rw [List.length_map]
        exact small1000 (by have := List.length_cons (a := y) (as := ls); omega)
      · refine ⟨((y :: ls).eraseIdx k.toNat).length, ?_, (y :: ls).eraseIdx k.toNat, fs ++ [v], rfl, rfl, ?_, ?_, ?_, ?_, ?_⟩
        · rw [List.length_eraseIdx_of_lt hk]
          omega
        · exact (((hB.trans (But.same sz)).trans hB3).fresh hl).fresh hgH
        · exact (hR3.lst_upd e1' hpl).lst_upd e2u hpg
        · rw [upd_ne hlg, upd_same, map_erase]
        · rw [upd_same, List.map_append]
          rfl
        · have hp2 := perm_erase hv
          refine List.Perm.trans ?_ hpm
          rw [List.append_assoc]
          exact List.Perm.append_left fs hp2.symm
end
end RH
set_option Elab.async false
set_option linter.all false
set_option maxRecDepth 100000
set_option maxHeartbeats 2000000
namespace RH
open PySem PySem.Spec PyProof.Rows L2
/-! ### _law_alike of equal data -/
theorem Dp.on {K : PySem.W.Frag} {H H' : Hp} (s : Same H H') : ∀ (d : PyData) (v : V), Dp K H v d → Dp K H' v d
  | d, v, h => by
    refine Dp.rec (motive_1 := fun v d _ => Dp K H' v d) (motive_2 := fun vs ds _ => DpAll K H' vs ds) .non .bl .int .str ?_ ?_ .nil ?_ h
    · intro a xs ds h1 _ h2
      exact .lst (s.seq h1) h2
    · intro a xs ds h1 _ h2
      exact .tup (onT s h1) h2
    · intro v vs d ds _ _ h1 h2
      exact .cons h1 h2
theorem DpAll.len {K : PySem.W.Frag} {H : Hp} : ∀ {vs : List V} {ds : List PyData}, DpAll K H vs ds → vs.length = ds.length
  | _, _, .nil => rfl
  | _, _, .cons _ t => congrArg (· + 1) (DpAll.len t)
theorem DpAll.of {K : PySem.W.Frag} {H : Hp} : ∀ {vs : List V} {ds : List PyData} {i : Nat} {d : PyData}, DpAll K H vs ds → ds[i]? = some d → ∃ v, vs[i]? = some v ∧ Dp K H v d
  | _, _, _, _, .nil, e => by simp at e
  | _, _, 0, _, .cons h _, e => by
    have e' := Option.some.inj e
    subst e'
    exact ⟨_, rfl, h⟩
  | _, _, i + 1, _, .cons _ t, e => DpAll.of (i := i) t e
def okD : Nat → PyData → Prop
  | 0, .none => True
  | 0, .bool _ => True
  | 0, .int _ => True
  | 0, .str _ => True
  | 0, _ => False
  | _ + 1, .none => True
  | _ + 1, .bool _ => True
  | _ + 1, .int _ => True
  | _ + 1, .str _ => True
  | k + 1, .list ds => ds.length ≤ 1000 ∧ ∀ d ∈ ds, okD k d
  | k + 1, .tuple ds => ds.length ≤ 1000 ∧ ∀ d ∈ ds, okD k d
  | _ + 1, .dict _ => False
theorem kit2 {K : PySem.W.Frag} {t : String} {b1 b2 : Bool} (h1 : kitB t "tuple" = some b1) (h2 : kitB t "list" = some b2) : PySem.W.kitAny K (.type t) [.type "tuple", .type "list"] = some (b1 || b2) := by
  cases b1 with
  | true => exact kitAny_cons (kit_ty h1) (fun z => nomatch z) (fun _ => rfl)
  | false =>
    cases b2 with
    | true => exact kitAny_cons (kit_ty h1) (fun _ => kitAny_cons (kit_ty h2) (fun z => nomatch z) (fun _ => rfl)) (fun z => nomatch z)
    | false => exact kitAny_cons (kit_ty h1) (fun _ => kitAny_cons (kit_ty h2) (fun _ => kitAny_nil) (fun z => nomatch z)) (fun z => nomatch z)
theorem cls2 : Paired ClsV [V.ty "tuple", V.ty "list"] [Value.type "tuple", Value.type "list"] := .cons (.ty _) (.cons (.ty _) .nil)
theorem ixS {X : Cx} (K : PySem.W.Frag) (h : X.K = K := by rfl) : IxR X (rIx K) := by
  subst h
  exact ix_seq
/-- a list or a tuple -/
structure Sq2 (K : PySem.W.Frag) (H : Hp) (a : Addr) (xs : List V) (T : String) (b : Bool) : Prop where
  ty : TyX K H (.ref a) (.type T)
  sq : SqL K H a xs ∨ SqT K H a xs
  k1 : PySem.W.kitAny K (.type T) [.type "tuple", .type "list"] = some true
  k2 : PySem.W.kitOne K (.type T) (.type "list") = some b
  ix : ∀ (i : Nat) (x : V) (Q : VK), xs[i]? = some x → Q x H → rIx K (.ref a) (.int (i : Int)) H Q
theorem sq2T {K : PySem.W.Frag} {H : Hp} {a : Addr} {xs : List V} (h : SqT K H a xs) : Sq2 K H a xs "tuple" false :=
  ⟨ty_tup h, .inr h, kit2 (b1 := true) (b2 := false) (by decide +kernel) (by decide +kernel), kit_ty (by decide +kernel), fun i x Q e q => .inr (.inl ⟨a, xs, i, x, rfl, rfl, h, atI_nat e, q⟩)⟩
theorem ty_lst {K : PySem.W.Frag} {H : Hp} {a : Addr} {xs : List V} (h : SqL K H a xs) : TyX K H (.ref a) (.type "list") := by
  rcases h with (h | ⟨o, h⟩) | ⟨o, vz, n, h, c, _⟩
  · exact .base (.lst h)
  · exact .base (.frz h)
  · exact .kList h c
theorem sq2L {K : PySem.W.Frag} {H : Hp} {a : Addr} {xs : List V} (h : SqL K H a xs) : Sq2 K H a xs "list" true :=
  ⟨ty_lst h, .inl h, kit2 (b1 := false) (b2 := true) (by decide +kernel) (by decide +kernel), kit_ty (by decide +kernel), fun i x Q e q => .inl ⟨a, xs, i, x, rfl, rfl, h, atI_nat e, q⟩⟩
theorem pss_no {X : Cx} {sts : List Stmt} : PSs X sts (fun _ _ _ => False) := ⟨fun _ _ _ _ _ _ h => h.elim⟩
section
variable {P : Program} {w : World} {K : PySem.W.Frag} {mg : Str → Option Value} {base : Heap}
def spAlike (K : PySem.W.Frag) (k : Nat) : Sp := fun vs H Q _ => ∃ (v u : V) (d : PyData), vs = [v, u] ∧ Dp K H v d ∧ Dp K H u d ∧ okD k d ∧ ∀ H', Same H H' → Q (.bl true) H'
theorem ok_alike0 (F : Df K mg "_law_alike" st__law_alike ["found", "due"]) (B : Bu mg) : Cal P w K mg base 1 "_law_alike" (spAlike K 0) := by
  refine mkCal F sc__law_alike (fun vs H Q E h => ?_) (fun f cdv A outer s H vs Q E hr h => ?_)
  · obtain ⟨v, u, d, rfl, _⟩ := h
    rfl
  · obtain ⟨v, u, d, rfl, hv, hu, hk, q⟩ := h
    refine ⟨_, pss_cons (ps_if (pt_val (pe_callB call_isiT (by rfl) B.isi (by decide +kernel) (pa_cons (pv 1) (pa_cons (pe_tup (pa_cons (pe_bltn (v := .ty "tuple") (by rfl) B.tuple (by decide +kernel) rfl) (pa_cons (pe_bltn (v := .ty "list") (by rfl) B.list (by decide +kernel) rfl) pa_nil))) pa_nil)))) pss_no pss_nil)
      (pss_cons (ps_if (PW.pt (pw_or (pt_cmp (pc_isN (pv 1))) (pw_or1 (pt_val (pe_callB call_isi (by rfl) B.isi (by decide +kernel) (pa_cons (pv 1) (pa_cons (pe_bltn (v := .ty "str") (by rfl) B.str (by decide +kernel) rfl) pa_nil)))))))
        (pss_one (ps_ret (pe_and (pe_cmpR op_eq (pv 0) (pv 1) (nomark _)) (pe_one (pe_cmpR op_eq (pe_callB call_isi (by rfl) B.isi (by decide +kernel) (pa_cons (pv 0) (pa_cons (pe_bltn (v := .ty "str") (by rfl) B.str (by decide +kernel) rfl) pa_nil)))
          (pe_callB call_isi (by rfl) B.isi (by decide +kernel) (pa_cons (pv 1) (pa_cons (pe_bltn (v := .ty "str") (by rfl) B.str (by decide +kernel) rfl) pa_nil))) (nomark _)))))) pss_nil)
      (pss_one (ps_ret (pe_and (pe_callB call_isi (by rfl) B.isi (by decide +kernel) (pa_cons (pv 0) (pa_cons (pe_bltn (v := .ty "int") (by rfl) B.int (by decide +kernel) rfl) pa_nil)))
        (pe_and (pe_cmpR op_eq (pe_callB call_isi (by rfl) B.isi (by decide +kernel) (pa_cons (pv 0) (pa_cons (pe_bltn (v := .ty "bool") (by rfl) B.bool (by decide +kernel) rfl) pa_nil)))
          (pe_callB call_isi (by rfl) B.isi (by decide +kernel) (pa_cons (pv 1) (pa_cons (pe_bltn (v := .ty "bool") (by rfl) B.bool (by decide +kernel) rfl) pa_nil))) (nomark _)) (pe_one (pe_cmpR op_eq (pv 0) (pv 1) (nomark _)))))))), ?_⟩
    cases hv with
    | non =>
      cases hu
      refine ⟨_, rfl, (by show 2 ≤ sizeLine; decide), fun t ht => ⟨.non, t, _, _, _, false, rfl, upd_same, cls2, .base .non, kit2 (b1 := false) (b2 := false) (by decide +kernel) (by decide +kernel), _, rfl, ifF rfl ?_⟩⟩
      refine ⟨_, rfl, _, rfl, ifT (decide_eq_true rfl) (ifT rfl ?_)⟩
      exact ⟨_, rfl, _, rfl, rfl, _, rfl, ifT (decide_eq_true rfl) ⟨_, rfl, .non, .ty "str", _, _, false, rfl, .ty "str", .base .non, kit_ty (by decide +kernel), _, rfl, .non, .ty "str", _, _, false, rfl, .ty "str", .base .non, kit_ty (by decide +kernel), rfl, q _ (same_new ht)⟩⟩
    | bl b =>
      cases hu
      refine ⟨_, rfl, (by show 2 ≤ sizeLine; decide), fun t ht => ⟨.bl b, t, _, _, _, false, rfl, upd_same, cls2, .base (.bl b), kit2 (b1 := false) (b2 := false) (by decide +kernel) (by decide +kernel), _, rfl, ifF rfl ?_⟩⟩
      refine ⟨_, rfl, _, rfl, ifF (decide_eq_false (fun z => nomatch z)) ⟨_, rfl, .bl b, .ty "str", _, _, false, rfl, .ty "str", .base (.bl b), kit_ty (by decide +kernel), _, rfl, ifF rfl ?_⟩⟩
      refine ⟨_, rfl, .bl b, .ty "int", _, _, true, rfl, .ty "int", .base (.bl b), kit_ty (by decide +kernel), _, rfl, ifT rfl ?_⟩
      refine ⟨_, rfl, .bl b, .ty "bool", _, _, true, rfl, .ty "bool", .base (.bl b), kit_ty (by decide +kernel), _, rfl, .bl b, .ty "bool", _, _, true, rfl, .ty "bool", .base (.bl b), kit_ty (by decide +kernel), rfl, _, rfl, ifT (decide_eq_true rfl) ?_⟩
      refine ⟨_, rfl, _, rfl, rfl, ?_⟩
      rw [decide_eq_true (rfl : V.bl b = V.bl b)]
      exact q _ (same_new ht)
    | int i =>
      cases hu
      refine ⟨_, rfl, (by show 2 ≤ sizeLine; decide), fun t ht => ⟨.int i, t, _, _, _, false, rfl, upd_same, cls2, .base (.int i), kit2 (b1 := false) (b2 := false) (by decide +kernel) (by decide +kernel), _, rfl, ifF rfl ?_⟩⟩
      refine ⟨_, rfl, _, rfl, ifF (decide_eq_false (fun z => nomatch z)) ⟨_, rfl, .int i, .ty "str", _, _, false, rfl, .ty "str", .base (.int i), kit_ty (by decide +kernel), _, rfl, ifF rfl ?_⟩⟩
      refine ⟨_, rfl, .int i, .ty "int", _, _, true, rfl, .ty "int", .base (.int i), kit_ty (by decide +kernel), _, rfl, ifT rfl ?_⟩
      refine ⟨_, rfl, .int i, .ty "bool", _, _, false, rfl, .ty "bool", .base (.int i), kit_ty (by decide +kernel), _, rfl, .int i, .ty "bool", _, _, false, rfl, .ty "bool", .base (.int i), kit_ty (by decide +kernel), rfl, _, rfl, ifT (decide_eq_true rfl) ?_⟩
      refine ⟨_, rfl, _, rfl, rfl, ?_⟩
      rw [decide_eq_true (rfl : V.int i = V.int i)]
      exact q _ (same_new ht)
    | str x =>
      cases hu
      refine ⟨_, rfl, (by show 2 ≤ sizeLine; decide), fun t ht => ⟨.str x, t, _, _, _, false, rfl, upd_same, cls2, .base (.str x), kit2 (b1 := false) (b2 := false) (by decide +kernel) (by decide +kernel), _, rfl, ifF rfl ?_⟩⟩
      refine ⟨_, rfl, _, rfl, ifF (decide_eq_false (fun z => nomatch z)) ⟨_, rfl, .str x, .ty "str", _, _, true, rfl, .ty "str", .base (.str x), kit_ty (by decide +kernel), _, rfl, ifT rfl ?_⟩⟩
      exact ⟨_, rfl, _, rfl, rfl, _, rfl, ifT (decide_eq_true rfl) ⟨_, rfl, .str x, .ty "str", _, _, true, rfl, .ty "str", .base (.str x), kit_ty (by decide +kernel), _, rfl, .str x, .ty "str", _, _, true, rfl, .ty "str", .base (.str x), kit_ty (by decide +kernel), rfl, q _ (same_new ht)⟩⟩
    | lst _ _ => exact hk.elim
    | tup _ _ => exact hk.elim
end
end RH
set_option Elab.async false
set_option linter.all false
set_option maxRecDepth 100000
set_option maxHeartbeats 2000000
namespace RH
open PySem PySem.Spec PyProof.Rows L2
theorem alike_cases {K : PySem.W.Frag} {H : Hp} {k : Nat} {v u : V} {d : PyData} (hv : Dp K H v d) (hu : Dp K H u d) (hk : okD (k + 1) d) : okD 0 d ∨ ∃ (a b : Addr) (xs ys : List V) (ds : List PyData) (T : String) (bl : Bool), v = .ref a ∧ u = .ref b ∧
    (∀ H', Same H H' → Sq2 K H' a xs T bl) ∧ (∀ H', Same H H' → Sq2 K H' b ys T bl) ∧ DpAll K H xs ds ∧ DpAll K H ys ds ∧ ds.length ≤ 1000 ∧ ∀ d ∈ ds, okD k d := by
  cases hv with
  | non => exact .inl True.intro
  | bl _ => exact .inl True.intro
  | int _ => exact .inl True.intro
  | str _ => exact .inl True.intro
  | @lst a xs ds h1 h2 =>
    cases hu with
    | @lst b ys _ h3 h4 => exact .inr ⟨a, b, xs, ys, ds, "list", true, rfl, rfl, fun _ s => sq2L (s.seq h1), fun _ s => sq2L (s.seq h3), h2, h4, hk.1, hk.2⟩
  | @tup a xs ds h1 h2 =>
    cases hu with
    | @tup b ys _ h3 h4 => exact .inr ⟨a, b, xs, ys, ds, "tuple", false, rfl, rfl, fun _ s => sq2T (onT s h1), fun _ s => sq2T (onT s h3), h2, h4, hk.1, hk.2⟩
section
variable {P : Program} {w : World} {K : PySem.W.Frag} {mg : Str → Option Value} {base : Heap}
theorem ok_alikeS (k : Nat) (F : Df K mg "_law_alike" st__law_alike ["found", "due"]) (B : Bu mg) (C : Cal P w K mg base (k + 1) "_law_alike" (spAlike K k)) : Cal P w K mg base (k + 2) "_law_alike" (spAlike K (k + 1)) := by
  refine mkCal F sc__law_alike (fun vs H Q E h => ?_) (fun f cdv A outer s H vs Q E hr h => ?_)
  · obtain ⟨v, u, d, rfl, _⟩ := h
    rfl
  · obtain ⟨v, u, d, rfl, hv, hu, hk, q⟩ := h
    refine ⟨_, pss_cons (ps_if (pt_val (pe_callB call_isiT (by rfl) B.isi (by decide +kernel) (pa_cons (pv 1) (pa_cons (pe_tup (pa_cons (pe_bltn (v := .ty "tuple") (by rfl) B.tuple (by decide +kernel) rfl) (pa_cons (pe_bltn (v := .ty "list") (by rfl) B.list (by decide +kernel) rfl) pa_nil))) pa_nil))))
        (pss_cons (ps_if (PW.pt (pw_or (pt_not (pt_val (pe_callB call_isiT (by rfl) B.isi (by decide +kernel) (pa_cons (pv 0) (pa_cons (pe_tup (pa_cons (pe_bltn (v := .ty "tuple") (by rfl) B.tuple (by decide +kernel) rfl) (pa_cons (pe_bltn (v := .ty "list") (by rfl) B.list (by decide +kernel) rfl) pa_nil))) pa_nil)))))
            (pw_or1 (pt_cmpR op_ne (pe_callB call_isi (by rfl) B.isi (by decide +kernel) (pa_cons (pv 0) (pa_cons (pe_bltn (v := .ty "list") (by rfl) B.list (by decide +kernel) rfl) pa_nil)))
              (pe_callB call_isi (by rfl) B.isi (by decide +kernel) (pa_cons (pv 1) (pa_cons (pe_bltn (v := .ty "list") (by rfl) B.list (by decide +kernel) rfl) pa_nil))) (nomark _))))) (pss_one (ps_ret pe_bl)) pss_nil)
        (pss_cons (ps_if (pt_cmpR op_ne (pe_callB (cl_len K) (by rfl) B.len PySem.boot_len (pa_cons (pv 0) pa_nil)) (pe_callB (cl_len K) (by rfl) B.len PySem.boot_len (pa_cons (pv 1) pa_nil)) (nomark _)) (pss_one (ps_ret pe_bl)) pss_nil)
        (pss_one (ps_ret (pe_cmpR (op_eqD hr.units) (pe_lc (own := [("k", 2)]) (g := gName 2) rfl sc__law_alike.nd (pi_range1 (by rfl) B.range (pa_cons (pe_callB (cl_len K) (by rfl) B.len PySem.boot_len (pa_cons (pv 1) pa_nil)) pa_nil))
          (blkOk_by (N := ["found", "due", "k"]) (sc := defScope st__law_alike) (by decide +kernel)) (fun _ _ _ _ _ => pg_name (i := 2) sc__law_alike.nd rfl (Or.inl rfl))
          (fun _ _ _ _ _ => pts_one (pt_not (pt_val (pc C hr (pa_cons (pe_ix (ixS K) (pv 0) (pv 2) (fun _ _ => rfl)) (pa_cons (pe_ix (ixS K) (pv 1) (pv 2) (fun _ _ => rfl)) pa_nil)) (hk := Nat.le_refl _))))) (fun _ _ _ _ _ => pv 2)) (pe_lst pa_nil) (nomark _)))))) pss_nil)
      (pss_cons (ps_if (PW.pt (pw_or (pt_cmp (pc_isN (pv 1))) (pw_or1 (pt_val (pe_callB call_isi (by rfl) B.isi (by decide +kernel) (pa_cons (pv 1) (pa_cons (pe_bltn (v := .ty "str") (by rfl) B.str (by decide +kernel) rfl) pa_nil)))))))
        (pss_one (ps_ret (pe_and (pe_cmpR op_eq (pv 0) (pv 1) (nomark _)) (pe_one (pe_cmpR op_eq (pe_callB call_isi (by rfl) B.isi (by decide +kernel) (pa_cons (pv 0) (pa_cons (pe_bltn (v := .ty "str") (by rfl) B.str (by decide +kernel) rfl) pa_nil)))
          (pe_callB call_isi (by rfl) B.isi (by decide +kernel) (pa_cons (pv 1) (pa_cons (pe_bltn (v := .ty "str") (by rfl) B.str (by decide +kernel) rfl) pa_nil))) (nomark _)))))) pss_nil)
      (pss_one (ps_ret (pe_and (pe_callB call_isi (by rfl) B.isi (by decide +kernel) (pa_cons (pv 0) (pa_cons (pe_bltn (v := .ty "int") (by rfl) B.int (by decide +kernel) rfl) pa_nil)))
        (pe_and (pe_cmpR op_eq (pe_callB call_isi (by rfl) B.isi (by decide +kernel) (pa_cons (pv 0) (pa_cons (pe_bltn (v := .ty "bool") (by rfl) B.bool (by decide +kernel) rfl) pa_nil)))
          (pe_callB call_isi (by rfl) B.isi (by decide +kernel) (pa_cons (pv 1) (pa_cons (pe_bltn (v := .ty "bool") (by rfl) B.bool (by decide +kernel) rfl) pa_nil))) (nomark _)) (pe_one (pe_cmpR op_eq (pv 0) (pv 1) (nomark _)))))))), ?_⟩
    rcases alike_cases hv hu hk with hk0 | ⟨a, b, xs, ys, ds, T, bl, rfl, rfl, ha, hb, hx, hy, hl, hd⟩
    · clear hk
      cases hv with
      | non =>
        cases hu
        refine ⟨_, rfl, (by show 2 ≤ sizeLine; decide), fun t ht => ⟨.non, t, _, _, _, false, rfl, upd_same, cls2, .base .non, kit2 (b1 := false) (b2 := false) (by decide +kernel) (by decide +kernel), _, rfl, ifF rfl ?_⟩⟩
        refine ⟨_, rfl, _, rfl, ifT (decide_eq_true rfl) (ifT rfl ?_)⟩
        exact ⟨_, rfl, _, rfl, rfl, _, rfl, ifT (decide_eq_true rfl) ⟨_, rfl, .non, .ty "str", _, _, false, rfl, .ty "str", .base .non, kit_ty (by decide +kernel), _, rfl, .non, .ty "str", _, _, false, rfl, .ty "str", .base .non, kit_ty (by decide +kernel), rfl, q _ (same_new ht)⟩⟩
      | bl b =>
        cases hu
        refine ⟨_, rfl, (by show 2 ≤ sizeLine; decide), fun t ht => ⟨.bl b, t, _, _, _, false, rfl, upd_same, cls2, .base (.bl b), kit2 (b1 := false) (b2 := false) (by decide +kernel) (by decide +kernel), _, rfl, ifF rfl ?_⟩⟩
        refine ⟨_, rfl, _, rfl, ifF (decide_eq_false (fun z => nomatch z)) ⟨_, rfl, .bl b, .ty "str", _, _, false, rfl, .ty "str", .base (.bl b), kit_ty (by decide +kernel), _, rfl, ifF rfl ?_⟩⟩
        refine ⟨_, rfl, .bl b, .ty "int", _, _, true, rfl, .ty "int", .base (.bl b), kit_ty (by decide +kernel), _, rfl, ifT rfl ?_⟩
        refine ⟨_, rfl, .bl b, .ty "bool", _, _, true, rfl, .ty "bool", .base (.bl b), kit_ty (by decide +kernel), _, rfl, .bl b, .ty "bool", _, _, true, rfl, .ty "bool", .base (.bl b), kit_ty (by decide +kernel), rfl, _, rfl, ifT (decide_eq_true rfl) ?_⟩
        refine ⟨_, rfl, _, rfl, rfl, ?_⟩
        rw [decide_eq_true (rfl : V.bl b = V.bl b)]
        exact q _ (same_new ht)
      | int i =>
        cases hu
        refine ⟨_, rfl, (by show 2 ≤ sizeLine; decide), fun t ht => ⟨.int i, t, _, _, _, false, rfl, upd_same, cls2, .base (.int i), kit2 (b1 := false) (b2 := false) (by decide +kernel) (by decide +kernel), _, rfl, ifF rfl ?_⟩⟩
        refine ⟨_, rfl, _, rfl, ifF (decide_eq_false (fun z => nomatch z)) ⟨_, rfl, .int i, .ty "str", _, _, false, rfl, .ty "str", .base (.int i), kit_ty (by decide +kernel), _, rfl, ifF rfl ?_⟩⟩
        refine ⟨_, rfl, .int i, .ty "int", _, _, true, rfl, .ty "int", .base (.int i), kit_ty (by decide +kernel), _, rfl, ifT rfl ?_⟩
        refine ⟨_, rfl, .int i, .ty "bool", _, _, false, rfl, .ty "bool", .base (.int i), kit_ty (by decide +kernel), _, rfl, .int i, .ty "bool", _, _, false, rfl, .ty "bool", .base (.int i), kit_ty (by decide +kernel), rfl, _, rfl, ifT (decide_eq_true rfl) ?_⟩
        refine ⟨_, rfl, _, rfl, rfl, ?_⟩
        rw [decide_eq_true (rfl : V.int i = V.int i)]
        exact q _ (same_new ht)
      | str x =>
        cases hu
        refine ⟨_, rfl, (by show 2 ≤ sizeLine; decide), fun t ht => ⟨.str x, t, _, _, _, false, rfl, upd_same, cls2, .base (.str x), kit2 (b1 := false) (b2 := false) (by decide +kernel) (by decide +kernel), _, rfl, ifF rfl ?_⟩⟩
        refine ⟨_, rfl, _, rfl, ifF (decide_eq_false (fun z => nomatch z)) ⟨_, rfl, .str x, .ty "str", _, _, true, rfl, .ty "str", .base (.str x), kit_ty (by decide +kernel), _, rfl, ifT rfl ?_⟩⟩
        exact ⟨_, rfl, _, rfl, rfl, _, rfl, ifT (decide_eq_true rfl) ⟨_, rfl, .str x, .ty "str", _, _, true, rfl, .ty "str", .base (.str x), kit_ty (by decide +kernel), _, rfl, .str x, .ty "str", _, _, true, rfl, .ty "str", .base (.str x), kit_ty (by decide +kernel), rfl, q _ (same_new ht)⟩⟩
      | lst _ _ => exact hk0.elim
      | tup _ _ => exact hk0.elim
    · have lx : xs.length = ds.length := DpAll.len hx
      have ly : ys.length = ds.length := DpAll.len hy
      refine ⟨_, rfl, (by show 2 ≤ sizeLine; decide), fun t ht => ?_⟩
      have s1 : Same H (upd H t (.tup [.ty "tuple", .ty "list"])) := same_new ht
      have b1 := hb _ s1
      refine ⟨.ref b, t, _, _, _, true, rfl, upd_same, cls2, b1.ty, b1.k1, _, rfl, ifT rfl ?_⟩
      refine ⟨_, rfl, (by show 2 ≤ sizeLine; decide), fun t2 ht2 => ?_⟩
      have s2 := s1.trans (same_new (o := .tup [.ty "tuple", .ty "list"]) ht2)
      have a2 := ha _ s2
      have b2 := hb _ s2
      refine ⟨.ref a, t2, _, _, _, true, rfl, upd_same, cls2, a2.ty, a2.k1, _, rfl, ifF rfl ?_⟩
      refine ⟨_, rfl, .ref a, .ty "list", _, _, bl, rfl, .ty "list", a2.ty, a2.k2, _, rfl, .ref b, .ty "list", _, _, bl, rfl, .ty "list", b2.ty, b2.k2, rfl, _, rfl, ifF (by rw [decide_eq_true (rfl : V.bl bl = V.bl bl)]; rfl) ?_⟩
      refine ⟨_, rfl, a, xs, rfl, a2.sq, _, rfl, b, ys, rfl, b2.sq, rfl, _, rfl, ifF (by rw [lx, ly, decide_eq_true rfl]; rfl) ?_⟩
      refine ⟨_, rfl, b, ys, rfl, b2.sq, _, rfl, by omega, by omega, fun D hD => ?_⟩
      rw [Int.toNat_natCast]
      refine lc_range (lo := 0) (n := ys.length) (fun i H' => Same (upd (upd H t (.tup [.ty "tuple", .ty "list"])) t2 (.tup [.ty "tuple", .ty "list"])) H' ∧ H' D = some (.lst [])) ⟨same_new hD, upd_same⟩ (fun i H' hi h' => ?_) (fun H' h' => ?_)
      · obtain ⟨sm, eD⟩ := h'
        have s3 := s2.trans sm
        obtain ⟨d, hdi⟩ : ∃ d, ds[i]? = some d := ⟨_, List.getElem?_eq_getElem (by omega)⟩
        obtain ⟨x, hxi, hxd⟩ := DpAll.of hx hdi
        obtain ⟨y, hyi, hyd⟩ := DpAll.of hy hdi
        rw [Int.zero_add]
        refine ⟨rfl, _, rfl, _, rfl, ?_⟩
        refine (ha _ s3).ix i x _ hxi ⟨_, rfl, _, rfl, ?_⟩
        refine (hb _ s3).ix i y _ hyi ⟨x, y, d, rfl, Dp.on s3 d x hxd, Dp.on s3 d y hyd, hd d (List.mem_of_getElem? hdi), fun H4 s4 => ⟨_, rfl, ifF rfl ⟨?_, s4 _ _ eD⟩⟩⟩
        exact sm.trans s4
      · obtain ⟨sm, eD⟩ := h'
        refine ⟨Nat.zero_le _, fun z hz => ?_⟩
        refine ⟨_, _, dp_lst (ns := []) (lstAt (same_new hz _ _ eD)), dp_lst (ns := []) (lstAt upd_same), PySem.W.ke_shaped_ints _, PySem.W.ke_shaped_ints _, ?_⟩
        exact q _ (s2.trans (sm.trans (same_new hz)))
end
end RH
set_option Elab.async false
set_option linter.all false
set_option maxRecDepth 100000
set_option maxHeartbeats 2000000
namespace RH
open PySem PySem.Spec PyProof.Rows L2
/-! ### words, what they touch, and what a loss does -/
theorem rg_nd (n : Nat) : (rg n).Nodup := by
  unfold rg
  exact List.Pairwise.map _ (fun a b (e : a ≠ b) => fun z => e (by omega)) List.nodup_range
theorem idx_at {l : List Int} (nd : l.Nodup) {i : Nat} {x : Int} (h : l[i]? = some x) : l.idxOf x = i := by
  obtain ⟨hi, e⟩ := List.getElem?_eq_some_iff.mp h
  subst e
  exact nd.idxOf_getElem i hi
theorem perm_nd {n : Nat} {l : List Int} (h : l.Perm (rg n)) : l.Nodup := h.nodup_iff.mpr (rg_nd n)
theorem perm_len {n : Nat} {l : List Int} (h : l.Perm (rg n)) : l.length = n := by rw [h.length_eq, rg_len]
theorem perm_in {n : Nat} {l : List Int} (h : l.Perm (rg n)) {x : Int} (hx : x ∈ l) : InR n x := rg_mem.mp (h.mem_iff.mp hx)
def stp (h : List (List Int)) (p : Int) (L : List Int) : List Int := L.map (mv h p)
def mvs (h : List (List Int)) (L ws : List Int) : List Int := ws.foldl (fun L p => stp h p L) L
theorem mvs_app (h : List (List Int)) (L ws us : List Int) : mvs h L (ws ++ us) = mvs h (mvs h L ws) us := List.foldl_append ..
theorem mvs_snoc (h : List (List Int)) (L ws : List Int) (p : Int) : mvs h L (ws ++ [p]) = stp h p (mvs h L ws) := mvs_app h L ws [p]
theorem mvs_more {h : List (List Int)} {L ws : List Int} {i : Nat} {p : Int} (e : ws[i]? = some p) : mvs h L (ws.take (i + 1)) = stp h p (mvs h L (ws.take i)) := by
  rw [take_more e, mvs_snoc]
/-- the row of a place -/
theorem Hb.row {n : Nat} {h : List (List Int)} (q : Hb n h) {p : Int} (hp : InR n p) : h.getD p.toNat [] ∈ h := by
  have h1 : p.toNat < h.length := by rw [q.len]; have := hp.1; have := hp.2; omega
  rw [List.getD_eq_getElem?_getD, List.getElem?_eq_getElem h1]
  exact List.getElem_mem h1
theorem Hb.row_eq {n : Nat} {h : List (List Int)} (q : Hb n h) {p : Int} (hp : InR n p) : (rg n).map (mv h p) = h.getD p.toNat [] := by
  have hl := q.short (q.row hp)
  refine List.ext_getElem? fun i => ?_
  rw [List.getElem?_map]
  by_cases hi : i < n
  · rw [rg_at hi]
    show some (mv h p (i : Int)) = _
    unfold mv
    rw [Int.toNat_natCast, List.getD_eq_getElem?_getD (l := h.getD p.toNat []), List.getElem?_eq_getElem (by omega : i < (h.getD p.toNat []).length)]
    rfl
  · rw [List.getElem?_eq_none (by rw [rg_len]; omega), List.getElem?_eq_none (by omega)]
    rfl
theorem Hb.stp_perm {n : Nat} {h : List (List Int)} (q : Hb n h) {p : Int} (hp : InR n p) {L : List Int} (hL : L.Perm (rg n)) : (stp h p L).Perm (rg n) := by
  have h1 : (stp h p L).Perm ((rg n).map (mv h p)) := hL.map _
  rw [q.row_eq hp] at h1
  exact h1.trans (q.perm _ (q.row hp))
theorem Hb.mvs_perm {n : Nat} {h : List (List Int)} (q : Hb n h) : ∀ {ws L : List Int}, (∀ t ∈ ws, InR n t) → L.Perm (rg n) → (mvs h L ws).Perm (rg n)
  | [], _, _, hL => hL
  | p :: ws, L, hw, hL => q.mvs_perm (ws := ws) (L := stp h p L) (fun t ht => hw t (List.mem_cons_of_mem _ ht)) (q.stp_perm (hw p (List.mem_cons_self ..)) hL)
theorem Hb.mv_inj {n : Nat} {h : List (List Int)} (q : Hb n h) {p x y : Int} (hp : InR n p) (hx : InR n x) (hy : InR n y) (e : mv h p x = mv h p y) : x = y := by
  have nd := perm_nd (q.perm _ (q.row hp))
  have at_ : ∀ z, InR n z → (h.getD p.toNat [])[z.toNat]? = some (mv h p z) := fun z hz => by
    rw [← q.row_eq hp, List.getElem?_map, rg_at (by have := hz.1; have := hz.2; omega)]
    show some (mv h p ((z.toNat : Nat) : Int)) = _
    rw [Int.toNat_of_nonneg hz.1]
  have e1 := idx_at nd (at_ x hx)
  have e2 := idx_at nd (at_ y hy)
  rw [e, e2] at e1
  have := hx.1
  have := hy.1
  omega
theorem map_inj_on {f : Int → Int} : ∀ {A B : List Int}, (∀ x ∈ A, ∀ y ∈ B, f x = f y → x = y) → A.map f = B.map f → A = B
  | [], [], _, _ => rfl
  | [], _ :: _, _, e => by simp at e
  | _ :: _, [], _, e => by simp at e
  | a :: A, b :: B, h, e => by
    rw [List.map_cons, List.map_cons] at e
    injection e with e1 e2
    rw [h a (List.mem_cons_self ..) b (List.mem_cons_self ..) e1, map_inj_on (fun x hx y hy => h x (List.mem_cons_of_mem _ hx) y (List.mem_cons_of_mem _ hy)) e2]
end RH
set_option Elab.async false
set_option linter.all false
set_option maxRecDepth 100000
set_option maxHeartbeats 2000000
namespace RH
open PySem PySem.Spec PyProof.Rows L2
theorem ixN_int {n : Nat} {k : Int} (h0 : 0 ≤ k) (h1 : k < n) : ixN n k = some k.toNat := by
  unfold ixN
  rw [if_pos h0, if_pos h1]
def tF (n pl : Nat) : List Int := (List.range n).map fun s : Nat => ((s : Int) + (pl : Int)) % (n : Int)
def mF (n pl : Nat) : List Int := (List.range n).map fun s : Nat => (s : Int) + (if decide ((s : Int) < (pl : Int)) = true then 1 else 0)
def fF (n pl : Nat) : List Int := (mF n pl).take pl ++ [0] ++ (mF n pl).drop (pl + 1)
def sF (n pl : Nat) : List Int := ((rg n).set pl ((pl - 1 : Nat) : Int)).set (pl - 1) (pl : Int)
theorem perm_all : ∀ n, n < 6 → ∀ pl, pl < n → (tF n pl).isPerm (rg n) = true ∧ (fF n pl).isPerm (rg n) = true ∧ (sF n pl).isPerm (rg n) = true := by decide +kernel
theorem mF_len (n pl : Nat) : (mF n pl).length = n := by
  unfold mF
  rw [List.length_map, List.length_range]
theorem range_more {f : Nat → Int} (i : Nat) : ((List.range (i + 1)).map f).map V.int = ((List.range i).map f).map V.int ++ [V.int (f i)] := by
  rw [List.range_succ, List.map_append, List.map_append]
  rfl
/-- the permutations found so far -/
def HI (K : PySem.W.Frag) (p g : Addr) (H : Hp) (n i : Nat) (H' : Hp) : Prop := ∃ (xs : List V) (hs : List (List Int)), But p H H' ∧ Row K H' p ∧ H' g = some (.lst xs) ∧ Each (TI K H') xs hs ∧ hs.length = i ∧ ∀ ns ∈ hs, ns.Perm (rg n)
theorem HI.step {K : PySem.W.Frag} {p g : Addr} {H H1 H5 : Hp} {n i : Nat} (h : HI K p g H n i H1) (hg : H g = none) (hpg : p ≠ g) (b : But p H1 H5) (r : Row K H5 p) :
    ∃ xs, H5 g = some (.lst xs) ∧ xs.length = i ∧ ∀ (q : Addr) (ns : List Int) (H6 : Hp), Same H5 H6 → SqT K H6 q (ns.map V.int) → ns.Perm (rg n) → HI K p g H n (i + 1) (upd H6 g (.lst (xs ++ [.ref q]))) := by
  obtain ⟨xs, hs, hB, hR, e, hE, hl, hp⟩ := h
  have e5 := b _ _ e (Ne.symm hpg)
  refine ⟨xs, e5, hE.len.trans hl, fun q ns H6 s6 hq hpm => ⟨xs ++ [.ref q], hs ++ [ns], ?_, ?_, upd_same, ?_, ?_, ?_⟩⟩
  · exact ((hB.trans b).trans (But.same s6)).fresh hg
  · exact (r.same s6).lst_upd (s6 _ _ e5) hpg
  · have f1 : Fix H1 (upd H6 g (.lst (xs ++ [.ref q]))) := (hR.fix b).trans ((Fix.same s6).trans (Fix.lst (s6 _ _ e5)))
    exact Each.snoc ⟨q, rfl, Fix.tups (Fix.lst (s6 _ _ e5)) _ _ hq⟩ (hE.imp fun _ _ z => z.on f1.tups)
  · rw [List.length_append, hl]
    rfl
  · intro ns' hm
    rcases List.mem_append.mp hm with h1 | h1
    · exact hp _ h1
    · rw [List.mem_singleton.mp h1]
      exact hpm
section
variable {P : Program} {w : World} {K : PySem.W.Frag} {mg : Str → Option Value} {base : Heap}
def spHabit (K : PySem.W.Frag) : Sp := fun vs H Q _ => ∃ (p : Addr) (n : Nat), vs = [.ref p, .int n] ∧ Row K H p ∧ 2 ≤ n ∧ n ≤ 5 ∧ ∀ (H' : Hp) (v : V) (h : List (List Int)), Hb n h → But p H H' → Row K H' p → TII K H' v h → Q v H'
theorem ok_habit (F : Df K mg "_law_habit" st__law_habit ["row", "places"]) (B : Bu mg) (CT : Cal P w K mg base 1 "_law_taken" (spTaken K)) (CO : Cal P w K mg base 2 "_law_order" (spOrder K)) : Cal P w K mg base 3 "_law_habit" (spHabit K) := by
  refine mkCal F sc__law_habit (fun vs H Q E h => ?_) (fun f cdv A outer s H vs Q E hr h => ?_)
  · obtain ⟨p, n, rfl, _⟩ := h
    rfl
  · obtain ⟨p, n, rfl, hR, n2, n5, q⟩ := h
    refine ⟨_, pss_cons (ps_par (i := 2) (j := 3) rfl sc__law_habit.nd rfl rfl (by decide) rfl rfl (pa_cons (pc CT hr (pa_cons (pv 0) (pa_cons pe_int pa_nil))) (pa_cons (pe_lst pa_nil) pa_nil)) rfl)
      (pss_cons (ps_for PassesOwn.never rfl (pi_range1 (by rfl) B.range (pa_cons (pv 1) pa_nil)) (pg_name (i := 4) sc__law_habit.nd rfl (Or.inr rfl))
        (pss_one (ps_if (pt_cmpR op_eq (pv 2) pe_int (nomark _))
          (pss_one (ps_expr (pe_bm PySem.F.plainAttrs_list PySem.F.slot_list_append PySem.F.type_list_append mt_append (pv 3) (pa_cons (pe_tupleOf (by rfl) B.tuple (pe_lc (own := [("spot", 7)]) (g := gName 7) (tt := tYes) rfl sc__law_habit.nd
            (pi_range1 (by rfl) B.range (pa_cons (pv 1) pa_nil)) (blkOk_by (N := ["row", "places", "way", "found", "place", "moved", "other", "spot"]) (sc := defScope st__law_habit) (by decide +kernel)) (fun _ _ _ _ _ => pg_name (i := 7) sc__law_habit.nd rfl (Or.inl rfl))
            (fun _ _ _ _ _ => pts_nil) (fun _ _ _ _ _ => pe_op op_mod (pe_op op_add (pv 7) (pv 4)) (pv 1)))) pa_nil))))
        (pss_one (ps_if (pt_cmpR op_eq (pv 2) pe_int (nomark _))
          (pss_cons (ps_setLc (i := 5) (own := [("spot", 7)]) (g := gName 7) (tt := tYes) rfl sc__law_habit.nd rfl rfl (sw_true rfl rfl rfl (by decide +kernel)) (pi_range1 (by rfl) B.range (pa_cons (pv 1) pa_nil))
            (blkOk_by (N := ["row", "places", "way", "found", "place", "moved", "other", "spot"]) (sc := defScope st__law_habit) (by decide +kernel)) (fun _ _ _ _ _ => pg_name (i := 7) sc__law_habit.nd rfl (Or.inl rfl))
            (fun _ _ _ _ _ => pts_nil) (fun _ _ _ _ _ => pe_op op_add (pv 7) (pe_callTy call_int1 (by rfl) B.int (by decide +kernel) (pa_cons (pe_cmpR op_lt (pv 7) (pv 4) (nomark _)) pa_nil))))
          (pss_one (ps_expr (pe_bm PySem.F.plainAttrs_list PySem.F.slot_list_append PySem.F.type_list_append mt_append (pv 3) (pa_cons (pe_tupleOf (by rfl) B.tuple (pe_op op_cat (pe_op op_cat (pe_slice sl_list (pv 5) po_none (po_some (pv 4))) (pe_lst (pa_cons pe_int pa_nil)))
            (pe_slice sl_list (pv 5) (po_some (pe_op op_add (pv 4) pe_int)) po_none))) pa_nil)))))
        (pss_one (ps_if (pt_cmpR op_eq (pv 2) pe_int (nomark _))
          (pss_cons (ps_set (i := 6) sc__law_habit.nd rfl (.inl rfl) (pe_callB (call_max2 rfl) (by rfl) B.max (by decide +kernel) (pa_cons pe_int (pa_cons (pe_op op_sub (pv 4) pe_int) pa_nil))))
          (pss_cons (ps_set (i := 5) sc__law_habit.nd rfl (.inl rfl) (pe_listRg rfl (by rfl) B.list (prg_1 (by rfl) B.range (pv 1))))
          (pss_cons (ps_asg (pe_tup (pa_cons (pv 6) (pa_cons (pv 4) pa_nil))) (pg_tup rfl (pgs_cons (pg_sub (pv 5) (pv 4) set_list) (pgs_cons (pg_sub (pv 5) (pv 6) set_list) pgs_nil))))
          (pss_one (ps_expr (pe_bm PySem.F.plainAttrs_list PySem.F.slot_list_append PySem.F.type_list_append mt_append (pv 3) (pa_cons (pe_tupleOf (by rfl) B.tuple (pv 5)) pa_nil)))))))
        (pss_one (ps_if (PW.pt (pw_and (pt_cmpR op_eq (pv 2) pe_int (nomark _)) (pw_and1 (pt_cmpR op_eq (pc CT hr (pa_cons (pv 0) (pa_cons pe_int pa_nil))) pe_int (nomark _)))))
          (pss_one (ps_expr (pe_bm PySem.F.plainAttrs_list PySem.F.slot_list_append PySem.F.type_list_append mt_append (pv 3) (pa_cons (pe_tupRg rfl (by rfl) B.tuple (prg_1 (by rfl) B.range (pv 1))) pa_nil))))
          (pss_one (ps_expr (pe_bm PySem.F.plainAttrs_list PySem.F.slot_list_append PySem.F.type_list_append mt_append (pv 3) (pa_cons (pc CO hr (pa_cons (pv 0) (pa_cons (pv 1) pa_nil))) pa_nil))))))))))))) 
      (pss_one (ps_ret (pe_tupleOf (by rfl) B.tuple (pv 3))))), ?_⟩
    refine ⟨_, rfl, p, 5, rfl, hR, by decide, by decide, fun wy H0 w0 w1 hB0 hR0 => ⟨Nat.zero_le _, fun g hg0 => ⟨_, _, rfl, ?_⟩⟩⟩
    have hpg : p ≠ g := hR0.ne hg0
    have hg : H g = none := by
      cases e : H g with
      | none => rfl
      | some o =>
        rw [hB0 _ _ e (Ne.symm hpg)] at hg0
        cases hg0
    refine ⟨_, rfl, n, rfl, by omega, by omega, ?_⟩
    rw [Int.toNat_natCast]
    refine for_range (lo := 0) (n := n) (fun i σ H' => HI K p g H n i H' ∧ ∃ y4 y5 y6 y7, σ = [some (.ref p), some (.int n), some (.int wy), some (.ref g), y4, y5, y6, y7])
      ⟨⟨[], [], hB0.fresh hg, hR0.new hg0, upd_same, .nil, rfl, fun _ hm => absurd hm (List.not_mem_nil)⟩, none, none, none, none, rfl⟩ (fun i σ H1 hi h' => ?_) (fun σ H' h' => ?_)
    · obtain ⟨hI, y4, y5, y6, y7, rfl⟩ := h'
      obtain ⟨pT, pF, pS⟩ := perm_all n (by omega) i hi
      have hR1 : Row K H1 p := hI.choose_spec.choose_spec.2.1
      rw [Int.zero_add]
      refine ⟨_, rfl, rfl, _, rfl, ite2 (fun _ => ?_) (fun _ => ?_)⟩
      · -- turned round
        obtain ⟨xs, e1, xl, st⟩ := hI.step hg hpg (But.refl p H1) hR1
        refine ⟨_, rfl, .inl ⟨rfl, _, lstAt e1⟩, _, rfl, n, rfl, by omega, by omega, fun D hD => ?_⟩
        rw [Int.toNat_natCast]
        refine lc_range (lo := 0) (n := n) (fun j H' => Same H1 H' ∧ H' D = some (.lst (((List.range j).map fun s : Nat => ((s : Int) + (i : Int)) % (n : Int)).map V.int))) ⟨same_new hD, upd_same⟩ (fun j H' hj h' => ?_) (fun H' h' => ?_)
        · obtain ⟨sm, eD⟩ := h'
          refine ⟨rfl, _, rfl, _, rfl, _, _, rfl, rfl, _, rfl, _, n, rfl, rfl, by omega, _, eD, ?_, ?_, ?_⟩
          · rw [List.length_map, List.length_map, List.length_range]
            exact small1000 (by omega)
          · intro b o e
            rw [upd_ne (ne_of_none e hD)]
            exact sm b o e
          · rw [upd_same, range_more, Int.zero_add]
        · obtain ⟨sm, eD⟩ := h'
          refine .inl ⟨D, _, rfl, lstAt eD, fun t ht => ?_⟩
          have sT := sm.trans (same_new (o := .tup ((tF n i).map V.int)) ht)
          refine ⟨g, xs, .ref t, rfl, rfl, sT _ _ e1, small1000 (by omega), st t (tF n i) _ sT (tupAt upd_same) (List.isPerm_iff.mp pT), _, _, _, _, rfl⟩
      · refine ⟨_, rfl, rfl, _, rfl, ite2 (fun _ => ?_) (fun _ => ?_)⟩
        · -- to the front
          refine ⟨_, rfl, n, rfl, by omega, by omega, fun D hD => ?_⟩
          rw [Int.toNat_natCast]
          refine lc_range (lo := 0) (n := n) (fun j H' => Same H1 H' ∧ H' D = some (.lst (((List.range j).map fun s : Nat => (s : Int) + (if decide ((s : Int) < (i : Int)) = true then 1 else 0)).map V.int))) ⟨same_new hD, upd_same⟩ (fun j H' hj h' => ?_) (fun H' h' => ?_)
          · obtain ⟨sm, eD⟩ := h'
            refine ⟨rfl, _, rfl, _, rfl, _, rfl, _, _, rfl, rfl, .inr ⟨_, rfl, _, _, rfl, rfl, _, eD, ?_, ?_, ?_⟩⟩
            · rw [List.length_map, List.length_map, List.length_range]
              exact small1000 (by omega)
            · intro b o e
              rw [upd_ne (ne_of_none e hD)]
              exact sm b o e
            · rw [upd_same, range_more, Int.zero_add]
          · obtain ⟨sm, eD⟩ := h'
            have hR2 := hR1.same sm
            obtain ⟨xs, e1, xl, st⟩ := hI.step hg hpg (But.same sm) hR2
            have hDl : ((List.range n).map fun s : Nat => (s : Int) + (if decide ((s : Int) < (i : Int)) = true then 1 else 0)) = mF n i := rfl
            rw [hDl] at eD
            refine ⟨_, rfl, .inl ⟨rfl, _, lstAt e1⟩, _, rfl, _, rfl, (i : Int), rfl, D, _, rfl, lstAt eD, fun a1 ha1 => ⟨by show 1 ≤ sizeLine; decide, fun a2 ha2 => ?_⟩⟩
            rw [cut_to] at *
            have q1 := same_new (o := .lst (((mF n i).map V.int).take i)) ha1
            have q2 := same_new (o := .lst [.int 0]) ha2
            refine ⟨a1, a2, ((mF n i).map V.int).take i, [.int 0], rfl, rfl, q2 _ _ upd_same, upd_same, ?_, fun a3 ha3 => ?_⟩
            · rw [List.length_take, List.length_map, mF_len]
              exact Nat.le_of_lt (small1000 (by show min i n + 1 ≤ 1000; omega))
            have q3 := same_new (o := .lst (((mF n i).map V.int).take i ++ [.int 0])) ha3
            refine ⟨_, rfl, _, rfl, (i : Int), 1, rfl, rfl, (i : Int) + 1, rfl, D, _, rfl, lstAt (q3 _ _ (q2 _ _ (q1 _ _ eD))), fun a4 ha4 => ?_⟩
            have q4 := same_new (o := .lst (cutV ((mF n i).map V.int) (some ((i : Int) + 1)) none)) ha4
            have ec : cutV ((mF n i).map V.int) (some ((i : Int) + 1)) none = ((mF n i).map V.int).drop (i + 1) := cut_from _ (i + 1)
            refine ⟨a3, a4, _, _, rfl, rfl, q4 _ _ upd_same, upd_same, ?_, fun a5 ha5 => ?_⟩
            · rw [ec, List.length_append, List.length_take, List.length_drop, List.length_map, mF_len]
              exact Nat.le_of_lt (small1000 (by show min i n + 1 + (n - (i + 1)) ≤ 1000; omega))
            have q5 := same_new (o := .lst ((((mF n i).map V.int).take i ++ [.int 0]) ++ cutV ((mF n i).map V.int) (some ((i : Int) + 1)) none)) ha5
            refine .inl ⟨a5, _, rfl, lstAt upd_same, fun t ht => ?_⟩
            have q6 := same_new (o := .tup ((((mF n i).map V.int).take i ++ [.int 0]) ++ cutV ((mF n i).map V.int) (some ((i : Int) + 1)) none)) ht
            have qq := q1.trans (q2.trans (q3.trans (q4.trans (q5.trans q6))))
            have et : ((((mF n i).map V.int).take i ++ [.int 0]) ++ cutV ((mF n i).map V.int) (some ((i : Int) + 1)) none) = (fF n i).map V.int := by
              rw [ec]
              unfold fF
              rw [List.map_append, List.map_append, List.map_take, List.map_drop]
              rfl
            exact ⟨g, xs, .ref t, rfl, rfl, qq _ _ e1, small1000 (by omega), st t (fF n i) _ qq (tupAt (by rw [upd_same, et])) (List.isPerm_iff.mp pF), _, _, _, _, rfl⟩
        · refine ⟨_, rfl, rfl, _, rfl, ite2 (fun _ => ?_) (fun _ => ?_)⟩
          · -- neighbours
            refine ⟨_, rfl, (i : Int), 1, rfl, rfl, 0, (i : Int) - 1, rfl, ?_⟩
            have eo : (if (i : Int) - 1 > 0 then (i : Int) - 1 else 0) = ((i - 1 : Nat) : Int) := by
              split <;> omega
            rw [eo]
            refine ⟨_, rfl, n, rfl, ⟨by omega, by omega, by omega, by omega, by omega⟩, fun m hm => ?_⟩
            rw [rgV_rg] at *
            have hpm : p ≠ m := hR1.ne hm
            have s1 := same_new (o := .lst ((rg n).map V.int)) hm
            refine ⟨_, rfl, _, rfl, by show 2 ≤ sizeLine; decide, fun t ht => ?_⟩
            have s2 := same_new (o := .tup [.int ((i - 1 : Nat) : Int), .int (i : Int)]) ht
            have em := s2 _ _ (upd_same (H := H1) (a := m) (o := .lst ((rg n).map V.int)))
            have ll : ((rg n).map V.int).length = n := by rw [List.length_map, rg_len]
            refine ⟨t, _, rfl, tupAt upd_same, rfl, _, _, rfl, _, rfl, _, rfl, m, _, (i : Int), i, rfl, rfl, em, ?_, ?_⟩
            · have := ixN_int (n := ((rg n).map V.int).length) (k := (i : Int)) (by omega) (by omega)
              exact this
            refine ⟨_, _, rfl, _, rfl, _, rfl, m, _, ((i - 1 : Nat) : Int), i - 1, rfl, rfl, upd_same, ?_, rfl, ?_⟩
            · have := ixN_int (n := (((rg n).map V.int).set i (.int ((i - 1 : Nat) : Int))).length) (k := ((i - 1 : Nat) : Int)) (by omega) (by rw [List.length_set]; omega)
              exact this
            have et : (((rg n).map V.int).set i (.int ((i - 1 : Nat) : Int))).set (i - 1) (.int (i : Int)) = (sF n i).map V.int := by
              unfold sF
              rw [List.map_set, List.map_set]
            rw [et]
            have hR5 := ((hR1.same (s1.trans s2)).lst_upd (o := .lst (((rg n).map V.int).set i (.int ((i - 1 : Nat) : Int)))) em hpm).lst_upd (o := .lst ((sF n i).map V.int)) upd_same hpm
            obtain ⟨xs, e1, xl, st⟩ := hI.step hg hpg (((But.same (s1.trans s2)).fresh (o := .lst (((rg n).map V.int).set i (.int ((i - 1 : Nat) : Int)))) hm).fresh (o := .lst ((sF n i).map V.int)) hm) hR5
            refine ⟨_, rfl, .inl ⟨rfl, _, lstAt e1⟩, _, rfl, .inl ⟨m, _, rfl, lstAt upd_same, fun t2 ht2 => ?_⟩⟩
            have s6 := same_new (o := .tup ((sF n i).map V.int)) ht2
            exact ⟨g, xs, .ref t2, rfl, rfl, s6 _ _ e1, small1000 (by omega), st t2 (sF n i) _ s6 (tupAt upd_same) (List.isPerm_iff.mp pS), _, _, _, _, rfl⟩
          · have any : ∀ H3, But p H1 H3 → Row K H3 p → ∃ xs, H3 g = some (.lst xs) ∧ xs.length = i ∧ ∀ (q : Addr) (ns : List Int) (H6 : Hp), Same H3 H6 → SqT K H6 q (ns.map V.int) → ns.Perm (rg n) → HI K p g H n (i + 1) (upd H6 g (.lst (xs ++ [.ref q]))) := fun H3 b3 r3 => hI.step hg hpg b3 r3
            refine ⟨_, rfl, rfl, _, rfl, ite2 (fun _ => ?_) (fun _ => ?_)⟩
            · refine ⟨_, rfl, p, 2, rfl, hR1, by decide, by decide, fun k H3 k0 k1 hB3 hR3 => ⟨rfl, _, rfl, ite2 (fun _ => ?_) (fun _ => ?_)⟩⟩
              · obtain ⟨xs, e1, xl, st⟩ := any H3 hB3 hR3
                refine ⟨_, rfl, .inl ⟨rfl, _, lstAt e1⟩, _, rfl, n, rfl, ⟨by omega, by omega, by omega, by omega, by omega⟩, fun t ht => ?_⟩
                rw [rgV_rg] at *
                have s6 := same_new (o := .tup ((rg n).map V.int)) ht
                exact ⟨g, xs, .ref t, rfl, rfl, s6 _ _ e1, small1000 (by omega), st t (rg n) _ s6 (tupAt upd_same) (List.Perm.refl _), _, _, _, _, rfl⟩
              · obtain ⟨xs, e1, xl, st⟩ := any H3 hB3 hR3
                refine ⟨_, rfl, .inl ⟨rfl, _, lstAt e1⟩, _, rfl, _, rfl, p, n, rfl, hR3, by omega, fun H4 t ns pm b4 r4 _ e4 => ?_⟩
                obtain ⟨xs', e1', xl', st'⟩ := any H4 (hB3.trans b4) r4
                exact ⟨g, xs', .ref t, rfl, rfl, e1', small1000 (by omega), st' t ns _ (Same.refl H4) (.inl (FT.kx e4)) pm, _, _, _, _, rfl⟩
            · obtain ⟨xs, e1, xl, st⟩ := any H1 (But.refl p H1) hR1
              refine iteF ⟨_, rfl, .inl ⟨rfl, _, lstAt e1⟩, _, rfl, _, rfl, p, n, rfl, hR1, by omega, fun H4 t ns pm b4 r4 _ e4 => ?_⟩
              obtain ⟨xs', e1', xl', st'⟩ := any H4 b4 r4
              exact ⟨g, xs', .ref t, rfl, rfl, e1', small1000 (by omega), st' t ns _ (Same.refl H4) (.inl (FT.kx e4)) pm, _, _, _, _, rfl⟩
    · obtain ⟨⟨xs, hs, hB, hR', e, hE, hl, hp⟩, y4, y5, y6, y7, rfl⟩ := h'
      refine ⟨_, rfl, .inl ⟨g, xs, rfl, lstAt e, fun t ht => q _ _ hs ⟨hl, hp, n2, n5⟩ (hB.trans (But.same (same_new ht))) (hR'.new ht) ⟨t, xs, rfl, tupAt upd_same, hE.imp fun _ _ z => z.on (Same.tups (same_new ht))⟩⟩⟩
end
end RH
set_option Elab.async false
set_option linter.all false
set_option maxRecDepth 100000
set_option maxHeartbeats 2000000
namespace RH
open PySem PySem.Spec PyProof.Rows L2
/-! ### the checks of one shelf, a touch -/
section
variable {P : Program} {w : World} {K : PySem.W.Frag} {mg : Str → Option Value} {base : Heap}
theorem lay_yes {n : Nat} {L : List Int} (h : L.Perm (rg n)) : isLay n L = true := by
  unfold isLay
  exact List.isPerm_iff.mpr h
def spCheckHabit (K : PySem.W.Frag) : Sp := fun vs H Q _ => ∃ (v : V) (h : List (List Int)) (n : Nat), vs = [v] ∧ TII K H v h ∧ Hb n h ∧ ∀ H', Same H H' → Q .non H'
theorem ok_check_habit (F : Df K mg "check_habit" st_check_habit ["habit"]) (B : Bu mg) (c2 : ∃ t, mg "FEWEST_PLACES" = some (.int 2 t)) (c5 : ∃ t, mg "MOST_PLACES" = some (.int 5 t))
    (C1 : Cal P w K mg base 1 "is_row" (spIsRow K)) (C5 : Cal P w K mg base 5 "is_layout" (spIsLayout K)) : Cal P w K mg base 6 "check_habit" (spCheckHabit K) := by
  refine mkCal F sc_check_habit (fun vs H Q E h => ?_) (fun f cdv A outer s H vs Q E hr h => ?_)
  · obtain ⟨v, h, n, rfl, _⟩ := h
    rfl
  · obtain ⟨v, h, n, rfl, ⟨a, xs, rfl, hS, hE⟩, hb, q⟩ := h
    have hxl : xs.length = n := hE.len.trans hb.len
    have n2 := hb.lo
    have n5 := hb.hi
    refine ⟨_, pss_cons (ps_if (pt_not (pt_val (pc C1 hr (pa_cons (pv 0) (pa_cons (pk c2) (pa_cons (pk c5) pa_nil)))))) (pss_one ps_no) pss_nil)
      (pss_one (ps_for PassesOwn.never rfl (pi_enumT (by rfl) B.enumerate (pa_cons (pv 0) pa_nil)) (pg_tup rfl (pgs_cons (pg_name (i := 1) sc_check_habit.nd rfl (.inl rfl)) (pgs_cons (pg_name (i := 2) sc_check_habit.nd rfl (.inl rfl)) pgs_nil)))
        (pss_one (ps_if (pt_not (pt_val (pc C5 hr (pa_cons (pv 2) (pa_cons (pe_callB (cl_len K) (by rfl) B.len PySem.boot_len (pa_cons (pv 0) pa_nil)) pa_nil))))) (pss_one ps_no) pss_nil)))), ?_⟩
    refine ⟨_, rfl, a, xs, 2, 5, rfl, hS, _, rfl, ifF ?_ ?_⟩
    · rw [hxl, decide_eq_true (by omega), decide_eq_true (by omega)]
      rfl
    refine ⟨_, rfl, a, xs, rfl, hS, ?_⟩
    refine for_enumT (xs := xs) (fun i σ H' => Same H H' ∧ ∃ y1 y2, σ = [some (.ref a), y1, y2]) ⟨Same.refl H, none, none, rfl⟩ (fun i σ H' h' => onT h'.1 hS) (fun i x T σ H' hx h' hT => ?_) (fun σ H' h' => q H' h'.1)
    obtain ⟨sm, y1, y2, rfl⟩ := h'
    obtain ⟨ns, hn, hTx⟩ := hE.at hx
    have hpm := hb.perm ns (List.mem_of_getElem? hn)
    have sT : Same H (upd H' T (.tup [.int (i : Nat), x])) := sm.trans (same_new hT)
    refine ⟨T, _, rfl, tupAt upd_same, rfl, _, _, rfl, _, _, rfl, rfl, _, rfl, _, rfl, a, xs, rfl, .inr (onT sT hS), x, ns, n, by rw [hxl]; rfl, hTx.on (fun _ _ z => onT sT z), by rw [perm_len hpm]; omega, by omega, fun H3 sm3 => ⟨_, rfl, ifF (by rw [lay_yes hpm]; rfl) ⟨sT.trans sm3, _, _, rfl⟩⟩⟩
def spCheckLayout (K : PySem.W.Frag) : Sp := fun vs H Q _ => ∃ (v : V) (L : List Int) (n : Nat), vs = [v, .int n] ∧ TI K H v L ∧ L.Perm (rg n) ∧ n ≤ 5 ∧ ∀ H', Same H H' → Q .non H'
theorem ok_check_layout (F : Df K mg "check_layout" st_check_layout ["layout", "places"]) (C5 : Cal P w K mg base 5 "is_layout" (spIsLayout K)) : Cal P w K mg base 6 "check_layout" (spCheckLayout K) := by
  refine mkCal F sc_check_layout (fun vs H Q E h => ?_) (fun f cdv A outer s H vs Q E hr h => ?_)
  · obtain ⟨v, L, n, rfl, _⟩ := h
    rfl
  · obtain ⟨v, L, n, rfl, hT, hp, n5, q⟩ := h
    refine ⟨_, pss_one (ps_if (pt_not (pt_val (pc C5 hr (pa_cons (pv 0) (pa_cons (pv 1) pa_nil))))) (pss_one ps_no) pss_nil), ?_⟩
    exact ⟨_, rfl, _, rfl, v, L, n, rfl, hT, by rw [perm_len hp]; omega, by omega, fun H1 sm => ⟨_, rfl, ifF (by rw [lay_yes hp]; rfl) (q H1 sm)⟩⟩
def spCheckPlace : Sp := fun vs H Q _ => ∃ (i : Int) (n : Nat), vs = [.int i, .int n] ∧ InR n i ∧ Q .non H
theorem ok_check_place (F : Df K mg "check_place" st_check_place ["place", "places"]) (C3 : Cal P w K mg base 3 "is_place" spIsPlace) : Cal P w K mg base 4 "check_place" spCheckPlace := by
  refine mkCal F sc_check_place (fun vs H Q E h => ?_) (fun f cdv A outer s H vs Q E hr h => ?_)
  · obtain ⟨i, n, rfl, _⟩ := h
    rfl
  · obtain ⟨i, n, rfl, hi, q⟩ := h
    refine ⟨_, pss_one (ps_if (pt_not (pt_val (pc C3 hr (pa_cons (pv 0) (pa_cons (pv 1) pa_nil))))) (pss_one ps_no) pss_nil), ?_⟩
    exact ⟨_, rfl, _, rfl, i, n, rfl, _, rfl, ifF (by rw [decide_eq_true hi.1, decide_eq_true (by have := hi.2; omega)]; rfl) q⟩
def spPlacesOf (K : PySem.W.Frag) : Sp := fun vs H Q _ => ∃ (v : V) (h : List (List Int)) (n : Nat), vs = [v] ∧ TII K H v h ∧ Hb n h ∧ ∀ q, H q = none → Q (.ref q) (upd H q (.tup ((rg n).map V.int)))
theorem ok_places_of (F : Df K mg "places_of_habit" st_places_of_habit ["habit"]) (B : Bu mg) : Cal P w K mg base 1 "places_of_habit" (spPlacesOf K) := by
  refine mkCal F sc_places_of_habit (fun vs H Q E h => ?_) (fun f cdv A outer s H vs Q E hr h => ?_)
  · obtain ⟨v, h, n, rfl, _⟩ := h
    rfl
  · obtain ⟨v, h, n, rfl, ⟨a, xs, rfl, hS, hE⟩, hb, q⟩ := h
    have hxl : xs.length = n := hE.len.trans hb.len
    have n5 := hb.hi
    refine ⟨_, pss_one (ps_ret (pe_tupRg rfl (by rfl) B.tuple (prg_1 (by rfl) B.range (pe_callB (cl_len K) (by rfl) B.len PySem.boot_len (pa_cons (pv 0) pa_nil))))), ?_⟩
    refine ⟨_, rfl, a, xs, rfl, .inr hS, (xs.length : Int), rfl, ?_⟩
    rw [hxl]
    refine ⟨⟨by omega, by omega, by omega, by omega, by omega⟩, fun t ht => ?_⟩
    rw [rgV_rg]
    exact q t ht
def spMove (K : PySem.W.Frag) : Sp := fun vs H Q _ => ∃ (v : V) (h : List (List Int)) (n : Nat) (a : Addr) (L : List Int) (p : Int), vs = [v, .ref a, .int p] ∧ TII K H v h ∧ Hb n h ∧ SqT K H a (L.map V.int) ∧ (∀ i ∈ L, InR n i) ∧ L.length ≤ 1000 ∧ InR n p ∧
  ∀ H' q, Same H H' → H q = none → FT H' q (stp h p L) → Q (.ref q) H'
theorem ok_move (F : Df K mg "move" st_move ["habit", "layout", "place"]) (B : Bu mg) : Cal P w K mg base 1 "move" (spMove K) := by
  refine mkCal F sc_move (fun vs H Q E h => ?_) (fun f cdv A outer s H vs Q E hr h => ?_)
  · obtain ⟨v, h, n, a, L, p, rfl, _⟩ := h
    rfl
  · obtain ⟨v, h, n, a, L, p, rfl, ⟨ah, xs, rfl, hS, hE⟩, hb, hL, hin, hlen, hp, q⟩ := h
    refine ⟨_, pss_cons (ps_set (i := 3) sc_move.nd rfl (.inr rfl) (pe_ix ix_tup (pv 0) (pv 2) (fun _ _ => rfl)))
      (pss_one (ps_ret (pe_tupleF (by rfl) B.tuple (pe_lc (own := [("stood", 4)]) (g := gName 4) (tt := tYes) rfl sc_move.nd (pi_tup (pv 1)) (blkOk_by (N := ["habit", "layout", "place", "moves", "stood"]) (sc := defScope st_move) (by decide +kernel))
        (fun _ _ _ _ _ => pg_name (i := 4) sc_move.nd rfl (Or.inl rfl)) (fun _ _ _ _ _ => pts_nil) (fun _ _ _ _ _ => pe_ix (ixT K) (pv 3) (pv 4) (fun _ _ => rfl)))))), ?_⟩
    obtain ⟨a1, ns1, e1, s1, _⟩ := ix2 hE hb hp hp
    refine ⟨_, rfl, _, rfl, ah, xs, p, _, rfl, rfl, hS, e1, ?_⟩
    refine ⟨_, rfl, a, rfl, ⟨_, hL⟩, fun D hD => ?_⟩
    refine lc_tup (xs := L.map V.int) (fun i H' => Same H H' ∧ H' D = some (.lst (((L.take i).map (mv h p)).map V.int))) ⟨same_new hD, upd_same⟩ (fun i H' _ h' => onT h'.1 hL) (fun i x H' hx h' => ?_) (fun H' h' => ?_)
    · obtain ⟨st, hst, rfl⟩ := map_at hx
      obtain ⟨sm, eD⟩ := h'
      obtain ⟨a2, ns2, e2, s2, e3⟩ := ix2 hE hb hp (hin st (List.mem_of_getElem? hst))
      rw [e1] at e2
      cases e2
      refine ⟨rfl, _, rfl, _, rfl, a1, _, st, _, rfl, rfl, onT sm s2, e3, _, eD, ?_, ?_, ?_⟩
      · rw [List.length_map, List.length_map, List.length_take]
        exact small1000 (by omega)
      · intro b o e
        rw [upd_ne (ne_of_none e hD)]
        exact sm b o e
      · rw [upd_same, take_more hst, List.map_append, List.map_append]
        rfl
    · obtain ⟨sm, eD⟩ := h'
      rw [List.length_map, List.take_length] at eD
      refine ⟨D, _, rfl, lstAt eD, fun t ob ht hob => q _ t (sm.trans (same_new ht)) ?_ ⟨ob, upd_same, hob⟩⟩
      cases e : H t with
      | none => rfl
      | some o =>
        rw [sm _ _ e] at ht
        cases ht
def spTouched (K : PySem.W.Frag) : Sp := fun vs H Q _ => ∃ (v : V) (h : List (List Int)) (n : Nat) (a : Addr) (L : List Int) (p : Int), vs = [v, .ref a, .int p] ∧ TII K H v h ∧ Hb n h ∧ SqT K H a (L.map V.int) ∧ L.Perm (rg n) ∧ InR n p ∧
  ∀ H' q, Same H H' → FT H' q (stp h p L) → Q (.ref q) H'
theorem ok_touched (F : Df K mg "touched" st_touched ["habit", "layout", "place"]) (B : Bu mg) (CH : Cal P w K mg base 6 "check_habit" (spCheckHabit K)) (CL : Cal P w K mg base 6 "check_layout" (spCheckLayout K)) (CP : Cal P w K mg base 4 "check_place" spCheckPlace)
    (CM : Cal P w K mg base 1 "move" (spMove K)) : Cal P w K mg base 7 "touched" (spTouched K) := by
  refine mkCal F sc_touched (fun vs H Q E h => ?_) (fun f cdv A outer s H vs Q E hr h => ?_)
  · obtain ⟨v, h, n, a, L, p, rfl, _⟩ := h
    rfl
  · obtain ⟨v, h, n, a, L, p, rfl, hT, hb, hL, hpm, hp, q⟩ := h
    obtain ⟨ah, xs, rfl, hS, hE⟩ := id hT
    have hxl : xs.length = n := hE.len.trans hb.len
    have n5 := hb.hi
    refine ⟨_, pss_cons (ps_expr (pc CH hr (pa_cons (pv 0) pa_nil)))
      (pss_cons (ps_expr (pc CL hr (pa_cons (pv 1) (pa_cons (pe_callB (cl_len K) (by rfl) B.len PySem.boot_len (pa_cons (pv 0) pa_nil)) pa_nil))))
      (pss_cons (ps_expr (pc CP hr (pa_cons (pv 2) (pa_cons (pe_callB (cl_len K) (by rfl) B.len PySem.boot_len (pa_cons (pv 0) pa_nil)) pa_nil))))
      (pss_one (ps_ret (pc CM hr (pa_cons (pv 0) (pa_cons (pv 1) (pa_cons (pv 2) pa_nil)))))))), ?_⟩
    refine ⟨_, rfl, _, h, n, rfl, hT, hb, fun H1 s1 => ?_⟩
    refine ⟨_, rfl, _, rfl, ah, xs, rfl, .inr (onT s1 hS), _, L, n, by rw [hxl]; rfl, ⟨a, rfl, onT s1 hL⟩, hpm, n5, fun H2 s2 => ?_⟩
    have s12 := s1.trans s2
    refine ⟨_, rfl, _, rfl, ah, xs, rfl, .inr (onT s12 hS), p, n, by rw [hxl]; rfl, hp, ?_⟩
    refine ⟨_, rfl, _, rfl, _, rfl, _, h, n, a, L, p, rfl, hT.on (fun _ _ z => onT s12 z), hb, onT s12 hL, fun i hi => perm_in hpm hi, by rw [perm_len hpm]; omega, hp, fun H3 q3 s3 _ e3 => q H3 q3 (s12.trans s3) e3⟩
end
end RH
set_option Elab.async false
set_option linter.all false
set_option maxRecDepth 100000
set_option maxHeartbeats 2000000
namespace RH
open PySem PySem.Spec PyProof.Rows L2
/-! ### what the program tells of words -/
theorem sameU {H H' : Hp} {p : Addr} {o : HO} (a : Same H H') (h : H p = none) : Same H (upd H' p o) := fun b u e => by
  rw [upd_ne (ne_of_none e h)]
  exact a b u e
theorem none_of {H H' : Hp} {p : Addr} (a : Same H H') (h : H' p = none) : H p = none := by
  cases e : H p with
  | none => rfl
  | some o =>
    rw [a _ _ e] at h
    cases h
theorem FT.same {H H' : Hp} {b : Addr} {s : List Int} (e : Same H H') (h : FT H b s) : FT H' b s := let ⟨ob, h1, h2⟩ := h; ⟨ob, e _ _ h1, h2⟩
theorem FT.fix {H H' : Hp} {b : Addr} {s : List Int} (f : Fix H H') (h : FT H b s) : FT H' b s := let ⟨ob, h1, h2⟩ := h; ⟨ob, f _ _ h1 (fun xs z => nomatch z), h2⟩
theorem FT.sq {K : PySem.W.Frag} {H : Hp} {b : Addr} {s : List Int} (h : FT H b s) : SqT K H b (s.map V.int) := .inl h.kx
theorem shaped_tup (ns : List Int) : SeqAt.shaped (.tuple (ns.map PyData.int)) = true := by
  simp [SeqAt.shaped, PyData.canLay0, PyData.depth, PySem.W.ke_canLayAll0, PySem.W.ke_depthAll]
theorem eqv_tup (ns ms : List Int) : PyData.eqv (.tuple (ns.map PyData.int)) (.tuple (ms.map PyData.int)) = decide (ns = ms) := by
  rw [PyData.eqv]
  exact PySem.W.ked_eqvAll ns ms
theorem opEqD {X : Cx} (K : PySem.W.Frag) (hu : X.A.units + 64 < cLine) (h : X.K = K := by rfl) : OpR X (compareOp .Eq) (rEqD K) := by
  subst h
  exact op_eqD hu
section
variable {P : Program} {w : World} {K : PySem.W.Frag} {mg : Str → Option Value} {base : Heap}
def spIsWord (K : PySem.W.Frag) : Sp := fun vs H Q _ => ∃ (v : V) (ws : List Int) (p : Nat), vs = [v, .int p] ∧ TI K H v ws ∧ ws.length ≤ 400 ∧ (∀ t ∈ ws, InR p t) ∧ ∀ H', Same H H' → Q (.bl true) H'
theorem ok_is_word (F : Df K mg "is_word" st_is_word ["value", "places"]) (c400 : ∃ t, mg "MOST_TOUCHES" = some (.int 400 t)) (C1 : Cal P w K mg base 1 "is_row" (spIsRow K)) (C4 : Cal P w K mg base 4 "are_places" (spArePlaces K)) :
    Cal P w K mg base 5 "is_word" (spIsWord K) := by
  refine mkCal F sc_is_word (fun vs H Q E h => ?_) (fun f cdv A outer s H vs Q E hr h => ?_)
  · obtain ⟨v, ws, p, rfl, _⟩ := h
    rfl
  · obtain ⟨v, ws, p, rfl, ⟨a, rfl, hS⟩, hl, hin, q⟩ := h
    refine ⟨_, pss_one (ps_ret (pe_and (pc C1 hr (pa_cons (pv 0) (pa_cons pe_int (pa_cons (pk c400) pa_nil)))) (pe_one (pc C4 hr (pa_cons (pv 0) (pa_cons (pv 1) pa_nil)))))), ?_⟩
    refine ⟨_, rfl, a, ws.map V.int, 0, 400, rfl, hS, _, rfl, ifT ?_ ⟨_, rfl, _, rfl, .ref a, ws, p, rfl, ⟨a, rfl, hS⟩, by omega, fun H1 s1 => ?_⟩⟩
    · rw [List.length_map, decide_eq_true (by omega), decide_eq_true (by omega)]
      rfl
    · rw [inP_in hin]
      exact q H1 s1
def spCheckWord (K : PySem.W.Frag) : Sp := fun vs H Q _ => ∃ (v : V) (ws : List Int) (p : Nat), vs = [v, .int p] ∧ TI K H v ws ∧ ws.length ≤ 400 ∧ (∀ t ∈ ws, InR p t) ∧ ∀ H', Same H H' → Q .non H'
theorem ok_check_word (F : Df K mg "check_word" st_check_word ["word", "places"]) (C5 : Cal P w K mg base 5 "is_word" (spIsWord K)) : Cal P w K mg base 6 "check_word" (spCheckWord K) := by
  refine mkCal F sc_check_word (fun vs H Q E h => ?_) (fun f cdv A outer s H vs Q E hr h => ?_)
  · obtain ⟨v, ws, p, rfl, _⟩ := h
    rfl
  · obtain ⟨v, ws, p, rfl, hT, hl, hin, q⟩ := h
    refine ⟨_, pss_one (ps_if (pt_not (pt_val (pc C5 hr (pa_cons (pv 0) (pa_cons (pv 1) pa_nil))))) (pss_one ps_no) pss_nil), ?_⟩
    exact ⟨_, rfl, _, rfl, v, ws, p, rfl, hT, hl, hin, fun H1 sm => ⟨_, rfl, ifF rfl (q H1 sm)⟩⟩
/-- a habit, a layout and a word of n places -/
structure HLW (K : PySem.W.Frag) (H : Hp) (v : V) (h : List (List Int)) (n : Nat) (a : Addr) (L : List Int) (wv : V) (ws : List Int) : Prop where
  hT : TII K H v h
  hb : Hb n h
  fL : FT H a L
  hL : L.Perm (rg n)
  hW : TI K H wv ws
  hw : ∀ t ∈ ws, InR n t
  len : ws.length ≤ 400
theorem HLW.same {K : PySem.W.Frag} {H H' : Hp} {v : V} {h : List (List Int)} {n : Nat} {a : Addr} {L : List Int} {wv : V} {ws : List Int} (g : HLW K H v h n a L wv ws) (s : Same H H') : HLW K H' v h n a L wv ws :=
  ⟨g.hT.on (Same.tups s), g.hb, g.fL.same s, g.hL, g.hW.on (Same.tups s), g.hw, g.len⟩
theorem HLW.fix {K : PySem.W.Frag} {H H' : Hp} {v : V} {h : List (List Int)} {n : Nat} {a : Addr} {L : List Int} {wv : V} {ws : List Int} (g : HLW K H v h n a L wv ws) (s : Fix H H') : HLW K H' v h n a L wv ws :=
  ⟨g.hT.on s.tups, g.hb, g.fL.fix s, g.hL, g.hW.on s.tups, g.hw, g.len⟩
def spMoveAlong (K : PySem.W.Frag) : Sp := fun vs H Q _ => ∃ (v : V) (h : List (List Int)) (n : Nat) (a : Addr) (L : List Int) (wv : V) (ws : List Int), vs = [v, .ref a, wv] ∧ HLW K H v h n a L wv ws ∧ ∀ H' q, Same H H' → FT H' q (mvs h L ws) → Q (.ref q) H'
theorem ok_move_along (F : Df K mg "move_along" st_move_along ["habit", "layout", "word"]) (CM : Cal P w K mg base 1 "move" (spMove K)) : Cal P w K mg base 2 "move_along" (spMoveAlong K) := by
  refine mkCal F sc_move_along (fun vs H Q E h => ?_) (fun f cdv A outer s H vs Q E hr h => ?_)
  · obtain ⟨v, h, n, a, L, wv, ws, rfl, _⟩ := h
    rfl
  · obtain ⟨v, h, n, a, L, wv, ws, rfl, g, q⟩ := h
    obtain ⟨aw, rfl, hW⟩ := id g.hW
    refine ⟨_, pss_cons (ps_for PassesOwn.never rfl (pi_tup (pv 2)) (pg_name (i := 3) sc_move_along.nd rfl (.inl rfl)) (pss_one (ps_set (i := 1) sc_move_along.nd rfl (.inl rfl) (pc CM hr (pa_cons (pv 0) (pa_cons (pv 1) (pa_cons (pv 3) pa_nil)))))))
      (pss_one (ps_ret (pv 1))), ?_⟩
    refine ⟨_, rfl, aw, rfl, ⟨_, hW⟩, ?_⟩
    refine for_tup (xs := ws.map V.int) (fun i σ H' => Same H H' ∧ ∃ q1 y, σ = [some v, some (.ref q1), some (.ref aw), y] ∧ FT H' q1 (mvs h L (ws.take i))) ⟨Same.refl H, a, none, rfl, g.fL⟩ (fun i σ H' _ h' => onT h'.1 hW) (fun i x σ H' hx h' => ?_) (fun σ H' h' => ?_)
    · obtain ⟨t, ht, rfl⟩ := map_at hx
      obtain ⟨sm, q1, y, rfl, f1⟩ := h'
      have hp1 := g.hb.mvs_perm (ws := ws.take i) (fun u hu => g.hw u (List.mem_of_mem_take hu)) g.hL
      have n5 := g.hb.hi
      refine ⟨_, rfl, _, rfl, _, rfl, v, h, n, q1, _, t, rfl, (g.same sm).hT, g.hb, f1.sq, fun u hu => perm_in hp1 hu, by rw [perm_len hp1]; omega, g.hw t (List.mem_of_getElem? ht), fun H2 q2 s2 _ f2 => ⟨sm.trans s2, q2, _, rfl, ?_⟩⟩
      rw [mvs_more ht]
      exact f2
    · obtain ⟨sm, q1, y, rfl, f1⟩ := h'
      rw [List.length_map, List.take_length] at f1
      exact ⟨_, rfl, q H' q1 sm f1⟩
end
end RH
set_option Elab.async false
set_option linter.all false
set_option maxRecDepth 100000
set_option maxHeartbeats 2000000
namespace RH
open PySem PySem.Spec PyProof.Rows L2
/-! ### the law's own touches and books -/
theorem catT_ok {K : PySem.W.Frag} {H : Hp} {a b : Addr} {xs ys : List V} {Q : VK} (ha : SqT K H a xs) (hb : SqT K H b ys) (hl : xs.length + ys.length ≤ 1000) (q : ∀ r H', Same H H' → SqT K H' r (xs ++ ys) → Q (.ref r) H') : rCatA K (.ref a) (.ref b) H Q := by
  refine ⟨a, b, xs, ys, rfl, rfl, ha, hb, Nat.le_of_lt (small1000 hl), fun e => ?_, fun _ e => ?_, fun _ _ p hp => q p _ (same_new hp) (tupAt upd_same)⟩
  · subst e
    exact q b H (Same.refl H) hb
  · subst e
    exact q a H (Same.refl H) (by rw [List.append_nil]; exact ha)
section
variable {P : Program} {w : World} {K : PySem.W.Frag} {mg : Str → Option Value} {base : Heap}
theorem ok_ltouch (F : Df K mg "_law_touch" st__law_touch ["habit", "layout", "place"]) (B : Bu mg) : Cal P w K mg base 1 "_law_touch" (spMove K) := by
  refine mkCal F sc__law_touch (fun vs H Q E h => ?_) (fun f cdv A outer s H vs Q E hr h => ?_)
  · obtain ⟨v, h, n, a, L, p, rfl, _⟩ := h
    rfl
  · obtain ⟨v, h, n, a, L, p, rfl, ⟨ah, xs, rfl, hS, hE⟩, hb, hL, hin, hlen, hp, q⟩ := h
    refine ⟨_, pss_one (ps_ret (pe_tupleF (by rfl) B.tuple (pe_lc (own := [("spot", 3)]) (g := gName 3) (tt := tYes) rfl sc__law_touch.nd (pi_tup (pv 1)) (blkOk_by (N := ["habit", "layout", "place", "spot"]) (sc := defScope st__law_touch) (by decide +kernel))
        (fun _ _ _ _ _ => pg_name (i := 3) sc__law_touch.nd rfl (Or.inl rfl)) (fun _ _ _ _ _ => pts_nil) (fun _ _ _ _ _ => pe_ix (ixT K) (pe_ix (ixT K) (pv 0) (pv 2) (fun _ _ => rfl)) (pv 3) (fun _ _ => rfl))))), ?_⟩
    refine ⟨_, rfl, a, rfl, ⟨_, hL⟩, fun D hD => ?_⟩
    refine lc_tup (xs := L.map V.int) (fun i H' => Same H H' ∧ H' D = some (.lst (((L.take i).map (mv h p)).map V.int))) ⟨same_new hD, upd_same⟩ (fun i H' _ h' => onT h'.1 hL) (fun i x H' hx h' => ?_) (fun H' h' => ?_)
    · obtain ⟨st, hst, rfl⟩ := map_at hx
      obtain ⟨sm, eD⟩ := h'
      obtain ⟨a2, ns2, e2, s2, e3⟩ := ix2 hE hb hp (hin st (List.mem_of_getElem? hst))
      refine ⟨rfl, _, rfl, _, rfl, ah, xs, p, _, rfl, rfl, onT sm hS, e2, _, rfl, a2, _, st, _, rfl, rfl, onT sm s2, e3, _, eD, ?_, ?_, ?_⟩
      · rw [List.length_map, List.length_map, List.length_take]
        exact small1000 (by omega)
      · exact sameU sm hD
      · rw [upd_same, take_more hst, List.map_append, List.map_append]
        rfl
    · obtain ⟨sm, eD⟩ := h'
      rw [List.length_map, List.take_length] at eD
      exact ⟨D, _, rfl, lstAt eD, fun t ob ht hob => q _ t (sm.trans (same_new ht)) (none_of sm ht) ⟨ob, upd_same, hob⟩⟩
end
end RH
set_option Elab.async false
set_option linter.all false
set_option maxRecDepth 100000
set_option maxHeartbeats 2000000
namespace RH
open PySem PySem.Spec PyProof.Rows L2
/-! ### a search level by level, with words -/
abbrev SW := List Int × List Int
def exq (h : List (List Int)) (n : Nat) (q : SW) : List SW := (rg n).map fun p => (stp h p q.1, q.2 ++ [p])
def exl (h : List (List Int)) (n : Nat) (l : List SW) : List SW := l.flatMap (exq h n)
/-- those that are new: in no state of F, nor ahead -/
def ddS (F : List (List Int)) (acc : List SW) (q : SW) : List SW := if q.1 ∈ F ∨ q.1 ∈ acc.map Prod.fst then acc else acc ++ [q]
def dd (F : List (List Int)) (l : List SW) : List SW := l.foldl (ddS F) []
theorem dd_app (F : List (List Int)) (l m : List SW) : dd F (l ++ m) = m.foldl (ddS F) (dd F l) := List.foldl_append ..
theorem dd_snoc (F : List (List Int)) (l : List SW) (q : SW) : dd F (l ++ [q]) = ddS F (dd F l) q := dd_app F l [q]
theorem nd_one {α : Type} (a : α) : [a].Nodup := List.nodup_cons.mpr ⟨List.not_mem_nil, List.nodup_nil⟩
theorem snoc_ind {α : Type} {P : List α → Prop} (h0 : P []) (hs : ∀ l q, P l → P (l ++ [q])) : ∀ l, P l := by
  have : ∀ r : List α, P r.reverse := fun r => by
    induction r with
    | nil => exact h0
    | cons a r ih =>
      rw [List.reverse_cons]
      exact hs _ _ ih
  intro l
  have := this l.reverse
  rwa [List.reverse_reverse] at this
theorem ddS_in {F : List (List Int)} {acc : List SW} {q : SW} (h : q.1 ∈ F ∨ q.1 ∈ acc.map Prod.fst) : ddS F acc q = acc := if_pos h
theorem ddS_new {F : List (List Int)} {acc : List SW} {q : SW} (h : ¬ (q.1 ∈ F ∨ q.1 ∈ acc.map Prod.fst)) : ddS F acc q = acc ++ [q] := if_neg h
theorem dd_filter (F : List (List Int)) : ∀ l : List SW, (dd [] l).filter (fun q => decide (q.1 ∉ F)) = dd F l := by
  refine snoc_ind rfl fun l q ih => ?_
  rw [dd_snoc, dd_snoc]
  by_cases hF : q.1 ∈ F
  · rw [ddS_in (.inl hF), ← ih]
    by_cases h2 : q.1 ∈ (dd [] l).map Prod.fst
    · rw [ddS_in (.inr h2)]
    · rw [ddS_new (fun z => z.elim (List.not_mem_nil) h2), List.filter_append, List.filter_cons_of_neg (by simpa using hF), List.filter_nil, List.append_nil]
  · have e : q.1 ∈ (dd F l).map Prod.fst ↔ q.1 ∈ (dd [] l).map Prod.fst := by
      rw [← ih]
      constructor
      · intro z
        obtain ⟨x, hx, e⟩ := List.mem_map.mp z
        exact List.mem_map.mpr ⟨x, (List.mem_filter.mp hx).1, e⟩
      · intro z
        obtain ⟨x, hx, e⟩ := List.mem_map.mp z
        exact List.mem_map.mpr ⟨x, List.mem_filter.mpr ⟨hx, by rw [e]; exact decide_eq_true hF⟩, e⟩
    by_cases h2 : q.1 ∈ (dd [] l).map Prod.fst
    · rw [ddS_in (.inr h2), ddS_in (.inr (e.mpr h2)), ih]
    · rw [ddS_new (fun z => z.elim (List.not_mem_nil) h2), ddS_new (fun z => z.elim hF fun z => h2 (e.mp z)), List.filter_append, ih, List.filter_cons_of_pos (by simpa using hF), List.filter_nil]
theorem dd_known {F : List (List Int)} : ∀ {m : List SW} {acc : List SW}, (∀ q ∈ m, q.1 ∈ F) → m.foldl (ddS F) acc = acc
  | [], _, _ => rfl
  | q :: m, acc, h => by
    rw [List.foldl_cons, ddS_in (.inl (h q (List.mem_cons_self ..)))]
    exact dd_known fun x hx => h x (List.mem_cons_of_mem _ hx)
theorem exl_snoc (h : List (List Int)) (n : Nat) (l : List SW) (q : SW) : exl h n (l ++ [q]) = exl h n l ++ exq h n q := by
  unfold exl
  rw [List.flatMap_append]
  simp
theorem dd_drop {F : List (List Int)} {h : List (List Int)} {n : Nat} {keep : SW → Bool} : ∀ l : List SW, (∀ q ∈ l, keep q = false → ∀ p ∈ rg n, stp h p q.1 ∈ F) → dd F (exl h n (l.filter keep)) = dd F (exl h n l) := by
  refine snoc_ind (fun _ => rfl) fun l q ih hq => ?_
  have ih' := ih fun x hx => hq x (List.mem_append_left _ hx)
  rw [List.filter_append, exl_snoc, dd_app]
  by_cases hk : keep q = true
  · rw [List.filter_cons_of_pos hk, List.filter_nil, exl_snoc, dd_app, ih']
  · have hk' : keep q = false := by simpa using hk
    rw [List.filter_cons_of_neg hk, List.filter_nil, List.append_nil, ih', dd_known]
    intro x hx
    obtain ⟨p, hp, rfl⟩ := List.mem_map.mp hx
    exact hq q (List.mem_append_right _ (List.mem_singleton.mpr rfl)) hk' p hp
theorem dd_mono {F : List (List Int)} : ∀ {m acc : List SW} {q : SW}, q ∈ acc → q ∈ m.foldl (ddS F) acc
  | [], _, _, h => h
  | x :: m, acc, q, h => by
    rw [List.foldl_cons]
    refine dd_mono (m := m) ?_
    unfold ddS
    split
    · exact h
    · exact List.mem_append_left _ h
theorem dd_has (F : List (List Int)) : ∀ l : List SW, ∀ q ∈ l, q.1 ∈ F ∨ q.1 ∈ (dd F l).map Prod.fst := by
  refine snoc_ind (fun q hq => nomatch hq) fun l x ih q hq => ?_
  rw [dd_snoc]
  rcases List.mem_append.mp hq with z | z
  · rcases ih q z with y | y
    · exact .inl y
    · refine .inr ?_
      unfold ddS
      split
      · exact y
      · rw [List.map_append]
        exact List.mem_append_left _ y
  · rw [List.mem_singleton.mp z]
    by_cases hx : x.1 ∈ F ∨ x.1 ∈ (dd F l).map Prod.fst
    · rw [ddS_in hx]
      exact hx
    · rw [ddS_new hx, List.map_append]
      exact .inr (List.mem_append_right _ (List.mem_singleton.mpr rfl))
structure DdOk (F : List (List Int)) (l d : List SW) : Prop where
  sub : ∀ q ∈ d, q ∈ l
  new : ∀ q ∈ d, q.1 ∉ F
  nd : (d.map Prod.fst).Nodup
theorem dd_ok (F : List (List Int)) : ∀ l : List SW, DdOk F l (dd F l) := by
  refine snoc_ind ⟨fun q hq => (nomatch hq), fun q hq => (nomatch hq), List.nodup_nil⟩ fun l x ih => ?_
  rw [dd_snoc]
  by_cases hx : x.1 ∈ F ∨ x.1 ∈ (dd F l).map Prod.fst
  · rw [ddS_in hx]
    exact ⟨fun q hq => List.mem_append_left _ (ih.sub q hq), ih.new, ih.nd⟩
  · rw [ddS_new hx]
    refine ⟨fun q hq => ?_, fun q hq => ?_, ?_⟩
    · rcases List.mem_append.mp hq with z | z
      · exact List.mem_append_left _ (ih.sub q z)
      · exact List.mem_append_right _ z
    · rcases List.mem_append.mp hq with z | z
      · exact ih.new q z
      · rw [List.mem_singleton.mp z]
        exact fun y => hx (.inl y)
    · rw [List.map_append, List.nodup_append]
      refine ⟨ih.nd, nd_one _, fun a ha b hb e => ?_⟩
      rw [List.map_singleton, List.mem_singleton] at hb
      rw [e, hb] at ha
      exact hx (.inr ha)
/-- what is found, and the level, behind k levels -/
def bf (h : List (List Int)) (n : Nat) (L : List Int) : Nat → List SW × List SW
  | 0 => ([(L, [])], [(L, [])])
  | k + 1 => ((bf h n L k).1 ++ dd ((bf h n L k).1.map Prod.fst) (exl h n (bf h n L k).2), dd ((bf h n L k).1.map Prod.fst) (exl h n (bf h n L k).2))
def fd (h : List (List Int)) (n : Nat) (L : List Int) (k : Nat) : List SW := (bf h n L k).1
def lv (h : List (List Int)) (n : Nat) (L : List Int) (k : Nat) : List SW := (bf h n L k).2
def lst (h : List (List Int)) (n : Nat) (L : List Int) : Nat → List SW
  | 0 => [(L, [])]
  | k + 1 => dd [] (exl h n (lst h n L k))
section
variable {h : List (List Int)} {n : Nat} {L : List Int}
theorem fd_succ (k : Nat) : fd h n L (k + 1) = fd h n L k ++ lv h n L (k + 1) := rfl
theorem lv_succ (k : Nat) : lv h n L (k + 1) = dd ((fd h n L k).map Prod.fst) (exl h n (lv h n L k)) := rfl
theorem fd_mono {k j : Nat} (hk : k ≤ j) {q : SW} (hq : q ∈ fd h n L k) : q ∈ fd h n L j := by
  induction hk with
  | refl => exact hq
  | step _ ih => exact List.mem_append_left _ ih
theorem lv_fd {k : Nat} {q : SW} (hq : q ∈ lv h n L k) : q ∈ fd h n L k := by
  cases k with
  | zero => exact hq
  | succ k => exact List.mem_append_right _ hq
theorem lv_ex {k : Nat} {q : SW} (hq : q ∈ lv h n L k) {p : Int} (hp : p ∈ rg n) : stp h p q.1 ∈ (fd h n L (k + 1)).map Prod.fst := by
  have hm : (stp h p q.1, q.2 ++ [p]) ∈ exl h n (lv h n L k) := List.mem_flatMap.mpr ⟨q, hq, List.mem_map.mpr ⟨p, hp, rfl⟩⟩
  rw [fd_succ, List.map_append, List.mem_append]
  exact dd_has _ _ _ hm
theorem fd_ex {q : SW} {p : Int} (hp : p ∈ rg n) : ∀ {k : Nat}, q ∈ fd h n L k → stp h p q.1 ∈ (fd h n L (k + 1)).map Prod.fst
  | 0, hq => lv_ex (k := 0) hq hp
  | k + 1, hq => by
    rw [fd_succ, List.mem_append] at hq
    rcases hq with hq | hq
    · have := fd_ex hp hq
      rw [fd_succ (k + 1), List.map_append, List.mem_append]
      exact .inl this
    · exact lv_ex hq hp
theorem lv_lst : ∀ k : Nat, lv h n L (k + 1) = (lst h n L (k + 1)).filter (fun q => decide (q.1 ∉ (fd h n L k).map Prod.fst))
  | 0 => by
    rw [lv_succ]
    show _ = (dd [] (exl h n (lst h n L 0))).filter _
    rw [dd_filter]
    rfl
  | k + 1 => by
    rw [lv_succ, lv_lst k]
    show _ = (dd [] (exl h n (lst h n L (k + 1)))).filter _
    rw [dd_filter]
    refine dd_drop _ fun q hq hk p hp => ?_
    have hk' : q.1 ∈ (fd h n L k).map Prod.fst := by simpa using hk
    obtain ⟨x, hx, e⟩ := List.mem_map.mp hk'
    rw [← e]
    exact fd_ex hp hx
theorem lv_sub {k : Nat} {q : SW} (hq : q ∈ lv h n L k) : q ∈ lst h n L k := by
  cases k with
  | zero => exact hq
  | succ k =>
    rw [lv_lst] at hq
    exact (List.mem_filter.mp hq).1
theorem lst_nd : ∀ k : Nat, ((lst h n L k).map Prod.fst).Nodup
  | 0 => nd_one _
  | k + 1 => (dd_ok [] _).nd
theorem exl_len {l : List SW} {k : Nat} (hl : ∀ q ∈ l, q.2.length = k) : ∀ q ∈ exl h n l, q.2.length = k + 1 := fun q hq => by
  obtain ⟨x, hx, hq⟩ := List.mem_flatMap.mp hq
  obtain ⟨p, _, rfl⟩ := List.mem_map.mp hq
  rw [List.length_append, hl x hx]
  rfl
theorem lv_len : ∀ k : Nat, ∀ q ∈ lv h n L k, q.2.length = k
  | 0, q, hq => by
    rw [List.mem_singleton.mp hq]
    rfl
  | k + 1, q, hq => exl_len (lv_len k) q ((dd_ok _ _).sub q hq)
theorem lst_len : ∀ k : Nat, ∀ q ∈ lst h n L k, q.2.length = k
  | 0, q, hq => by
    rw [List.mem_singleton.mp hq]
    rfl
  | k + 1, q, hq => exl_len (lst_len k) q ((dd_ok _ _).sub q hq)
theorem fd_len : ∀ k : Nat, ∀ q ∈ fd h n L k, q.2.length ≤ k
  | 0, q, hq => by
    rw [List.mem_singleton.mp hq]
    exact Nat.le_refl _
  | k + 1, q, hq => by
    rw [fd_succ, List.mem_append] at hq
    rcases hq with hq | hq
    · exact Nat.le_succ_of_le (fd_len k q hq)
    · exact Nat.le_of_eq (lv_len (k + 1) q hq)
theorem fd_lv : ∀ k : Nat, (fd h n L k).filter (fun q => decide (q.2.length = k)) = lv h n L k
  | 0 => rfl
  | k + 1 => by
    rw [fd_succ, List.filter_append, List.filter_eq_nil_iff.mpr, List.nil_append, List.filter_eq_self.mpr]
    · exact fun q hq => decide_eq_true (lv_len (k + 1) q hq)
    · intro q hq
      have := fd_len k q hq
      simp only [decide_eq_true_eq]
      omega
theorem fd_nd : ∀ k : Nat, ((fd h n L k).map Prod.fst).Nodup
  | 0 => nd_one _
  | k + 1 => by
    rw [fd_succ, List.map_append, List.nodup_append]
    refine ⟨fd_nd k, (dd_ok _ _).nd, fun a ha b hb e => ?_⟩
    obtain ⟨x, hx, rfl⟩ := List.mem_map.mp hb
    exact (dd_ok _ _).new x hx (e ▸ ha)
theorem lv_done {a : Nat} (e : lv h n L a = []) : ∀ j : Nat, lv h n L (a + j) = [] ∧ fd h n L (a + j) = fd h n L a
  | 0 => ⟨e, rfl⟩
  | j + 1 => by
    obtain ⟨h1, h2⟩ := lv_done e j
    have h3 : lv h n L (a + j + 1) = [] := by
      rw [lv_succ, h1]
      rfl
    refine ⟨h3, ?_⟩
    show fd h n L (a + j + 1) = _
    rw [fd_succ, h3, List.append_nil, h2]
theorem fd_one {a b : Nat} (ha : lv h n L a = []) (hb : lv h n L b = []) : fd h n L a = fd h n L b := by
  rcases Nat.le_total a b with z | z
  · obtain ⟨j, rfl⟩ := Nat.exists_eq_add_of_le z
    exact (lv_done ha j).2.symm
  · obtain ⟨j, rfl⟩ := Nat.exists_eq_add_of_le z
    exact (lv_done hb j).2
theorem fd_all {a k : Nat} (ha : lv h n L a = []) {q : SW} (hq : q ∈ fd h n L k) : q ∈ fd h n L a := by
  rcases Nat.le_total k a with z | z
  · exact fd_mono z hq
  · obtain ⟨j, rfl⟩ := Nat.exists_eq_add_of_le z
    rw [← (lv_done ha j).2]
    exact hq
theorem fd_start (k : Nat) : (L, []) ∈ fd h n L k := fd_mono (Nat.zero_le k) (List.mem_singleton.mpr rfl)
theorem fd_least {C : List Int → Prop} (h0 : C L) (hs : ∀ s, C s → ∀ p ∈ rg n, C (stp h p s)) : ∀ k : Nat, ∀ q ∈ fd h n L k, C q.1
  | 0, q, hq => by
    rw [List.mem_singleton.mp hq]
    exact h0
  | k + 1, q, hq => by
    rw [fd_succ, List.mem_append] at hq
    rcases hq with hq | hq
    · exact fd_least h0 hs k q hq
    · have := (dd_ok _ _).sub q hq
      obtain ⟨x, hx, hq⟩ := List.mem_flatMap.mp this
      obtain ⟨p, hp, rfl⟩ := List.mem_map.mp hq
      exact hs _ (fd_least h0 hs k x (lv_fd hx)) p hp
theorem fd_val {k : Nat} {s w w' : List Int} (h1 : (s, w) ∈ fd h n L k) (h2 : (s, w') ∈ fd h n L k) : w = w' := by
  have nd : ∀ {l : List SW}, (l.map Prod.fst).Nodup → (s, w) ∈ l → (s, w') ∈ l → w = w' := fun {l} => by
    induction l with
    | nil => exact fun _ z _ => nomatch z
    | cons x l ih =>
      intro nd a b
      rw [List.map_cons, List.nodup_cons] at nd
      rcases List.mem_cons.mp a with e1 | a
      · rcases List.mem_cons.mp b with e2 | b
        · rw [← e1] at e2
          exact (Prod.mk.inj e2).2.symm
        · rw [← e1] at nd
          exact absurd (List.mem_map.mpr ⟨_, b, rfl⟩) nd.1
      · rcases List.mem_cons.mp b with e2 | b
        · rw [← e2] at nd
          exact absurd (List.mem_map.mpr ⟨_, a, rfl⟩) nd.1
        · exact ih nd.2 a b
  exact nd (fd_nd k) h1 h2
/-- the only word of the state in the list of a length -/
theorem lst_only {k : Nat} {s w : List Int} (hq : (s, w) ∈ lst h n L k) : ((lst h n L k).filter (fun q => decide (q.1 = s))).map Prod.snd = [w] := by
  have go : ∀ {l : List SW}, (l.map Prod.fst).Nodup → (s, w) ∈ l → (l.filter (fun q => decide (q.1 = s))).map Prod.snd = [w] := fun {l} => by
    induction l with
    | nil => exact fun _ z => nomatch z
    | cons x l ih =>
      intro nd a
      rw [List.map_cons, List.nodup_cons] at nd
      rcases List.mem_cons.mp a with e1 | a
      · subst e1
        rw [List.filter_cons_of_pos (by simp), List.filter_eq_nil_iff.mpr]
        · rfl
        · intro y hy z
          have e : y.1 = s := by simpa using z
          exact nd.1 (List.mem_map.mpr ⟨y, hy, e⟩)
      · rw [List.filter_cons_of_neg]
        · exact ih nd.2 a
        · intro z
          have e : x.1 = s := by simpa using z
          exact nd.1 (List.mem_map.mpr ⟨_, a, e.symm⟩)
  exact go (lst_nd k) hq
end
/-! ### layouts are few, and touches lead back -/
theorem nd_len {α : Type} [DecidableEq α] : ∀ {l m : List α}, l.Nodup → (∀ x ∈ l, x ∈ m) → l.length ≤ m.length
  | [], _, _, _ => Nat.zero_le _
  | a :: l, m, nd, hs => by
    rw [List.nodup_cons] at nd
    have ha := hs a (List.mem_cons_self ..)
    have := nd_len (l := l) (m := m.erase a) nd.2 fun x hx => (List.mem_erase_of_ne (fun e => nd.1 (by rw [← e]; exact hx))).mpr (hs x (List.mem_cons_of_mem _ hx))
    rw [List.length_erase_of_mem ha] at this
    have hm := List.length_pos_of_mem ha
    rw [List.length_cons]
    omega
theorem nd_full {α : Type} [DecidableEq α] {l m : List α} (nd : l.Nodup) (hs : ∀ x ∈ l, x ∈ m) (hl : m.length ≤ l.length) : ∀ x ∈ m, x ∈ l := fun x hx => by
  by_cases h : x ∈ l
  · exact h
  · have := nd_len (l := x :: l) (m := m) (List.nodup_cons.mpr ⟨h, nd⟩) fun y hy => by
      rcases List.mem_cons.mp hy with rfl | hy
      · exact hx
      · exact hs y hy
    rw [List.length_cons] at this
    omega
section
variable {h : List (List Int)} {n : Nat} {L : List Int}
theorem Hb.fd_perm (q : Hb n h) (hL : L.Perm (rg n)) (k : Nat) : ∀ x ∈ fd h n L k, x.1.Perm (rg n) :=
  fd_least (C := fun s => s.Perm (rg n)) hL (fun s hs p hp => q.stp_perm (rg_mem.mp hp) hs) k
theorem stp_inj (q : Hb n h) {p : Int} (hp : p ∈ rg n) {s t : List Int} (hs : s.Perm (rg n)) (ht : t.Perm (rg n)) (e : stp h p s = stp h p t) : s = t :=
  map_inj_on (fun x hx y hy => q.mv_inj (rg_mem.mp hp) (perm_in hs hx) (perm_in ht hy)) e
theorem nd_map_on {α β : Type} {f : α → β} : ∀ {l : List α}, (∀ a ∈ l, ∀ b ∈ l, f a = f b → a = b) → l.Nodup → (l.map f).Nodup
  | [], _, _ => List.nodup_nil
  | a :: l, h, nd => by
    rw [List.nodup_cons] at nd
    rw [List.map_cons, List.nodup_cons]
    refine ⟨fun z => ?_, nd_map_on (fun x hx y hy => h x (List.mem_cons_of_mem _ hx) y (List.mem_cons_of_mem _ hy)) nd.2⟩
    obtain ⟨y, hy, e⟩ := List.mem_map.mp z
    have := h y (List.mem_cons_of_mem _ hy) a (List.mem_cons_self ..) e
    exact nd.1 (this ▸ hy)
theorem fd_closed {a : Nat} (ha : lv h n L a = []) {s : List Int} (hs : s ∈ (fd h n L a).map Prod.fst) {p : Int} (hp : p ∈ rg n) : stp h p s ∈ (fd h n L a).map Prod.fst := by
  obtain ⟨x, hx, rfl⟩ := List.mem_map.mp hs
  have := fd_ex hp hx
  rwa [(lv_done ha 1).2] at this
/-- if a layout can come from another, this one can come from it, too -/
theorem Hb.back (q : Hb n h) (hL : L.Perm (rg n)) {O : List Int} {a b : Nat} (ha : lv h n L a = []) (hO : O ∈ (fd h n L a).map Prod.fst) (hb : lv h n O b = []) : L ∈ (fd h n O b).map Prod.fst := by
  by_cases hx : L ∈ (fd h n O b).map Prod.fst
  · exact hx
  · exfalso
    obtain ⟨x, hx1, rfl⟩ := List.mem_map.mp hO
    have hpO := q.fd_perm hL a x hx1
    have := fd_least (h := h) (n := n) (L := L) (C := fun s => s.Perm (rg n) ∧ s ∉ (fd h n x.1 b).map Prod.fst) ⟨hL, hx⟩ (fun s hs p hp => ⟨q.stp_perm (rg_mem.mp hp) hs.1, fun z => ?_⟩) a x hx1
    · exact this.2 (List.mem_map.mpr ⟨_, fd_start b, rfl⟩)
    · have per : ∀ t ∈ (fd h n x.1 b).map Prod.fst, t.Perm (rg n) := fun t ht => by
        obtain ⟨y, hy, rfl⟩ := List.mem_map.mp ht
        exact q.fd_perm hpO b y hy
      have full := nd_full (l := ((fd h n x.1 b).map Prod.fst).map (stp h p)) (m := (fd h n x.1 b).map Prod.fst) (nd_map_on (fun s hs t ht e => stp_inj q hp (per s hs) (per t ht) e) (fd_nd b))
        (fun t ht => by
          obtain ⟨y, hy, rfl⟩ := List.mem_map.mp ht
          exact fd_closed hb hy hp) (Nat.le_of_eq (List.length_map ..).symm)
      obtain ⟨y, hy, e⟩ := List.mem_map.mp (full _ z)
      have := stp_inj q hp (per y hy) hs.1 e
      exact hs.2 (this ▸ hy)
end
/-! ### within a level -/
def insE (a : Int) : List Int → List (List Int)
  | [] => [[a]]
  | b :: l => (a :: b :: l) :: (insE a l).map (b :: ·)
def prm : List Int → List (List Int)
  | [] => [[]]
  | a :: l => (prm l).flatMap (insE a)
theorem insE_perm {a : Int} : ∀ {l s : List Int}, s ∈ insE a l → s.Perm (a :: l)
  | [], s, h => by
    rw [List.mem_singleton.mp h]
  | b :: l, s, h => by
    rcases List.mem_cons.mp h with rfl | h
    · exact List.Perm.refl _
    · obtain ⟨t, ht, rfl⟩ := List.mem_map.mp h
      exact ((insE_perm ht).cons b).trans (List.Perm.swap ..)
theorem mem_insE {a : Int} : ∀ (s1 s2 : List Int), s1 ++ a :: s2 ∈ insE a (s1 ++ s2)
  | [], [] => List.mem_singleton.mpr rfl
  | [], b :: l => List.mem_cons_self ..
  | b :: s1, s2 => List.mem_cons_of_mem _ (List.mem_map.mpr ⟨_, mem_insE s1 s2, rfl⟩)
theorem mem_prm : ∀ {l s : List Int}, s ∈ prm l ↔ s.Perm l
  | [], s => by
    constructor
    · intro h
      rw [List.mem_singleton.mp h]
    · intro h
      rw [List.perm_nil.mp h]
      exact List.mem_singleton.mpr rfl
  | a :: l, s => by
    constructor
    · intro h
      obtain ⟨t, ht, hs⟩ := List.mem_flatMap.mp h
      exact (insE_perm hs).trans ((mem_prm.mp ht).cons a)
    · intro h
      have ha : a ∈ s := h.mem_iff.mpr (List.mem_cons_self ..)
      obtain ⟨s1, s2, rfl⟩ := List.append_of_mem ha
      have h2 : (s1 ++ s2).Perm l := (List.perm_middle.symm.trans h).cons_inv
      exact List.mem_flatMap.mpr ⟨_, mem_prm.mpr h2, mem_insE s1 s2⟩
theorem prm_few : ∀ n, n < 6 → (prm (rg n)).length ≤ 120 := by decide +kernel
/-- what is new behind m expansions of the k-th level -/
def prt (h : List (List Int)) (n : Nat) (L : List Int) (k m : Nat) : List SW := dd ((fd h n L k).map Prod.fst) ((exl h n (lv h n L k)).take m)
section
variable {h : List (List Int)} {n : Nat} {L : List Int}
theorem exq_len (q : SW) : (exq h n q).length = n := by
  unfold exq
  rw [List.length_map, rg_len]
theorem exl_cons (q : SW) (l : List SW) : exl h n (q :: l) = exq h n q ++ exl h n l := rfl
theorem exl_length : ∀ l : List SW, (exl h n l).length = l.length * n
  | [] => by
    rw [List.length_nil, Nat.zero_mul]
    rfl
  | q :: l => by
    rw [exl_cons, List.length_append, exq_len, exl_length l, List.length_cons, Nat.succ_mul, Nat.add_comm]
theorem exl_at : ∀ {l : List SW} {i j : Nat} {q : SW}, l[i]? = some q → j < n → (exl h n l)[i * n + j]? = some (stp h (j : Int) q.1, q.2 ++ [(j : Int)])
  | [], _, _, _, e, _ => by simp at e
  | a :: l, 0, j, q, e, hj => by
    cases Option.some.inj e
    rw [exl_cons, Nat.zero_mul, Nat.zero_add, List.getElem?_append_left (by rw [exq_len]; exact hj)]
    unfold exq
    rw [List.getElem?_map, rg_at hj]
    rfl
  | a :: l, i + 1, j, q, e, hj => by
    rw [exl_cons, List.getElem?_append_right (by rw [exq_len, Nat.succ_mul]; omega), exq_len, show (i + 1) * n + j - n = i * n + j by rw [Nat.succ_mul]; omega]
    exact exl_at (l := l) (i := i) e hj
theorem prt_zero (k : Nat) : prt h n L k 0 = [] := by
  unfold prt
  rw [List.take_zero]
  rfl
theorem prt_all (k : Nat) : prt h n L k ((lv h n L k).length * n) = lv h n L (k + 1) := by
  unfold prt
  rw [← exl_length, List.take_length, lv_succ]
theorem prt_old {k i j : Nat} {q : SW} (hq : (lv h n L k)[i]? = some q) (hj : j < n) (hk : stp h (j : Int) q.1 ∈ (fd h n L k ++ prt h n L k (i * n + j)).map Prod.fst) : prt h n L k (i * n + j + 1) = prt h n L k (i * n + j) := by
  unfold prt at hk ⊢
  rw [take_more (exl_at hq hj), dd_snoc, ddS_in]
  rw [List.map_append, List.mem_append] at hk
  exact hk
theorem prt_new {k i j : Nat} {q : SW} (hq : (lv h n L k)[i]? = some q) (hj : j < n) (hk : stp h (j : Int) q.1 ∉ (fd h n L k ++ prt h n L k (i * n + j)).map Prod.fst) :
    prt h n L k (i * n + j + 1) = prt h n L k (i * n + j) ++ [(stp h (j : Int) q.1, q.2 ++ [(j : Int)])] := by
  unfold prt at hk ⊢
  rw [take_more (exl_at hq hj), dd_snoc, ddS_new]
  rw [List.map_append, List.mem_append] at hk
  exact hk
theorem prt_sub {k m : Nat} {q : SW} (hq : q ∈ prt h n L k m) : q ∈ lv h n L (k + 1) := by
  rw [lv_succ, ← List.take_append_drop m (exl h n (lv h n L k)), dd_app]
  exact dd_mono hq
theorem prt_fd {k m : Nat} {q : SW} (hq : q ∈ fd h n L k ++ prt h n L k m) : q ∈ fd h n L (k + 1) := by
  rcases List.mem_append.mp hq with z | z
  · exact List.mem_append_left _ z
  · exact lv_fd (prt_sub z)
theorem prt_nd (k m : Nat) : ((fd h n L k ++ prt h n L k m).map Prod.fst).Nodup := by
  rw [List.map_append, List.nodup_append]
  refine ⟨fd_nd k, (dd_ok _ _).nd, fun a ha b hb e => ?_⟩
  obtain ⟨x, hx, rfl⟩ := List.mem_map.mp hb
  exact (dd_ok _ _).new x hx (e ▸ ha)
theorem few {l : List SW} (n5 : n ≤ 5) (nd : (l.map Prod.fst).Nodup) (hp : ∀ x ∈ l, x.1.Perm (rg n)) : l.length ≤ 120 := by
  have := nd_len nd (m := prm (rg n)) fun s hs => by
    obtain ⟨x, hx, rfl⟩ := List.mem_map.mp hs
    exact mem_prm.mpr (hp x hx)
  rw [List.length_map] at this
  exact Nat.le_trans this (prm_few n (by omega))
theorem Hb.prt_few (q : Hb n h) (hL : L.Perm (rg n)) (k m : Nat) : (fd h n L k ++ prt h n L k m).length ≤ 120 :=
  few q.hi (prt_nd k m) fun x hx => q.fd_perm hL (k + 1) x (prt_fd hx)
theorem Hb.fd_few (q : Hb n h) (hL : L.Perm (rg n)) (k : Nat) : (fd h n L k).length ≤ 120 := few q.hi (fd_nd k) (q.fd_perm hL k)
theorem Hb.lv_perm (q : Hb n h) (hL : L.Perm (rg n)) (k : Nat) : ∀ x ∈ lv h n L k, x.1.Perm (rg n) := fun x hx => q.fd_perm hL k x (lv_fd hx)
/-- how far the search is from its end -/
def mea (h : List (List Int)) (n : Nat) (L : List Int) (k : Nat) : Nat := 2 * (120 - (fd h n L k).length) + (if lv h n L k = [] then 0 else 1)
theorem Hb.mea_less (q : Hb n h) (hL : L.Perm (rg n)) {k : Nat} (e : lv h n L k ≠ []) : mea h n L (k + 1) < mea h n L k := by
  unfold mea
  rw [if_neg e, fd_succ, List.length_append]
  have h1 := q.fd_few hL (k + 1)
  rw [fd_succ, List.length_append] at h1
  by_cases z : lv h n L (k + 1) = []
  · rw [if_pos z, z, List.length_nil]
    omega
  · rw [if_neg z]
    have : 0 < (lv h n L (k + 1)).length := List.length_pos_iff.mpr z
    omega
end
end RH
set_option Elab.async false
set_option linter.all false
set_option maxRecDepth 100000
set_option maxHeartbeats 2000000
namespace RH
open PySem PySem.Spec PyProof.Rows L2
open NdefX (NScope CellsAt Caps slotAt cells_of startF ncx)
/-! ### a touch as a function that is handed on -/
section
variable {P : Program} {w : World} {K : PySem.W.Frag} {mg : Str → Option Value} {base : Heap} {CX : CXT} {k : Nat} {f : Addr} {live live' : Hp → Prop} {sp sp' : Sp} {outer : List Env} {s : Shared} {H : Hp}
theorem Callable.imp (c : Callable P w K mg base CX k f live sp outer s H) (hl : ∀ H, live' H → live H) (hs : ∀ vs H Q E, live' H → sp' vs H Q E → sp vs H Q E) : Callable P w K mg base CX k f live' sp' outer s H :=
  ⟨fun X e1 e2 e3 e4 e5 e6 pins σ H' s' I l => c.at_ X e1 e2 e3 e4 e5 e6 pins σ H' s' I (hl _ l),
    fun X e1 e2 e3 e4 e5 e6 e7 e8 e9 hr pins σ H' s' us vs Q E I l r hx q => c.run X e1 e2 e3 e4 e5 e6 e7 e8 e9 hr pins σ H' s' us vs Q E I (hl _ l) r hx (hs _ _ _ _ l q)⟩
end
def retArg (st : Stmt) (i : Nat) : Expr := match defBody st with
  | [.Return (some (.Call _ as _ _)) _] => as.getD i (.Constant .none 0 ⟨0, 0, 0, 0⟩)
  | _ => .Constant .none 0 ⟨0, 0, 0, 0⟩
def lamP : Expr → Arguments
  | .Lambda p _ _ _ => p
  | _ => defArgs st_law
def lamB : Expr → Expr
  | .Lambda _ b _ _ => b
  | e => e
def lamS : Expr → Scope
  | .Lambda _ _ sc _ => sc
  | _ => defScope st_law
def lamO : Expr → Pos
  | .Lambda _ _ _ p => p
  | _ => ⟨0, 0, 0, 0⟩
abbrev lam1 : Expr := retArg st_layout_depths 2
abbrev lam2 : Expr := retArg st_word_to_layout 2
abbrev lam3 : Expr := retArg st_word_to_layout 3
theorem ns1 : NScope ["one", "place", "habit"] ["one", "place"] ["habit"] (lamS lam1) := NdefX.nscope_by (by decide +kernel)
theorem ns2 : NScope ["layout", "place", "habit"] ["layout", "place"] ["habit"] (lamS lam2) := NdefX.nscope_by (by decide +kernel)
theorem ns3 : NScope ["layout", "other"] ["layout"] ["other"] (lamS lam3) := NdefX.nscope_by (by decide +kernel)
section
variable {P : Program} {w : World} {K : PySem.W.Frag} {mg : Str → Option Value} {base : Heap}
/-- what a step promises -/
def spStep (h : List (List Int)) (n : Nat) : Sp := fun vs H Q _ => ∃ (a : Addr) (L : List Int) (p : Int), vs = [.ref a, .int p] ∧ KX H a L ∧ (∀ i ∈ L, InR n i) ∧ L.length ≤ 1000 ∧ InR n p ∧
  ∀ H' q, Same H H' → H q = none → FT H' q (stp h p L) → Q (.ref q) H'
def spLam1 (K : PySem.W.Frag) (h : List (List Int)) (n : Nat) : List (Option V) → Sp := fun ws vs H Q E => ∃ v, ws = [some v] ∧ TII K H v h ∧ Hb n h ∧ spStep h n vs H Q E
theorem lok1 (CM : Cal P w K mg base 1 "move" (spMove K)) (h : List (List Int)) (n : Nat) (q : Str) (cl : List (Str × Addr)) (c f : Addr) : LOk P w K mg base CX0 2 f ⟨q, lamP lam1, lamB lam1, lamS lam1, cl, c⟩ ["one", "place"] ["habit"] (spLam1 K h n) := by
  refine lok_of ns1 (fun pm ctv us hl => ?_) (fun ws vs H Q E hq => ?_) (fun A outer s H vs ws Q E hr _ hsp => ?_)
  · match us, hl with
    | [_, _], _ => rfl
  · obtain ⟨v, _, _, _, a, L, p, rfl, _⟩ := hq
    rfl
  · obtain ⟨v, rfl, hT, hb, a, L, p, rfl, ha, hin, hlen, hp, q⟩ := hsp
    refine ⟨_, pc CM hr (pa_cons (pv 2) (pa_cons (pv 0) (pa_cons (pv 1) pa_nil))), ?_⟩
    exact ⟨_, rfl, _, rfl, _, rfl, v, h, n, a, L, p, rfl, hT, hb, .inl ha, hin, hlen, hp, q⟩
theorem lok2 (CM : Cal P w K mg base 1 "move" (spMove K)) (h : List (List Int)) (n : Nat) (q : Str) (cl : List (Str × Addr)) (c f : Addr) : LOk P w K mg base CX0 2 f ⟨q, lamP lam2, lamB lam2, lamS lam2, cl, c⟩ ["layout", "place"] ["habit"] (spLam1 K h n) := by
  refine lok_of ns2 (fun pm ctv us hl => ?_) (fun ws vs H Q E hq => ?_) (fun A outer s H vs ws Q E hr _ hsp => ?_)
  · match us, hl with
    | [_, _], _ => rfl
  · obtain ⟨v, _, _, _, a, L, p, rfl, _⟩ := hq
    rfl
  · obtain ⟨v, rfl, hT, hb, a, L, p, rfl, ha, hin, hlen, hp, q⟩ := hsp
    refine ⟨_, pc CM hr (pa_cons (pv 2) (pa_cons (pv 0) (pa_cons (pv 1) pa_nil))), ?_⟩
    exact ⟨_, rfl, _, rfl, _, rfl, v, h, n, a, L, p, rfl, hT, hb, .inl ha, hin, hlen, hp, q⟩
/-- is it the goal? -/
def spGoal (g : List Int) : Sp := fun vs H Q _ => ∃ (a : Addr) (L : List Int), vs = [.ref a] ∧ KX H a L ∧ L.length ≤ 1000 ∧ Q (.bl (decide (L = g))) H
def spLam3 (g : List Int) : List (Option V) → Sp := fun ws vs H Q E => ∃ b, ws = [some (.ref b)] ∧ KX H b g ∧ g.length ≤ 1000 ∧ spGoal g vs H Q E
theorem lok3 (g : List Int) (q : Str) (cl : List (Str × Addr)) (c f : Addr) : LOk P w K mg base CX0 1 f ⟨q, lamP lam3, lamB lam3, lamS lam3, cl, c⟩ ["layout"] ["other"] (spLam3 g) := by
  refine lok_of ns3 (fun pm ctv us hl => ?_) (fun ws vs H Q E hq => ?_) (fun A outer s H vs ws Q E hr _ hsp => ?_)
  · match us, hl with
    | [_], _ => rfl
  · obtain ⟨b, _, _, _, a, L, rfl, _⟩ := hq
    rfl
  · obtain ⟨b, rfl, hg, hgl, a, L, rfl, ha, hlen, q⟩ := hsp
    refine ⟨_, pe_cmpR (op_eqD hr.units) (pv 0) (pv 1) (nomark _), ?_⟩
    refine ⟨_, rfl, _, rfl, _, _, dp_tup (K := K) (ns := L) (.inl ha), dp_tup (K := K) (ns := g) (.inl hg), shaped_tup L, shaped_tup g, ?_⟩
    rw [eqv_tup]
    exact q
end
end RH
set_option Elab.async false
set_option linter.all false
set_option maxRecDepth 100000
set_option maxHeartbeats 2000000
namespace RH
open PySem PySem.Spec PyProof.Rows L2
/-! ### the search for depths -/
/-- tuples stay -/
def TK (H H' : Hp) : Prop := ∀ b xs, Rd H b (.tup xs) → Rd H' b (.tup xs)
theorem TK.refl (H : Hp) : TK H H := fun _ _ e => e
theorem TK.trans {H H1 H2 : Hp} (a : TK H H1) (b : TK H1 H2) : TK H H2 := fun c xs e => b c xs (a c xs e)
theorem TK.same {H H1 : Hp} (a : Same H H1) : TK H H1 := fun c xs e => by
  rcases e with e | ⟨o, e⟩
  · exact .inl (a c _ e)
  · exact .inr ⟨o, a c _ e⟩
/-- what holds no tuple -/
def NoT (o : HO) : Prop := (∀ xs, o ≠ .tup xs) ∧ ∀ ob u, o ≠ .frz ob u
theorem TK.upd {H : Hp} {p : Addr} {o o' : HO} (h : H p = some o) (n : NoT o) : TK H (upd H p o') := fun b xs e => by
  by_cases z : b = p
  · subst z
    rcases e with e | ⟨ob, e⟩
    · rw [h] at e
      exact absurd (Option.some.inj e) (n.1 xs)
    · rw [h] at e
      exact absurd (Option.some.inj e) (n.2 ob _)
  · rcases e with e | ⟨ob, e⟩
    · exact .inl (by rw [upd_ne z]; exact e)
    · exact .inr ⟨ob, by rw [upd_ne z]; exact e⟩
theorem EX.on {H H' : Hp} {xs : List V} {ls : List (List Int)} (e : TK H H') (h : EX H xs ls) : EX H' xs ls := h.imp fun b s z => e b _ z
theorem KB.on {H H' : Hp} {as : List (List Int × V)} {bs : List Addr} (e : TK H H') (h : KB H as bs) : KB H' as bs := h.imp fun b s z => e b _ z
theorem Same.upd {H H' : Hp} {p : Addr} {o : HO} (a : Same H H') (h : H p = none) : Same H (upd H' p o) := fun b u e => by
  rw [upd_ne (ne_of_none e h)]
  exact a b u e
theorem not_tup_l {xs : List V} : NoT (.lst xs) := ⟨fun _ z => (nomatch z), fun _ _ z => (nomatch z)⟩
theorem not_tup_d {φ : Heap → Prop} : NoT (.ext φ) := ⟨fun _ z => (nomatch z), fun _ _ z => (nomatch z)⟩
/-- what a search is handed: the step, what keeps it alive, the habit -/
structure GD where
  f : Addr
  live : Hp → Prop
  h : List (List Int)
  n : Nat
section
variable {P : Program} {w : World} {K : PySem.W.Frag} {mg : Str → Option Value} {base : Heap}
/-- the value of a state is the length of its word -/
def valD (q : SW) : List Int × V := (q.1, .int (q.2.length : Nat))
theorem valD_fst (l : List SW) : (l.map valD).map Prod.fst = l.map Prod.fst := by
  rw [List.map_map]
  rfl
theorem fst_snoc {bs : List (List Int × V)} {ls : List SW} {x : List Int × V} {y : SW} (h : bs.map Prod.fst = ls.map Prod.fst) (e : x.1 = y.1) : (bs ++ [x]).map Prod.fst = (ls ++ [y]).map Prod.fst := by
  rw [List.map_append, List.map_append, h, List.map_singleton, List.map_singleton, e]
def preD (P : Program) (w : World) (K : PySem.W.Frag) (mg : Str → Option Value) (base : Heap) (g : GD) : List Env → Shared → Hp → Prop := fun outer s H => Callable P w K mg base CX0 2 g.f g.live (spStep g.h g.n) outer s H
def spDepths (P : Program) (w : World) (K : PySem.W.Frag) (g : GD) : Sp := fun vs H Q _ => ∃ (a t : Addr) (L : List Int), vs = [.ref a, .ref t, .ref g.f, .int 120] ∧ KX H a L ∧ SqT K H t ((rg g.n).map V.int) ∧
  (∀ H', Same H H' → g.live H') ∧ Hb g.n g.h ∧ L.Perm (rg g.n) ∧
  ∀ (H' : Hp) (d : Addr) (k : Nat) (bs : List Addr), Same H H' → H' d = some (DE P w ((fd g.h g.n L k).map valD) bs d) → KB H' ((fd g.h g.n L k).map valD) bs → lv g.h g.n L k = [] → Q (.ref d) H'
/-- what stands within a level -/
def MidB (P : Program) (w : World) (H : Hp) (h : List (List Int)) (n : Nat) (L : List Int) (R : Hp → List SW → List (List Int × V) → Prop) (k : Nat) (d l u : Addr) (xs : List V) (i j : Nat) (H' : Hp) : Prop :=
  ∃ (as : List (List Int × V)) (ks : List Addr) (us : List V), Same H H' ∧ H' d = some (DE P w as ks d) ∧ KB H' as ks ∧ as.map Prod.fst = (fd h n L k ++ prt h n L k (i * n + j)).map Prod.fst ∧ R H' (fd h n L k ++ prt h n L k (i * n + j)) as ∧
    H' l = some (.lst xs) ∧ EX H' xs ((lv h n L k).map Prod.fst) ∧ H' u = some (.lst us) ∧ EX H' us ((prt h n L k (i * n + j)).map Prod.fst)
theorem lv_row {h : List (List Int)} {n : Nat} {L : List Int} {k i : Nat} {xs : List V} {x : V} {H : Hp} (hE : EX H xs ((lv h n L k).map Prod.fst)) (hx : xs[i]? = some x) : ∃ (q : SW) (b : Addr), (lv h n L k)[i]? = some q ∧ x = .ref b ∧ KX H b q.1 := by
  have hi : i < (lv h n L k).length := by
    have h1 := (List.getElem?_eq_some_iff.mp hx).1
    rw [hE.len, List.length_map] at h1
    exact h1
  have hq : (lv h n L k)[i]? = some (lv h n L k)[i] := List.getElem?_eq_getElem hi
  have hs : ((lv h n L k).map Prod.fst)[i]? = some ((lv h n L k)[i]).1 := by
    rw [List.getElem?_map, hq]
    rfl
  obtain ⟨b, h1, h2⟩ := hE.at hs
  rw [hx] at h1
  exact ⟨_, b, hq, Option.some.inj h1, h2⟩
theorem MidB.row {P : Program} {w : World} {H H' : Hp} {h : List (List Int)} {n : Nat} {L : List Int} {R : Hp → List SW → List (List Int × V) → Prop} {k : Nat} {d l u : Addr} {xs : List V} {i : Nat} (m : MidB P w H h n L R k d l u xs i n H') : MidB P w H h n L R k d l u xs (i + 1) 0 H' := by
  unfold MidB at m ⊢
  rw [show (i + 1) * n + 0 = i * n + n by rw [Nat.succ_mul]; rfl]
  exact m
theorem ok_depths {f : Addr} {fdat : FuncData} (F : Fun K "depths" "depths" st_depths f fdat) (B : Bu mg) (g : GD) : FnC P w K mg base CX0 3 f fdat ["start", "touches", "step", "most"] (preD P w K mg base g) (spDepths P w K g) := by
  refine fnC_of F sc_depths (fun vs H Q E h => ?_) (fun cdv A outer s H vs Q E hr hP h => ?_)
  · obtain ⟨a, t, L, rfl, _⟩ := h
    rfl
  · obtain ⟨a, t, L, rfl, ha, ht, hlive, hb, hL, q⟩ := h
    refine ⟨_, pss_cons (ps_set (i := 4) sc_depths.nd rfl (.inl rfl) (pe_disp1E hr.units0 (pv 0) pe_int))
      (pss_cons (ps_set (i := 5) sc_depths.nd rfl (.inl rfl) (pe_lst (pa_cons (pv 0) pa_nil)))
      (pss_cons (ps_while PassesOwn.never (PW.pt (pw_and (pt_truth (pv 5) (by intro _; rfl)) (pw_and1 (pt_cmpR op_le (pe_callB call_lenE (by rfl) B.len PySem.boot_len (pa_cons (pv 4) pa_nil)) (pv 3) (nomark _)))))
        (pss_cons (ps_set (i := 6) sc_depths.nd rfl (.inl rfl) (pe_lst pa_nil))
        (pss_cons (ps_for PassesOwn.never rfl (pi_list (pv 5)) (pg_name (i := 7) sc_depths.nd rfl (Or.inl rfl))
          (pss_one (ps_for PassesOwn.never rfl (pi_tup (pv 1)) (pg_name (i := 8) sc_depths.nd rfl (Or.inl rfl))
            (pss_cons (ps_set (i := 9) sc_depths.nd rfl (.inl rfl) (pe_can hP rfl hr (by decide) pass0 (i := 2) rfl (Or.inl rfl) (pa_cons (pv 7) (pa_cons (pv 8) pa_nil))))
            (pss_one (ps_if (pt_cmp (pc_dnotinE (hu_of hr) (pv 9) (pv 4)))
              (pss_cons (ps_dputE (hu_of hr) (pv 4) (pv 9) (pe_op op_add (pe_dgetE (hu_of hr) (pv 4) (pv 7) (fun _ _ => rfl)) pe_int) rfl)
              (pss_one (ps_expr (pe_bm PySem.F.plainAttrs_list PySem.F.slot_list_append PySem.F.type_list_append mt_append (pv 6) (pa_cons (pv 9) pa_nil))))) pss_nil))))))
        (pss_one (ps_set (i := 5) sc_depths.nd rfl (.inl rfl) (pv 6))))))
      (pss_one (ps_ret (pv 4))))), ?_⟩
    have n5 := hb.hi
    intro d hd
    refine ⟨_, rfl, upd_same, a, L, rfl, TK.same (same_new hd) _ _ ha, ?_⟩
    have hd1 : Same H (upd (upd H d (DE P w [] [] d)) d (DE P w [(L, .int 0)] [a] d)) := Same.upd (same_new hd) hd
    refine ⟨_, rfl, by show 1 ≤ sizeLine; decide, fun l hl => ?_⟩
    refine ⟨fun m σ H' => ∃ (k : Nat) (ks : List Addr) (xs : List V) (l : Addr), m = mea g.h g.n L k ∧ (∃ y6 y7 y8 y9, σ = [some (.ref a), some (.ref t), some (.ref g.f), some (.int 120), some (.ref d), some (.ref l), y6, y7, y8, y9]) ∧
      Same H H' ∧ H' d = some (DE P w ((fd g.h g.n L k).map valD) ks d) ∧ KB H' ((fd g.h g.n L k).map valD) ks ∧ H' l = some (.lst xs) ∧ EX H' xs ((lv g.h g.n L k).map Prod.fst), ⟨mea g.h g.n L 0, 0, [a], [.ref a], l, rfl, ⟨none, none, none, none, rfl⟩, hd1.trans (same_new hl), same_new hl _ _ upd_same, ?_, upd_same, ?_⟩, ?_⟩
    · exact .cons (TK.same (hd1.trans (same_new hl)) _ _ ha) .nil
    · exact .cons (TK.same (hd1.trans (same_new hl)) _ _ ha) .nil
    rintro m σ H1 ⟨k, ks, xs, l, rfl, ⟨y6, y7, y8, y9, rfl⟩, sm, eD, kb, eL, hE⟩
    have lx : xs.length = (lv g.h g.n L k).length := hE.len.trans (List.length_map ..)
    refine ⟨_, rfl, !xs.isEmpty, .inl ⟨xs, lstAt eL, rfl⟩, ite2 (fun ex => ?_) (fun ex => ?_)⟩
    · have hne : lv g.h g.n L k ≠ [] := by
        intro z
        rw [z] at lx
        rw [List.eq_nil_of_length_eq_zero lx] at ex
        cases ex
      have hlen := hb.fd_few hL k
      refine ⟨_, rfl, d, _, ks, rfl, eD, kb, _, rfl, _, 120, rfl, rfl, _, rfl, ifT (decide_eq_true (by rw [List.length_map]; omega)) ?_⟩
      refine ⟨fun σ' H' => ∃ m', m' < mea g.h g.n L k ∧ ∃ (k : Nat) (ks : List Addr) (xs : List V) (l : Addr), m' = mea g.h g.n L k ∧ (∃ y6 y7 y8 y9, σ' = [some (.ref a), some (.ref t), some (.ref g.f), some (.int 120), some (.ref d), some (.ref l), y6, y7, y8, y9]) ∧
        Same H H' ∧ H' d = some (DE P w ((fd g.h g.n L k).map valD) ks d) ∧ KB H' ((fd g.h g.n L k).map valD) ks ∧ H' l = some (.lst xs) ∧ EX H' xs ((lv g.h g.n L k).map Prod.fst), fun _ _ h => h, ?_⟩
      refine ⟨Nat.zero_le _, fun u hu => ?_⟩
      have su := same_new (o := .lst []) hu
      have hlu : l ≠ u := ne_of_none eL hu
      have huH := none_of sm hu
      refine ⟨_, rfl, l, rfl, ⟨_, lstAt (su _ _ eL)⟩, ?_⟩
      refine for_list (xs := xs) (fun i σ H' => MidB P w H g.h g.n L (fun _ l as => as = l.map valD) k d l u xs i 0 H' ∧ ∃ y7 y8 y9, σ = [some (.ref a), some (.ref t), some (.ref g.f), some (.int 120), some (.ref d), some (.ref l), some (.ref u), y7, y8, y9])
        ⟨⟨_, ks, [], sm.trans su, su _ _ eD, kb.on (TK.same su), ?_, ?_, su _ _ eL, hE.on (TK.same su), upd_same, ?_⟩, _, _, _, rfl⟩ (fun i σ H' _ h' => ?_) (fun i x σ H2 hx h' => ?_) (fun σ H2 h' => ?_)
      · rw [Nat.zero_mul, prt_zero, List.append_nil, valD_fst]
      · rw [Nat.zero_mul, prt_zero, List.append_nil]
      · rw [Nat.zero_mul, prt_zero]
        exact .nil
      · obtain ⟨⟨_, _, _, _, _, _, _, _, e, _⟩, _⟩ := h'
        exact lstAt e
      · obtain ⟨hM, z7, z8, z9, rfl⟩ := h'
        obtain ⟨q0, b, hq0, rfl, _⟩ := lv_row hE hx
        have hp0 := hb.lv_perm hL k q0 (List.mem_of_getElem? hq0)
        refine ⟨_, rfl, t, rfl, ⟨_, onT (hM.choose_spec.choose_spec.choose_spec.1) ht⟩, ?_⟩
        refine for_tup (xs := (rg g.n).map V.int) (fun j σ H' => MidB P w H g.h g.n L (fun _ l as => as = l.map valD) k d l u xs i j H' ∧ ∃ y8 y9, σ = [some (.ref a), some (.ref t), some (.ref g.f), some (.int 120), some (.ref d), some (.ref l), some (.ref u), some (.ref b), y8, y9])
          ⟨hM, _, _, rfl⟩ (fun j σ H' _ h' => onT (h'.1.choose_spec.choose_spec.choose_spec.1) ht) (fun j x2 σ H3 hx2 h' => ?_) (fun σ H3 h' => ?_)
        · obtain ⟨⟨bs, ks, us, sm3, eD3, kb3, hf3, hv3, eL3, hE3, eU3, hF3⟩, w8, w9, rfl⟩ := h'
          obtain ⟨pj, hpj, rfl⟩ := map_at hx2
          have hj : j < g.n := by
            have := (List.getElem?_eq_some_iff.mp hpj).1
            rw [rg_len] at this
            exact this
          have epj : pj = (j : Int) := by
            rw [rg_at hj] at hpj
            exact (Option.some.inj hpj).symm
          subst epj
          obtain ⟨q0', b', hq0', eb', hb3⟩ := lv_row hE3 hx
          cases eb'
          rw [hq0] at hq0'
          cases hq0'
          have hfew := hb.prt_few hL k (i * g.n + j)
          have blen : bs.length ≤ 120 := by
            have := congrArg List.length hf3
            rw [List.length_map, List.length_map] at this
            omega
          have ulen : us.length ≤ 120 := by
            have h1 := hF3.len
            rw [List.length_map] at h1
            rw [List.length_append] at hfew
            omega
          refine ⟨rfl, hlive _ sm3, _, rfl, _, rfl, hlive _ sm3, b, q0.1, (j : Int), rfl, hb3, fun z hz => perm_in hp0 hz, by rw [perm_len hp0]; omega, ⟨by omega, by omega⟩, fun H4 qn s4 nq eq4 => ?_⟩
          have sm4 := sm3.trans s4
          have eD4 := s4 _ _ eD3
          have eU4 := s4 _ _ eU3
          have kb4 := kb3.on (TK.same s4)
          refine ⟨_, rfl, _, rfl, d, qn, bs, ks, stp g.h (j : Int) q0.1, rfl, rfl, eD4, kb4, eq4.kx, _, rfl, ?_⟩
          by_cases hm : stp g.h (j : Int) q0.1 ∈ bs.map Prod.fst
          · have hm2 := hm
            rw [hf3] at hm2
            have ep := prt_old hq0 hj hm2
            refine ifF (by rw [decide_eq_true hm]; rfl) ⟨⟨bs, ks, us, sm4, eD4, kb4, ?_, ?_, s4 _ _ eL3, hE3.on (TK.same s4), eU4, ?_⟩, _, _, rfl⟩
            · rw [show i * g.n + (j + 1) = i * g.n + j + 1 from rfl, ep]
              exact hf3
            · rw [show i * g.n + (j + 1) = i * g.n + j + 1 from rfl, ep]
              exact hv3
            · rw [show i * g.n + (j + 1) = i * g.n + j + 1 from rfl, ep]
              exact hF3.on (TK.same s4)
          · have hm2 := hm
            rw [hf3] at hm2
            have ep := prt_new hq0 hj hm2
            refine ifT (by rw [decide_eq_false hm]; rfl) ?_
            have hold : q0.1 ∈ bs.map Prod.fst := by
              rw [hf3, List.map_append]
              exact List.mem_append_left _ (List.mem_map.mpr ⟨q0, lv_fd (List.mem_of_getElem? hq0), rfl⟩)
            refine ⟨_, rfl, _, rfl, d, b, bs, ks, q0.1, rfl, rfl, eD4, kb4, TK.same s4 _ _ hb3, hold, fun v hvm => ?_⟩
            have evk : v = .int (k : Nat) := by
              rw [hv3] at hvm
              obtain ⟨y, hy, ey⟩ := List.mem_map.mp hvm
              have ey2 : (y.1, V.int (y.2.length : Nat)) = (q0.1, v) := ey
              have e1 : y.1 = q0.1 := (Prod.mk.inj ey2).1
              have e2 : V.int (y.2.length : Nat) = v := (Prod.mk.inj ey2).2
              have h1 := prt_fd hy
              have h2 : q0 ∈ fd g.h g.n L (k + 1) := fd_mono (Nat.le_succ k) (lv_fd (List.mem_of_getElem? hq0))
              have e3 := fd_val (s := q0.1) (w := y.2) (w' := q0.2) (by rw [← e1]; exact h1) h2
              rw [← e2, e3, lv_len k q0 (List.mem_of_getElem? hq0)]
            subst evk
            refine ⟨(k : Nat), 1, rfl, rfl, _, rfl, _, rfl, d, qn, bs, ks, stp g.h (j : Int) q0.1, rfl, rfl, eD4, kb4, eq4.kx, hm, small1000 (by omega), ?_⟩
            have tk5 : TK H4 (upd H4 d (DE P w (bs ++ [(stp g.h (j : Int) q0.1, V.int ((k : Nat) + 1 : Int))]) (ks ++ [qn]) d)) := TK.upd eD4 not_tup_d
            have eU5 : (upd H4 d (DE P w (bs ++ [(stp g.h (j : Int) q0.1, V.int ((k : Nat) + 1 : Int))]) (ks ++ [qn]) d)) u = some (.lst us) := by
              rw [upd_ne (ne_of eU4 eD4 (fun z => nomatch z))]
              exact eU4
            have eL5 : (upd H4 d (DE P w (bs ++ [(stp g.h (j : Int) q0.1, V.int ((k : Nat) + 1 : Int))]) (ks ++ [qn]) d)) l = some (.lst xs) := by
              rw [upd_ne (ne_of (s4 _ _ eL3) eD4 (fun z => nomatch z))]
              exact s4 _ _ eL3
            have sm5 : Same H (upd H4 d (DE P w (bs ++ [(stp g.h (j : Int) q0.1, V.int ((k : Nat) + 1 : Int))]) (ks ++ [qn]) d)) := Same.upd sm4 hd
            have eD5 : (upd H4 d (DE P w (bs ++ [(stp g.h (j : Int) q0.1, V.int ((k : Nat) + 1 : Int))]) (ks ++ [qn]) d)) d = some (DE P w (bs ++ [(stp g.h (j : Int) q0.1, V.int ((k : Nat) + 1 : Int))]) (ks ++ [qn]) d) := upd_same
            have kb5 : KB (upd H4 d (DE P w (bs ++ [(stp g.h (j : Int) q0.1, V.int ((k : Nat) + 1 : Int))]) (ks ++ [qn]) d)) (bs ++ [(stp g.h (j : Int) q0.1, V.int ((k : Nat) + 1 : Int))]) (ks ++ [qn]) := (kb4.on tk5).snoc (q := (stp g.h (j : Int) q0.1, V.int ((k : Nat) + 1 : Int))) (b := qn) (tk5 _ _ eq4.kx)
            have hq5 := tk5 _ _ eq4.kx
            refine ⟨_, rfl, .inl ⟨rfl, _, lstAt eU5⟩, _, rfl, u, us, .ref qn, rfl, rfl, eU5, small1000 (by omega), ?_⟩
            have tk6 : TK (upd H4 d (DE P w (bs ++ [(stp g.h (j : Int) q0.1, V.int ((k : Nat) + 1 : Int))]) (ks ++ [qn]) d)) (upd (upd H4 d (DE P w (bs ++ [(stp g.h (j : Int) q0.1, V.int ((k : Nat) + 1 : Int))]) (ks ++ [qn]) d)) u (.lst (us ++ [.ref qn]))) := TK.upd eU5 not_tup_l
            have tk46 := (TK.same s4).trans (tk5.trans tk6)
            refine ⟨⟨bs ++ [(stp g.h (j : Int) q0.1, V.int ((k : Nat) + 1 : Int))], ks ++ [qn], us ++ [.ref qn], Same.upd sm5 huH, ?_, kb5.on tk6, ?_, ?_, ?_, hE3.on tk46, upd_same, ?_⟩, _, _, rfl⟩
            · rw [upd_ne (ne_of eD5 eU5 (fun z => nomatch z))]
              exact eD5
            · rw [show i * g.n + (j + 1) = i * g.n + j + 1 from rfl, ep, ← List.append_assoc]
              exact fst_snoc hf3 rfl
            · rw [show i * g.n + (j + 1) = i * g.n + j + 1 from rfl, ep, ← List.append_assoc]
              show bs ++ _ = List.map valD _
              rw [List.map_append, ← hv3]
              congr 1
              show [(stp g.h (j : Int) q0.1, V.int ((k : Nat) + 1 : Int))] = [valD (stp g.h (j : Int) q0.1, q0.2 ++ [(j : Int)])]
              unfold valD
              rw [List.length_append, lv_len k q0 (List.mem_of_getElem? hq0)]
              rfl
            · rw [upd_ne hlu]
              exact eL5
            · rw [show i * g.n + (j + 1) = i * g.n + j + 1 from rfl, ep, List.map_append]
              exact EX.snoc (tk6 _ _ hq5) (hF3.on tk46)
        · obtain ⟨hM3, w8, w9, rfl⟩ := h'
          rw [List.length_map, rg_len] at hM3
          exact ⟨hM3.row, _, _, _, rfl⟩
      · obtain ⟨⟨bs, ks, us, sm3, eD3, kb3, hf3, hv3, eL3, hE3, eU3, hF3⟩, w7, w8, w9, rfl⟩ := h'
        rw [lx, Nat.add_zero, prt_all] at hv3 hF3
        subst hv3
        exact ⟨_, rfl, mea g.h g.n L (k + 1), hb.mea_less hL hne, k + 1, ks, us, u, rfl, ⟨_, _, _, _, rfl⟩, sm3, eD3, kb3, eU3, hF3⟩
    · have hnil : lv g.h g.n L k = [] := by
        cases xs with
        | nil => exact List.eq_nil_of_length_eq_zero lx.symm
        | cons x r => exact absurd rfl ex
      refine ifF rfl ⟨_, rfl, q H1 d k ks sm eD kb hnil⟩
end
end RH
set_option Elab.async false
set_option linter.all false
set_option maxRecDepth 100000
set_option maxHeartbeats 2000000
namespace RH
open PySem PySem.Spec PyProof.Rows L2
/-! ### the way back, the least word -/
theorem nd_val {s w w' : List Int} : ∀ {l : List SW}, (l.map Prod.fst).Nodup → (s, w) ∈ l → (s, w') ∈ l → w = w'
  | [], _, z, _ => nomatch z
  | x :: l, nd, a, b => by
    rw [List.map_cons, List.nodup_cons] at nd
    rcases List.mem_cons.mp a with e1 | a
    · rcases List.mem_cons.mp b with e2 | b
      · rw [← e1] at e2
        exact (Prod.mk.inj e2).2.symm
      · rw [← e1] at nd
        exact absurd (List.mem_map.mpr ⟨_, b, rfl⟩) nd.1
    · rcases List.mem_cons.mp b with e2 | b
      · rw [← e2] at nd
        exact absurd (List.mem_map.mpr ⟨_, a, rfl⟩) nd.1
      · exact nd_val nd.2 a b
theorem low {h : List (List Int)} {n : Nat} {L : List Int} : ∀ k : Nat, lv h n L k ≠ [] → k + 1 ≤ (fd h n L k).length
  | 0, _ => Nat.le_refl _
  | k + 1, e => by
    have e1 : lv h n L k ≠ [] := fun z => e (by rw [lv_succ, z]; rfl)
    have := low k e1
    have h2 : 0 < (lv h n L (k + 1)).length := List.length_pos_iff.mpr e
    rw [fd_succ, List.length_append]
    omega
/-- from where each state was come to -/
def CW (L : List Int) (H : Hp) (l : List SW) (as : List (List Int × V)) : Prop := as.map Prod.fst = l.map Prod.fst ∧ ∀ q ∈ as, (q.1 = L ∧ q.2 = .non ∧ (L, []) ∈ l) ∨
  ∃ (t b : Addr) (p : Int) (s' w' : List Int), q.2 = .ref t ∧ Rd H t (.tup [.ref b, .int p]) ∧ KX H b s' ∧ (s', w') ∈ l ∧ (q.1, w' ++ [p]) ∈ l
theorem CW.on {L : List Int} {H H' : Hp} {l : List SW} {as : List (List Int × V)} (e : TK H H') (c : CW L H l as) : CW L H' l as := ⟨c.1, fun q hq => by
  rcases c.2 q hq with z | ⟨t, b, p, s', w', h1, h2, h3, h4⟩
  · exact .inl z
  · exact .inr ⟨t, b, p, s', w', h1, e _ _ h2, e _ _ h3, h4⟩⟩
theorem CW.snoc {L : List Int} {H : Hp} {l : List SW} {as : List (List Int × V)} {s s' w' : List Int} {t b : Addr} {p : Int} (c : CW L H l as) (h2 : Rd H t (.tup [.ref b, .int p])) (h3 : KX H b s') (h4 : (s', w') ∈ l) : CW L H (l ++ [(s, w' ++ [p])]) (as ++ [(s, .ref t)]) := by
  refine ⟨fst_snoc c.1 rfl, fun q hq => ?_⟩
  rcases List.mem_append.mp hq with hq | hq
  · rcases c.2 q hq with ⟨z1, z2, z3⟩ | ⟨t, b, p, s', w', h1, h2, h3, h4, h5⟩
    · exact .inl ⟨z1, z2, List.mem_append_left _ z3⟩
    · exact .inr ⟨t, b, p, s', w', h1, h2, h3, List.mem_append_left _ h4, List.mem_append_left _ h5⟩
  · rw [List.mem_singleton.mp hq]
    exact .inr ⟨t, b, p, s', w', rfl, h2, h3, List.mem_append_left _ h4, List.mem_append_right _ (List.mem_singleton.mpr rfl)⟩
theorem fns : ∀ {as : List (List Int × V)} {s : List Int} {v w : V}, (as.map Prod.fst).Nodup → (s, v) ∈ as → (s, w) ∈ as → v = w
  | q :: as, s, v, w, nd, h1, h2 => by
    rw [List.map_cons, List.nodup_cons] at nd
    rcases List.mem_cons.mp h1 with e1 | h1
    · rcases List.mem_cons.mp h2 with e2 | h2
      · exact (Prod.mk.inj (e1.trans e2.symm)).2
      · rw [← e1] at nd
        exact absurd (List.mem_map.mpr ⟨_, h2, rfl⟩) nd.1
    · rcases List.mem_cons.mp h2 with e2 | h2
      · rw [← e2] at nd
        exact absurd (List.mem_map.mpr ⟨_, h1, rfl⟩) nd.1
      · exact fns nd.2 h1 h2
theorem ref_non (t : Addr) : decide (V.ref t = V.non) = false := decide_eq_false fun z => nomatch z
section
variable {P : Program} {w : World} {K : PySem.W.Frag} {mg : Str → Option Value} {base : Heap}
def spTraced (P : Program) (w : World) : Sp := fun vs H Q _ => ∃ (c b : Addr) (as : List (List Int × V)) (ks : List Addr) (s L wd : List Int) (l : List SW), vs = [.ref c, .ref b] ∧ H c = some (DE P w as ks c) ∧ KB H as ks ∧ KX H b s ∧ (l.map Prod.fst).Nodup ∧ CW L H l as ∧ (s, wd) ∈ l ∧ wd.length ≤ 1000 ∧
  ∀ (H' : Hp) (q : Addr), Same H H' → H' q = some (.tup (wd.map V.int)) → Q (.ref q) H'
theorem ok_traced (F : Df K mg "traced" st_traced ["came", "state"]) (B : Bu mg) : Cal P w K mg base 1 "traced" (spTraced P w) := by
  refine mkCal F sc_traced (fun vs H Q E h => ?_) (fun f cdv A outer s H vs Q E hr h => ?_)
  · obtain ⟨c, b, as, ks, s, L, wd, l, rfl, _⟩ := h
    rfl
  · obtain ⟨c, b, as, ks, s, L, wd, sl, rfl, hc, hkb, hb, hnd, hR, hs, hd, q⟩ := h
    refine ⟨_, pss_cons (ps_set (i := 2) sc_traced.nd rfl (.inl rfl) (pe_lst pa_nil))
      (pss_cons (ps_while PassesOwn.never (pt_cmp (pc_notN (pe_dgetE (hu_of hr) (pv 0) (pv 1) (fun _ _ => rfl))))
        (pss_cons (ps_asg (pe_dgetE (hu_of hr) (pv 0) (pv 1) (fun _ _ => rfl)) (pg_tup rfl (pgs_cons (pg_name (i := 1) sc_traced.nd rfl (Or.inl rfl)) (pgs_cons (pg_name (i := 3) sc_traced.nd rfl (Or.inl rfl)) pgs_nil))))
        (pss_one (ps_expr (pe_bm PySem.F.plainAttrs_list PySem.F.slot_list_append PySem.F.type_list_append mt_append (pv 2) (pa_cons (pv 3) pa_nil))))))
      (pss_cons (ps_expr (pe_bm0 PySem.F.plainAttrs_list PySem.F.slot_list_reverse PySem.F.type_list_reverse mt_reverse (pv 2)))
      (pss_one (ps_ret (pe_tupleOf (by rfl) B.tuple (pv 2)))))), ?_⟩
    have hnd2 : (as.map Prod.fst).Nodup := by rw [hR.1]; exact hnd
    have has : ∀ {x y : List Int}, (x, y) ∈ sl → x ∈ as.map Prod.fst := fun hx => by
      rw [hR.1]
      exact List.mem_map.mpr ⟨_, hx, rfl⟩
    refine ⟨Nat.zero_le _, fun l hl => ?_⟩
    refine ⟨fun m σ H' => ∃ (b' : Addr) (s' w' ws : List Int), m = w'.length ∧ (∃ y, σ = [some (.ref c), some (.ref b'), some (.ref l), y]) ∧ Same H H' ∧ KX H' b' s' ∧ (s', w') ∈ sl ∧ H' l = some (.lst (ws.map V.int)) ∧ wd = w' ++ ws.reverse,
      ⟨wd.length, b, s, wd, [], rfl, ⟨none, rfl⟩, same_new hl, TK.same (same_new hl) _ _ hb, hs, upd_same, (List.append_nil _).symm⟩, ?_⟩
    rintro m σ H1 ⟨b', s', w', ws, rfl, ⟨y, rfl⟩, sm, eb, hs', eL, hlen⟩
    have hkb1 := hkb.on (TK.same sm)
    have hl2 : wd.length = w'.length + ws.length := by rw [hlen, List.length_append, List.length_reverse]
    refine ⟨_, rfl, _, rfl, c, b', as, ks, s', rfl, rfl, sm _ _ hc, hkb1, eb, has hs', fun v hvm => ⟨_, rfl, ?_⟩⟩
    rcases hR.2 _ hvm with ⟨e1, e2, e3⟩ | ⟨t, b2, p, s2, w2, e1, h2, h3, h4, h5⟩
    · have e2 : v = .non := e2
      have e1' : s' = L := e1
      subst e2
      have ew : w' = [] := nd_val hnd hs' (by rw [e1']; exact e3)
      refine ifF rfl ⟨_, rfl, .inl ⟨rfl, _, lstAt eL⟩, l, _, rfl, rfl, eL, ?_⟩
      have el : (upd H1 l (.lst (ws.map V.int).reverse)) l = some (.lst (ws.map V.int).reverse) := upd_same
      refine ⟨_, rfl, .inl ⟨l, _, rfl, lstAt el, fun r hr2 => q _ r ((Same.upd sm hl).trans (same_new hr2)) ?_⟩⟩
      rw [upd_same, hlen, ew, List.nil_append, List.map_reverse]
    · have e1 : v = .ref t := e1
      subst e1
      have h5 : (s', w2 ++ [p]) ∈ sl := h5
      have ew : w' = w2 ++ [p] := nd_val hnd hs' h5
      have ewl : w'.length = w2.length + 1 := by rw [ew, List.length_append]; rfl
      refine ifT (by rw [ref_non]; rfl) ⟨fun σ' H' => ∃ m', m' < w'.length ∧ ∃ (b' : Addr) (s' w' ws : List Int), m' = w'.length ∧ (∃ y, σ' = [some (.ref c), some (.ref b'), some (.ref l), y]) ∧ Same H H' ∧ KX H' b' s' ∧ (s', w') ∈ sl ∧ H' l = some (.lst (ws.map V.int)) ∧ wd = w' ++ ws.reverse, fun _ _ h => h, ?_⟩
      refine ⟨_, rfl, _, rfl, c, b', as, ks, s', rfl, rfl, sm _ _ hc, hkb1, eb, has hs', fun v2 hvm2 => ?_⟩
      have ev2 : v2 = .ref t := fns hnd2 hvm2 hvm
      subst ev2
      refine ⟨t, _, rfl, .inl (TK.same sm _ _ h2), rfl, _, _, rfl, _, _, rfl, rfl, ?_⟩
      refine ⟨_, rfl, .inl ⟨rfl, _, lstAt eL⟩, _, rfl, l, _, .int p, rfl, rfl, eL, by rw [List.length_map]; exact small1000 (by omega), ?_⟩
      refine ⟨w2.length, by omega, b2, s2, w2, ws ++ [p], rfl, ⟨_, rfl⟩, Same.upd sm hl, ?_, h4, ?_, ?_⟩
      · exact TK.upd eL not_tup_l _ _ (TK.same sm _ _ h3)
      · rw [upd_same, List.map_append]
        rfl
      · rw [hlen, ew, List.reverse_append, List.append_assoc]
        rfl
end
/-- what the search for a goal is handed -/
structure GL extends GD where
  f2 : Addr
  live2 : Hp → Prop
  goal : List Int
section
variable {P : Program} {w : World} {K : PySem.W.Frag} {mg : Str → Option Value} {base : Heap}
def preL (P : Program) (w : World) (K : PySem.W.Frag) (mg : Str → Option Value) (base : Heap) (g : GL) : List Env → Shared → Hp → Prop := fun outer s H =>
  Callable P w K mg base CX0 2 g.f g.live (spStep g.h g.n) outer s H ∧ Callable P w K mg base CX0 1 g.f2 g.live2 (spGoal g.goal) outer s H
def spLeast (K : PySem.W.Frag) (g : GL) : Sp := fun vs H Q _ => ∃ (a t : Addr) (L : List Int), vs = [.ref a, .ref t, .ref g.f, .ref g.f2] ∧ KX H a L ∧ SqT K H t ((rg g.n).map V.int) ∧
  (∀ H', Same H H' → g.live H') ∧ (∀ H', Same H H' → g.live2 H') ∧ Hb g.n g.h ∧ L.Perm (rg g.n) ∧
  (∀ (H' : Hp) (q : Addr) (wd : List Int) (k : Nat), Same H H' → (g.goal, wd) ∈ fd g.h g.n L k → H' q = some (.tup (wd.map V.int)) → Q (.ref q) H') ∧
  (∀ (H' : Hp) (k : Nat), Same H H' → lv g.h g.n L k = [] → g.goal ∉ (fd g.h g.n L k).map Prod.fst → Q .non H')
theorem ok_least {f : Addr} {fdat : FuncData} (F : Fun K "least_word" "least_word" st_least_word f fdat) (B : Bu mg) (CT : Cal P w K mg base 1 "traced" (spTraced P w)) (g : GL) : FnC P w K mg base CX0 3 f fdat ["start", "touches", "step", "is_goal"] (preL P w K mg base g) (spLeast K g) := by
  refine fnC_of F sc_least_word (fun vs H Q E h => ?_) (fun cdv A outer s H vs Q E hr hP h => ?_)
  · obtain ⟨a, t, L, rfl, _⟩ := h
    rfl
  · obtain ⟨a, t, L, rfl, ha, ht, hlive, hlive2, hb, hL, qy, qn0⟩ := h
    obtain ⟨hP1, hP2⟩ := hP
    have n5 := hb.hi
    refine ⟨_, pss_cons (ps_if (pt_val (pe_can hP2 rfl hr (by decide) pass0 (i := 3) rfl (Or.inl rfl) (pa_cons (pv 0) pa_nil))) (pss_one (ps_ret (pe_tup pa_nil))) pss_nil)
      (pss_cons (ps_set (i := 4) sc_least_word.nd rfl (.inl rfl) (pe_disp1E hr.units0 (pv 0) pe_non))
      (pss_cons (ps_set (i := 5) sc_least_word.nd rfl (.inl rfl) (pe_lst (pa_cons (pv 0) pa_nil)))
      (pss_cons (ps_while PassesOwn.never (pt_truth (pv 5) (by intro _; rfl))
        (pss_cons (ps_set (i := 6) sc_least_word.nd rfl (.inl rfl) (pe_lst pa_nil))
        (pss_cons (ps_for PassesOwn.never rfl (pi_list (pv 5)) (pg_name (i := 7) sc_least_word.nd rfl (Or.inl rfl))
          (pss_one (ps_for PassesOwn.never rfl (pi_tup (pv 1)) (pg_name (i := 8) sc_least_word.nd rfl (Or.inl rfl))
            (pss_cons (ps_set (i := 9) sc_least_word.nd rfl (.inl rfl) (pe_can hP1 rfl hr (by decide) pass0 (i := 2) rfl (Or.inl rfl) (pa_cons (pv 7) (pa_cons (pv 8) pa_nil))))
            (pss_one (ps_if (pt_cmp (pc_dnotinE (hu_of hr) (pv 9) (pv 4)))
              (pss_cons (ps_dputE (hu_of hr) (pv 4) (pv 9) (pe_tup (pa_cons (pv 7) (pa_cons (pv 8) pa_nil))) rfl)
              (pss_cons (ps_if (pt_val (pe_can hP2 rfl hr (by decide) pass0 (i := 3) rfl (Or.inl rfl) (pa_cons (pv 9) pa_nil))) (pss_one (ps_ret (pc CT hr (pa_cons (pv 4) (pa_cons (pv 9) pa_nil))))) pss_nil)
              (pss_one (ps_expr (pe_bm PySem.F.plainAttrs_list PySem.F.slot_list_append PySem.F.type_list_append mt_append (pv 6) (pa_cons (pv 9) pa_nil)))))) pss_nil))))))
        (pss_one (ps_set (i := 5) sc_least_word.nd rfl (.inl rfl) (pv 6))))))
      (pss_one (ps_ret pe_non))))), ?_⟩
    refine ⟨rfl, hlive2 _ (Same.refl H), _, rfl, hlive2 _ (Same.refl H), a, L, rfl, ha, by rw [perm_len hL]; omega, _, rfl, ite2 (fun eg => ?_) (fun eg => ?_)⟩
    · have eg : L = g.goal := of_decide_eq_true eg
      exact ⟨Nat.zero_le _, fun r hr2 => qy _ r [] 0 (same_new hr2) (by rw [← eg]; exact fd_start 0) upd_same⟩
    have eg : L ≠ g.goal := fun z => eg (decide_eq_true z)
    intro d hd
    refine ⟨_, rfl, upd_same, a, L, rfl, TK.same (same_new hd) _ _ ha, ?_⟩
    have hd1 : Same H (upd (upd H d (DE P w [] [] d)) d (DE P w [(L, .non)] [a] d)) := Same.upd (same_new hd) hd
    refine ⟨_, rfl, by show 1 ≤ sizeLine; decide, fun l hl => ?_⟩
    refine ⟨fun m σ H' => ∃ (k : Nat) (as : List (List Int × V)) (ks : List Addr) (xs : List V) (l : Addr), m = mea g.h g.n L k ∧ (∃ y6 y7 y8 y9, σ = [some (.ref a), some (.ref t), some (.ref g.f), some (.ref g.f2), some (.ref d), some (.ref l), y6, y7, y8, y9]) ∧
      Same H H' ∧ H' d = some (DE P w as ks d) ∧ KB H' as ks ∧ CW L H' (fd g.h g.n L k) as ∧ g.goal ∉ (fd g.h g.n L k).map Prod.fst ∧ H' l = some (.lst xs) ∧ EX H' xs ((lv g.h g.n L k).map Prod.fst), ⟨mea g.h g.n L 0, 0, [(L, .non)], [a], [.ref a], l, rfl, ⟨none, none, none, none, rfl⟩, hd1.trans (same_new hl), same_new hl _ _ upd_same, ?_, ?_, ?_, upd_same, ?_⟩, ?_⟩
    · exact .cons (TK.same (hd1.trans (same_new hl)) _ _ ha) .nil
    · refine ⟨rfl, fun q hq => .inl ?_⟩
      rw [List.mem_singleton.mp hq]
      exact ⟨rfl, rfl, fd_start 0⟩
    · exact fun z => eg (List.mem_singleton.mp z).symm
    · exact .cons (TK.same (hd1.trans (same_new hl)) _ _ ha) .nil
    rintro m σ H1 ⟨k, as, ks, xs, l, rfl, ⟨y6, y7, y8, y9, rfl⟩, sm, eD, kb, hv, hg, eL, hE⟩
    have lx : xs.length = (lv g.h g.n L k).length := hE.len.trans (List.length_map ..)
    refine ⟨_, rfl, !xs.isEmpty, .inl ⟨xs, lstAt eL, rfl⟩, ite2 (fun ex => ?_) (fun ex => ?_)⟩
    · have hne : lv g.h g.n L k ≠ [] := by
        intro z
        rw [z] at lx
        rw [List.eq_nil_of_length_eq_zero lx] at ex
        cases ex
      have hk : k ≤ 120 := by
        have h1 := low k hne
        have h2 := hb.fd_few hL k
        omega
      refine ⟨fun σ' H' => ∃ m', m' < mea g.h g.n L k ∧ ∃ (k : Nat) (as : List (List Int × V)) (ks : List Addr) (xs : List V) (l : Addr), m' = mea g.h g.n L k ∧ (∃ y6 y7 y8 y9, σ' = [some (.ref a), some (.ref t), some (.ref g.f), some (.ref g.f2), some (.ref d), some (.ref l), y6, y7, y8, y9]) ∧
        Same H H' ∧ H' d = some (DE P w as ks d) ∧ KB H' as ks ∧ CW L H' (fd g.h g.n L k) as ∧ g.goal ∉ (fd g.h g.n L k).map Prod.fst ∧ H' l = some (.lst xs) ∧ EX H' xs ((lv g.h g.n L k).map Prod.fst), fun _ _ h => h, ?_⟩
      refine ⟨Nat.zero_le _, fun u hu => ?_⟩
      have su := same_new (o := .lst []) hu
      have hlu : l ≠ u := ne_of_none eL hu
      have huH := none_of sm hu
      refine ⟨_, rfl, l, rfl, ⟨_, lstAt (su _ _ eL)⟩, ?_⟩
      refine for_list (xs := xs) (fun i σ H' => MidB P w H g.h g.n L (fun H' l as => CW L H' l as ∧ g.goal ∉ l.map Prod.fst) k d l u xs i 0 H' ∧ ∃ y7 y8 y9, σ = [some (.ref a), some (.ref t), some (.ref g.f), some (.ref g.f2), some (.ref d), some (.ref l), some (.ref u), y7, y8, y9])
        ⟨⟨as, ks, [], sm.trans su, su _ _ eD, kb.on (TK.same su), ?_, ?_, su _ _ eL, hE.on (TK.same su), upd_same, ?_⟩, _, _, _, rfl⟩ (fun i σ H' _ h' => ?_) (fun i x σ H2 hx h' => ?_) (fun σ H2 h' => ?_)
      · rw [Nat.zero_mul, prt_zero, List.append_nil]
        exact hv.1
      · rw [Nat.zero_mul, prt_zero, List.append_nil]
        exact ⟨hv.on (TK.same su), hg⟩
      · rw [Nat.zero_mul, prt_zero]
        exact .nil
      · obtain ⟨⟨_, _, _, _, _, _, _, _, e, _⟩, _⟩ := h'
        exact lstAt e
      · obtain ⟨hM, z7, z8, z9, rfl⟩ := h'
        obtain ⟨q0, b, hq0, rfl, _⟩ := lv_row hE hx
        have hp0 := hb.lv_perm hL k q0 (List.mem_of_getElem? hq0)
        refine ⟨_, rfl, t, rfl, ⟨_, onT (hM.choose_spec.choose_spec.choose_spec.1) ht⟩, ?_⟩
        refine for_tup (xs := (rg g.n).map V.int) (fun j σ H' => MidB P w H g.h g.n L (fun H' l as => CW L H' l as ∧ g.goal ∉ l.map Prod.fst) k d l u xs i j H' ∧ ∃ y8 y9, σ = [some (.ref a), some (.ref t), some (.ref g.f), some (.ref g.f2), some (.ref d), some (.ref l), some (.ref u), some (.ref b), y8, y9])
          ⟨hM, _, _, rfl⟩ (fun j σ H' _ h' => onT (h'.1.choose_spec.choose_spec.choose_spec.1) ht) (fun j x2 σ H3 hx2 h' => ?_) (fun σ H3 h' => ?_)
        · obtain ⟨⟨bs, ks, us, sm3, eD3, kb3, hf3, hv3, eL3, hE3, eU3, hF3⟩, w8, w9, rfl⟩ := h'
          obtain ⟨pj, hpj, rfl⟩ := map_at hx2
          have hj : j < g.n := by
            have := (List.getElem?_eq_some_iff.mp hpj).1
            rw [rg_len] at this
            exact this
          have epj : pj = (j : Int) := by
            rw [rg_at hj] at hpj
            exact (Option.some.inj hpj).symm
          subst epj
          obtain ⟨q0', b', hq0', eb', hb3⟩ := lv_row hE3 hx
          cases eb'
          rw [hq0] at hq0'
          cases hq0'
          have hfew := hb.prt_few hL k (i * g.n + j)
          have blen : bs.length ≤ 120 := by
            have := congrArg List.length hf3
            rw [List.length_map, List.length_map] at this
            omega
          have ulen : us.length ≤ 120 := by
            have h1 := hF3.len
            rw [List.length_map] at h1
            rw [List.length_append] at hfew
            omega
          have hin0 : (q0.1, q0.2) ∈ fd g.h g.n L k ++ prt g.h g.n L k (i * g.n + j) := List.mem_append_left _ (lv_fd (List.mem_of_getElem? hq0))
          refine ⟨rfl, hlive _ sm3, _, rfl, _, rfl, hlive _ sm3, b, q0.1, (j : Int), rfl, hb3, fun z hz => perm_in hp0 hz, by rw [perm_len hp0]; omega, ⟨by omega, by omega⟩, fun H4 qn s4 nq eq4 => ?_⟩
          have sm4 := sm3.trans s4
          have eD4 := s4 _ _ eD3
          have eU4 := s4 _ _ eU3
          have kb4 := kb3.on (TK.same s4)
          have hv4 := hv3.1.on (TK.same s4)
          refine ⟨_, rfl, _, rfl, d, qn, bs, ks, stp g.h (j : Int) q0.1, rfl, rfl, eD4, kb4, eq4.kx, _, rfl, ?_⟩
          by_cases hm : stp g.h (j : Int) q0.1 ∈ bs.map Prod.fst
          · have hm2 := hm
            rw [hf3] at hm2
            have ep := prt_old hq0 hj hm2
            refine ifF (by rw [decide_eq_true hm]; rfl) ⟨⟨bs, ks, us, sm4, eD4, kb4, ?_, ?_, s4 _ _ eL3, hE3.on (TK.same s4), eU4, ?_⟩, _, _, rfl⟩
            · rw [show i * g.n + (j + 1) = i * g.n + j + 1 from rfl, ep]
              exact hf3
            · rw [show i * g.n + (j + 1) = i * g.n + j + 1 from rfl, ep]
              exact ⟨hv4, hv3.2⟩
            · rw [show i * g.n + (j + 1) = i * g.n + j + 1 from rfl, ep]
              exact hF3.on (TK.same s4)
          · have hm2 := hm
            rw [hf3] at hm2
            have ep := prt_new hq0 hj hm2
            refine ifT (by rw [decide_eq_false hm]; rfl) ?_
            refine ⟨_, rfl, _, rfl, by show 2 ≤ sizeLine; decide, fun T hT => ?_⟩
            have sT := same_new (o := .tup [.ref b, .int (j : Int)]) hT
            have eT : Rd (upd H4 T (.tup [.ref b, .int (j : Int)])) T (.tup [.ref b, .int (j : Int)]) := .inl upd_same
            have smT := sm4.trans sT
            have eDT := sT _ _ eD4
            have eUT := sT _ _ eU4
            have eLT := sT _ _ (s4 _ _ eL3)
            have eqT := TK.same sT _ _ eq4.kx
            have kbT := kb4.on (TK.same sT)
            have tk4T := TK.same (s4.trans sT)
            have hbT := tk4T _ _ hb3
            have hvT := hv4.on (TK.same sT)
            generalize (upd H4 T (.tup [.ref b, .int (j : Int)])) = HT at *
            refine ⟨_, rfl, _, rfl, d, qn, bs, ks, stp g.h (j : Int) q0.1, rfl, rfl, eDT, kbT, eqT, hm, small1000 (by omega), ?_⟩
            have hv5 : CW L HT (fd g.h g.n L k ++ prt g.h g.n L k (i * g.n + j + 1)) (bs ++ [(stp g.h (j : Int) q0.1, V.ref T)]) := by
              rw [ep, ← List.append_assoc]
              exact hvT.snoc eT hbT hin0
            have tk5 : TK HT (upd HT d (DE P w (bs ++ [(stp g.h (j : Int) q0.1, V.ref T)]) (ks ++ [qn]) d)) := TK.upd eDT not_tup_d
            have eU5 : (upd HT d (DE P w (bs ++ [(stp g.h (j : Int) q0.1, V.ref T)]) (ks ++ [qn]) d)) u = some (.lst us) := by
              rw [upd_ne (ne_of eUT eDT (fun z => nomatch z))]
              exact eUT
            have eL5 : (upd HT d (DE P w (bs ++ [(stp g.h (j : Int) q0.1, V.ref T)]) (ks ++ [qn]) d)) l = some (.lst xs) := by
              rw [upd_ne (ne_of eLT eDT (fun z => nomatch z))]
              exact eLT
            have sm5 : Same H (upd HT d (DE P w (bs ++ [(stp g.h (j : Int) q0.1, V.ref T)]) (ks ++ [qn]) d)) := Same.upd smT hd
            have eD5 : (upd HT d (DE P w (bs ++ [(stp g.h (j : Int) q0.1, V.ref T)]) (ks ++ [qn]) d)) d = some (DE P w (bs ++ [(stp g.h (j : Int) q0.1, V.ref T)]) (ks ++ [qn]) d) := upd_same
            have hv6 := hv5.on tk5
            have eq5 := tk5 _ _ eqT
            have tk45 := tk4T.trans tk5
            have kb5 : KB (upd HT d (DE P w (bs ++ [(stp g.h (j : Int) q0.1, V.ref T)]) (ks ++ [qn]) d)) (bs ++ [(stp g.h (j : Int) q0.1, V.ref T)]) (ks ++ [qn]) := (kbT.on tk5).snoc (q := (stp g.h (j : Int) q0.1, V.ref T)) (b := qn) eq5
            have hnew : (stp g.h (j : Int) q0.1, q0.2 ++ [(j : Int)]) ∈ fd g.h g.n L k ++ prt g.h g.n L k (i * g.n + j + 1) := by
              rw [ep]
              exact List.mem_append_right _ (List.mem_append_right _ (List.mem_singleton.mpr rfl))
            have hp2 := hb.fd_perm hL (k + 1) _ (prt_fd hnew)
            have hwl : (q0.2 ++ [(j : Int)]).length ≤ 1000 := by
              have := fd_len (k + 1) _ (prt_fd hnew)
              have : (q0.2 ++ [(j : Int)]).length ≤ k + 1 := this
              omega
            refine ⟨rfl, hlive2 _ sm5, _, rfl, hlive2 _ sm5, qn, _, rfl, eq5, by rw [perm_len hp2]; omega, _, rfl, ite2 (fun e2 => ?_) (fun e2 => ?_)⟩
            · have e2 : stp g.h (j : Int) q0.1 = g.goal := of_decide_eq_true e2
              exact ⟨_, rfl, _, rfl, d, qn, _, _, stp g.h (j : Int) q0.1, L, q0.2 ++ [(j : Int)], _, rfl, eD5, kb5, eq5, prt_nd k (i * g.n + j + 1), hv6, hnew, hwl, fun H' r s' er => qy H' r _ (k + 1) (sm5.trans s') (by rw [← e2]; exact prt_fd hnew) er⟩
            · have e2 : stp g.h (j : Int) q0.1 ≠ g.goal := fun z => e2 (decide_eq_true z)
              refine ⟨_, rfl, .inl ⟨rfl, _, lstAt eU5⟩, _, rfl, u, us, .ref qn, rfl, rfl, eU5, small1000 (by omega), ?_⟩
              have tk6 : TK (upd HT d (DE P w (bs ++ [(stp g.h (j : Int) q0.1, V.ref T)]) (ks ++ [qn]) d)) (upd (upd HT d (DE P w (bs ++ [(stp g.h (j : Int) q0.1, V.ref T)]) (ks ++ [qn]) d)) u (.lst (us ++ [.ref qn]))) := TK.upd eU5 not_tup_l
              have tk46 := tk45.trans tk6
              refine ⟨⟨bs ++ [(stp g.h (j : Int) q0.1, V.ref T)], ks ++ [qn], us ++ [.ref qn], Same.upd sm5 huH, ?_, kb5.on tk6, ?_, ⟨hv6.on tk6, ?_⟩, ?_, hE3.on tk46, upd_same, ?_⟩, _, _, rfl⟩
              · rw [upd_ne (ne_of eD5 eU5 (fun z => nomatch z))]
                exact eD5
              · exact hv6.1
              · rw [show i * g.n + (j + 1) = i * g.n + j + 1 from rfl, ep, ← List.append_assoc, List.map_append]
                intro z
                rcases List.mem_append.mp z with z | z
                · exact hv3.2 z
                · exact e2 (List.mem_singleton.mp z).symm
              · rw [upd_ne hlu]
                exact eL5
              · rw [show i * g.n + (j + 1) = i * g.n + j + 1 from rfl, ep, List.map_append]
                exact EX.snoc (tk6 _ _ eq5) (hF3.on tk46)
        · obtain ⟨hM3, w8, w9, rfl⟩ := h'
          rw [List.length_map, rg_len] at hM3
          exact ⟨hM3.row, _, _, _, rfl⟩
      · obtain ⟨⟨bs, ks, us, sm3, eD3, kb3, hf3, hv3, eL3, hE3, eU3, hF3⟩, w7, w8, w9, rfl⟩ := h'
        rw [lx, Nat.add_zero, prt_all] at hv3 hF3
        exact ⟨_, rfl, mea g.h g.n L (k + 1), hb.mea_less hL hne, k + 1, bs, ks, us, u, rfl, ⟨_, _, _, _, rfl⟩, sm3, eD3, kb3, hv3.1, hv3.2, eU3, hF3⟩
    · have hnil : lv g.h g.n L k = [] := by
        cases xs with
        | nil => exact List.eq_nil_of_length_eq_zero lx.symm
        | cons x r => exact absurd rfl ex
      exact qn0 H1 k sm hnil hg
end
end RH
set_option Elab.async false
set_option linter.all false
set_option maxRecDepth 100000
set_option maxHeartbeats 2000000
namespace RH
open PySem PySem.Spec PyProof.Rows L2
open NdefX (NScope CellsAt Caps slotAt slotAt_of cells_of startF ncx)
open LamX (Tabs TabS TabB ExtN CodeO codeO_ne)
/-! ### the defs that make a step -/
theorem frs_free {X : Cx} {pins : List (Addr × Obj)} {σ : L2.St} {H : Hp} {s : Shared} (I : Inv X pins σ H s) (hf : ∀ x, X.fn x = true) {y : Str} {c : Addr} (h : X.env.cells.lookup y = some c) : c ∉ frs X.stack := by
  have out : c ∉ frs X.outer := fun z => by
    obtain ⟨_, o, e, _⟩ := I.ok.funs.mem z
    have h1 := Heap.lt_size e
    exact absurd (Nat.lt_of_lt_of_le h1 (I.ok.cab y c (hf y) h)) (Nat.lt_irrefl _)
  rcases I.ok.stk with e | ⟨e, ef⟩
  · rw [e]
    exact out
  · rw [e]
    intro z
    have z2 : c = X.env.locals ∨ c ∈ frs X.outer := by
      unfold frs at z ⊢
      rw [List.filterMap_cons, ef] at z
      exact List.mem_cons.mp z
    rcases z2 with z2 | z2
    · obtain ⟨m, hn, _⟩ := I.loc
      obtain ⟨o, es, ep, e1, e2, _⟩ := hn
      obtain ⟨v, o2, e3, e4⟩ := I.cell y c h
      rw [z2, e1] at e3
      cases e3
      rw [e2] at e4
      cases e4
    · exact out z2
/-- a def of the text with its code object -/
structure DfC (K : PySem.W.Frag) (mg : Str → Option Value) (x : Str) (st : Stmt) (ps : List Str) (c : Addr) : Prop where
  ex : ∃ (f : Addr) (oc : Value) (od : Option Addr) (kV doc pm : Value) (an : Option Addr) (ct : Value) (osl : Array (Option Value)), K.lookup f = some ⟨oc, od, .func (PySem.W.fnOf x x (defArgs st) (defBody st) (defScope st) .none kV doc pm an (.ref c) ct), osl⟩ ∧
    PySem.W.codeIn K (.ref c) x = true ∧ PySem.W.keepIn K (.ref f) = true ∧ mg x = some (.ref f) ∧ Binds K (PySem.W.fnOf x x (defArgs st) (defBody st) (defScope st) .none kV doc pm an (.ref c) ct) ps []
section
variable {P : Program} {w : World} {K : PySem.W.Frag} {mg : Str → Option Value} {base : Heap}
theorem mkCalC {x : Str} {st : Stmt} {N ps : List Str} {k : Nat} {sp : Sp} {c : Addr} (F : DfC K mg x st ps c) (S : FnScope N ps (defScope st)) (len : ∀ vs H Q E, sp vs H Q E → vs.length = ps.length)
    (hbody : ∀ (f : Addr) (A : Around) (outer : List Env) (s : Shared) (H : Hp) (vs : List V) (Q : VK) (E : XK), Room k (A.deeper (envOfC x (defScope st) s.heap.objs.size f (.ref c))) → sp vs H Q E →
      ∃ t, PSs (cxOf CX0 P w K mg base N x (defScope st) f (.ref c) A outer s H E).nox (defBody st) t ∧ t { nx := fun _ H' => Q .non H', rt := Q } (start N vs) H) : Cal P w K mg base (k + 1) x sp := by
  obtain ⟨f, oc, od, kV, doc, pm, an, ct, osl, lk, hcd, kp, g, b⟩ := F.ex
  refine ⟨f, _, ps, fn_of lk hcd S len fun A outer s H vs Q E hr hsp => ?_, g, kp, b⟩
  obtain ⟨t, h, q⟩ := hbody f A outer s H vs Q E hr hsp
  exact ⟨t, h.nox, q⟩
/-- the name that a lambda of the def x bears -/
def lamQ (x : Str) : Str := (envOfC x (defScope st_layout_depths) 0 0 .none).qual ++ "<lambda>"
def tabsT (P1 P2 : Addr) : List (Addr × Str) := [(P1, lamQ "layout_depths"), (P2, lamQ "word_to_layout")]
def spLDepths (P : Program) (w : World) (K : PySem.W.Frag) (T : List (Addr × Str)) : Sp := fun vs H Q _ => ∃ (v : V) (h : List (List Int)) (n : Nat) (a : Addr) (L : List Int), vs = [v, .ref a] ∧ TII K H v h ∧ Hb n h ∧ KX H a L ∧ L.Perm (rg n) ∧ Tabs T H ∧
  ∀ (H' : Hp) (d : Addr) (k : Nat) (ks : List Addr), ExtN H H' → Tabs T H' → H' d = some (DE P w ((fd h n L k).map valD) ks d) → KB H' ((fd h n L k).map valD) ks → lv h n L k = [] → Q (.ref d) H'
theorem ok_ldepths {c P1 P2 : Addr} (F : DfC K mg "layout_depths" st_layout_depths ["habit", "layout"] c) (FD : Df K mg "depths" st_depths ["start", "touches", "step", "most"]) (B : Bu mg) (TB : TabB base mg c P1) (hPP : P1 ≠ P2) (c120 : ∃ t, mg "MOST_LAYOUTS" = some (.int 120 t))
    (CP : Cal P w K mg base 1 "places_of_habit" (spPlacesOf K)) (CM : Cal P w K mg base 1 "move" (spMove K)) : Cal P w K mg base 4 "layout_depths" (spLDepths P w K (tabsT P1 P2)) := by
  obtain ⟨fD, fdD, FunD, gD, bD⟩ := FD.ex
  refine mkCalC F sc_layout_depths (fun vs H Q E h => ?_) (fun f A outer s H vs Q E hr h => ?_)
  · obtain ⟨v, h, n, a, L, rfl, _⟩ := h
    rfl
  · obtain ⟨v, h, n, a, L, rfl, hT, hb, ha, hL, hTb, q⟩ := h
    have hfree : ∀ y ∈ (lamS lam1).names, y.2 = .free → (defScope st_layout_depths).names.lookup y.1 = some .cell ∨ (defScope st_layout_depths).names.lookup y.1 = some .free := by decide +kernel
    have hfr : ∀ y ∈ (["habit"] : List Str), (y, NameKind.free) ∈ (lamS lam1).names := by decide +kernel
    let X : Cx := (cxOf CX0 P w K mg base ["habit", "layout"] "layout_depths" (defScope st_layout_depths) f (.ref c) A outer s H E).nox
    have hfX : ∀ y ∈ (lamS lam1).names, y.2 = .free → X.env.scope.names.lookup y.1 = some .cell ∨ X.env.scope.names.lookup y.1 = some .free := hfree
    let mk : Addr → LF := fun c' => ⟨X.env.qual ++ "<lambda>", lamP lam1, lamB lam1, lamS lam1, cloFrom X.env.cells (lamS lam1).names [], c'⟩
    let preS : GD → L2.St → Hp → Prop := fun g σ H => ∃ (c' : Addr) (hv : V), σ[0]? = some (some hv) ∧ H g.f = some (FnL g.f (mk c')) ∧ H c' = some (CodeO c' (mk c').qual) ∧ g.live = (fun H' => liveL g.f (mk c') H' ∧ TII K H' hv g.h) ∧ Hb g.n g.h
    have hP : ∀ (g : GD) (pins : List (Addr × Obj)) (σ : L2.St) (H : Hp) (s : Shared), Inv X pins σ H s → preS g σ H → preD P w K mg base g X.stack s H := by
      rintro g pins σ H s I ⟨c', hv, h0, h1, h2, h3, h4⟩
      have C : CellsAt (mk c').cl ["habit"] [some hv] s.heap H := by
        have := cells_of I (Caps.made (X := X) (fr := ["habit"]) (js := [0]) I.ok hfX hfr rfl)
        rw [show ([0].map (slotAt σ)) = [some hv] from by rw [List.map_cons, slotAt_of h0]; rfl] at this
        exact this
      have Fn := lok1 (P := P) (w := w) (mg := mg) (base := base) CM g.h g.n (mk c').qual (mk c').cl c' g.f
      refine (callable_lam Fn C fun y c0 e => frs_free I (fun _ => rfl) (NdefX.clo_cm (fun y hy e => (hfX y hy e).elim (fun z => I.ok.has _ (.inl z)) fun z => I.ok.has _ (.inr z)) e)).imp (fun H' l => ?_) (fun vs H' Q E l hs => ?_)
      · rw [h3] at l
        exact l.1
      · rw [h3] at l
        exact ⟨hv, rfl, l.2, h4, hs⟩
    refine ⟨_, pss_one (ps_ret (pe_callC (X := X) (preS := preS) (fun g => ok_depths FunD B g) hP hr (by decide) rfl gD FunD.kp bD pass0 (pa_cons (pv 1) (pa_cons (pc CP hr (pa_cons (pv 0) pa_nil))
      (pa_cons (pe_lam (T := tabsT P1 P2) (params := lamP lam1) (body := lamB lam1) (scope := lamS lam1) (pos := lamO lam1) TB rfl (by exact List.Mem.head _) (fun p hp e => ?_) rfl hfX) (pa_cons (pk c120) pa_nil)))))), ?_⟩
    · rcases List.mem_cons.mp hp with rfl | hp
      · rfl
      · rw [List.mem_singleton.mp hp] at e
        exact absurd e.symm hPP
    refine ⟨_, rfl, _, rfl, v, h, n, rfl, hT, hb, fun t ht => ⟨hTb.ext fun b o e => same_new ht b o e, fun f1 c1 H1 ex nn T1 nf e1 e2 => ?_⟩⟩
    have s1 := same_new (o := .tup ((rg n).map V.int)) ht
    have ex0 : ExtN H H1 := (ExtN.of fun b o e => s1 b o e).trans ex
    have tupX : ∀ b xs, Rd H b (.tup xs) → Rd H1 b (.tup xs) := fun b xs e => by
      rcases e with e | ⟨ob, e⟩
      · exact .inl (ex0 _ _ e (fun ps z => nomatch z))
      · exact .inr ⟨ob, ex0 _ _ e (fun ps z => nomatch z)⟩
    have hT1 : TII K H1 v h := hT.on fun a' xs hs => by
      rcases hs with hs | hs
      · exact .inl (tupX _ _ hs)
      · exact .inr hs
    refine ⟨⟨f1, fun H' => liveL f1 (mk c1) H' ∧ TII K H' v h, h, n⟩, ⟨c1, v, rfl, e1, e2, rfl, hb⟩, a, t, L, rfl, tupX _ _ ha, tupAt (ex _ _ upd_same (fun ps z => nomatch z)), fun H' sm => ⟨⟨sm _ _ e1, sm _ _ e2⟩, hT1.on (Same.tups sm)⟩, hb, hL, fun H' d k ks sm e kb en => ?_⟩
    exact q H' d k ks (ex0.trans (ExtN.of fun b o e => sm b o e)) (T1.ext fun b o e => sm b o e) e kb en
end
end RH
set_option Elab.async false
set_option linter.all false
set_option maxRecDepth 100000
set_option maxHeartbeats 2000000
namespace RH
open PySem PySem.Spec PyProof.Rows L2
open NdefX (NScope CellsAt Caps slotAt slotAt_of cells_of startF ncx)
open LamX (Tabs TabS TabB ExtN CodeO codeO_ne)
/-! ### words and distances -/
section
variable {P : Program} {w : World} {K : PySem.W.Frag} {mg : Str → Option Value} {base : Heap}
theorem extN_tups {K : PySem.W.Frag} {H H' : Hp} (e : ExtN H H') : Tups K H H' := fun a xs hs => by
  rcases hs with (hs | ⟨o, hs⟩) | hs
  · exact .inl (.inl (e _ _ hs (fun ps z => nomatch z)))
  · exact .inl (.inr ⟨o, e _ _ hs (fun ps z => nomatch z)⟩)
  · exact .inr hs
theorem extN_tk {H H' : Hp} (e : ExtN H H') : TK H H' := fun b xs h => by
  rcases h with h | ⟨ob, h⟩
  · exact .inl (e _ _ h (fun ps z => nomatch z))
  · exact .inr ⟨ob, e _ _ h (fun ps z => nomatch z)⟩
theorem extN_same {H H' : Hp} (e : Same H H') : ExtN H H' := ExtN.of fun b o h => e b o h
theorem tabs_same {T : List (Addr × Str)} {H H' : Hp} (t : Tabs T H) (e : Same H H') : Tabs T H' := t.ext fun b o h => e b o h
def spWtl (K : PySem.W.Frag) (T : List (Addr × Str)) : Sp := fun vs H Q _ => ∃ (v : V) (h : List (List Int)) (n : Nat) (a o : Addr) (L gl : List Int), vs = [v, .ref a, .ref o] ∧ TII K H v h ∧ Hb n h ∧
  KX H a L ∧ KX H o gl ∧ L.Perm (rg n) ∧ gl.Perm (rg n) ∧ Tabs T H ∧
  (∀ (H' : Hp) (q : Addr) (wd : List Int) (k : Nat), ExtN H H' → Tabs T H' → (gl, wd) ∈ fd h n L k → H' q = some (.tup (wd.map V.int)) → Q (.ref q) H') ∧
  (∀ (H' : Hp) (k : Nat), ExtN H H' → Tabs T H' → lv h n L k = [] → gl ∉ (fd h n L k).map Prod.fst → Q .non H')
theorem ok_wtl {c P1 P2 : Addr} (F : DfC K mg "word_to_layout" st_word_to_layout ["habit", "one", "other"] c) (FD : Df K mg "least_word" st_least_word ["start", "touches", "step", "is_goal"]) (B : Bu mg) (TB : TabB base mg c P2) (hPP : P1 ≠ P2)
    (CP : Cal P w K mg base 1 "places_of_habit" (spPlacesOf K)) (CM : Cal P w K mg base 1 "move" (spMove K)) (CT : Cal P w K mg base 1 "traced" (spTraced P w)) : Cal P w K mg base 4 "word_to_layout" (spWtl K (tabsT P1 P2)) := by
  obtain ⟨fD, fdD, FunD, gD, bD⟩ := FD.ex
  refine mkCalC F sc_word_to_layout (fun vs H Q E h => ?_) (fun f A outer s H vs Q E hr h => ?_)
  · obtain ⟨v, h, n, a, o, L, gl, rfl, _⟩ := h
    rfl
  · obtain ⟨v, h, n, a, o, L, gl, rfl, hT, hb, ha, ho, hL, hgl, hTb, q1, q2⟩ := h
    have hfr2 : ∀ y ∈ (lamS lam2).names, y.2 = .free → (defScope st_word_to_layout).names.lookup y.1 = some .cell ∨ (defScope st_word_to_layout).names.lookup y.1 = some .free := by decide +kernel
    have hfr3 : ∀ y ∈ (lamS lam3).names, y.2 = .free → (defScope st_word_to_layout).names.lookup y.1 = some .cell ∨ (defScope st_word_to_layout).names.lookup y.1 = some .free := by decide +kernel
    have hc2 : ∀ y ∈ (["habit"] : List Str), (y, NameKind.free) ∈ (lamS lam2).names := by decide +kernel
    have hc3 : ∀ y ∈ (["other"] : List Str), (y, NameKind.free) ∈ (lamS lam3).names := by decide +kernel
    let X : Cx := (cxOf CX0 P w K mg base ["habit", "one", "other"] "word_to_layout" (defScope st_word_to_layout) f (.ref c) A outer s H E).nox
    have hf2 : ∀ y ∈ (lamS lam2).names, y.2 = .free → X.env.scope.names.lookup y.1 = some .cell ∨ X.env.scope.names.lookup y.1 = some .free := hfr2
    have hf3 : ∀ y ∈ (lamS lam3).names, y.2 = .free → X.env.scope.names.lookup y.1 = some .cell ∨ X.env.scope.names.lookup y.1 = some .free := hfr3
    let mk2 : Addr → LF := fun c' => ⟨X.env.qual ++ "<lambda>", lamP lam2, lamB lam2, lamS lam2, cloFrom X.env.cells (lamS lam2).names [], c'⟩
    let mk3 : Addr → LF := fun c' => ⟨X.env.qual ++ "<lambda>", lamP lam3, lamB lam3, lamS lam3, cloFrom X.env.cells (lamS lam3).names [], c'⟩
    let preS : GL → L2.St → Hp → Prop := fun g σ H => ∃ (c1 c2 : Addr) (hv : V) (ob : Addr), σ[0]? = some (some hv) ∧ σ[2]? = some (some (.ref ob)) ∧ H g.f = some (FnL g.f (mk2 c1)) ∧ H c1 = some (CodeO c1 (mk2 c1).qual) ∧ H g.f2 = some (FnL g.f2 (mk3 c2)) ∧ H c2 = some (CodeO c2 (mk3 c2).qual) ∧
      g.live = (fun H' => liveL g.f (mk2 c1) H' ∧ TII K H' hv g.h) ∧ g.live2 = (fun H' => liveL g.f2 (mk3 c2) H' ∧ KX H' ob g.goal) ∧ Hb g.n g.h ∧ g.goal.length ≤ 1000
    have hP : ∀ (g : GL) (pins : List (Addr × Obj)) (σ : L2.St) (H : Hp) (s : Shared), Inv X pins σ H s → preS g σ H → preL P w K mg base g X.stack s H := by
      rintro g pins σ H s I ⟨c1, c2, hv, ob, h0, h2, h3, h4, h5, h6, h7, h8, h9, h10⟩
      have C2 : CellsAt (mk2 c1).cl ["habit"] [some hv] s.heap H := by
        have := cells_of I (Caps.made (X := X) (fr := ["habit"]) (js := [0]) I.ok hf2 hc2 rfl)
        rw [show ([0].map (slotAt σ)) = [some hv] from by rw [List.map_cons, slotAt_of h0]; rfl] at this
        exact this
      have C3 : CellsAt (mk3 c2).cl ["other"] [some (.ref ob)] s.heap H := by
        have := cells_of I (Caps.made (X := X) (fr := ["other"]) (js := [2]) I.ok hf3 hc3 rfl)
        rw [show ([2].map (slotAt σ)) = [some (.ref ob)] from by rw [List.map_cons, slotAt_of h2]; rfl] at this
        exact this
      have Fn2 := lok2 (P := P) (w := w) (mg := mg) (base := base) CM g.h g.n (mk2 c1).qual (mk2 c1).cl c1 g.f
      have Fn3 := lok3 (P := P) (w := w) (K := K) (mg := mg) (base := base) g.goal (mk3 c2).qual (mk3 c2).cl c2 g.f2
      refine ⟨(callable_lam Fn2 C2 fun y c0 e => frs_free I (fun _ => rfl) (NdefX.clo_cm (fun y hy e => (hf2 y hy e).elim (fun z => I.ok.has _ (.inl z)) fun z => I.ok.has _ (.inr z)) e)).imp (fun H' l => ?_) (fun vs H' Q E l hs => ?_),
        (callable_lam Fn3 C3 fun y c0 e => frs_free I (fun _ => rfl) (NdefX.clo_cm (fun y hy e => (hf3 y hy e).elim (fun z => I.ok.has _ (.inl z)) fun z => I.ok.has _ (.inr z)) e)).imp (fun H' l => ?_) (fun vs H' Q E l hs => ?_)⟩
      · rw [h7] at l
        exact l.1
      · rw [h7] at l
        exact ⟨hv, rfl, l.2, h9, hs⟩
      · rw [h8] at l
        exact l.1
      · rw [h8] at l
        exact ⟨ob, rfl, l.2, h10, hs⟩
    have huT : ∀ p ∈ tabsT P1 P2, p.1 = P2 → p.2 = X.env.qual ++ "<lambda>" := fun p hp e => by
      rcases List.mem_cons.mp hp with rfl | hp
      · exact absurd e hPP
      · rw [List.mem_singleton.mp hp]
        rfl
    refine ⟨_, pss_one (ps_ret (pe_callC (X := X) (preS := preS) (fun g => ok_least FunD B CT g) hP hr (by decide) rfl gD FunD.kp bD pass0 (pa_cons (pv 1) (pa_cons (pc CP hr (pa_cons (pv 0) pa_nil))
      (pa_cons (pe_lam (T := tabsT P1 P2) (params := lamP lam2) (body := lamB lam2) (scope := lamS lam2) (pos := lamO lam2) TB rfl (by exact List.Mem.tail _ (List.Mem.head _)) huT rfl hf2)
      (pa_cons (pe_lam (T := tabsT P1 P2) (params := lamP lam3) (body := lamB lam3) (scope := lamS lam3) (pos := lamO lam3) TB rfl (by exact List.Mem.tail _ (List.Mem.head _)) huT rfl hf3) pa_nil)))))), ?_⟩
    refine ⟨_, rfl, _, rfl, v, h, n, rfl, hT, hb, fun t ht => ⟨tabs_same hTb (same_new ht), fun f1 c1 H1 ex nn T1 nf e1 e2 => ⟨T1, fun f2 c2 H2 ex2 nn2 T2 nf2 e3 e4 => ?_⟩⟩⟩
    have ex0 : ExtN H H2 := ((extN_same (same_new ht)).trans ex).trans ex2
    have e1' := ex2 _ _ e1 (fun ps z => fnL_ne ps z)
    have e2' := ex2 _ _ e2 (fun ps z => codeO_ne ps z)
    have hT2 := hT.on (extN_tups (K := K) ex0)
    have n5 := hb.hi
    refine ⟨⟨⟨f1, fun H' => liveL f1 (mk2 c1) H' ∧ TII K H' v h, h, n⟩, f2, fun H' => liveL f2 (mk3 c2) H' ∧ KX H' o gl, gl⟩, ⟨c1, c2, v, o, rfl, rfl, e1', e2', e3, e4, rfl, rfl, hb, by show gl.length ≤ 1000; rw [perm_len hgl]; omega⟩,
      a, t, L, rfl, extN_tk ex0 _ _ ha, (.inl (extN_tk (ex.trans ex2) _ _ (.inl upd_same))), fun H' sm => ⟨⟨sm _ _ e1', sm _ _ e2'⟩, hT2.on (Same.tups sm)⟩, fun H' sm => ⟨⟨sm _ _ e3, sm _ _ e4⟩, TK.same sm _ _ (extN_tk ex0 _ _ ho)⟩, hb, hL, fun H' q' wd k sm hm e => ?_, fun H' k sm en hn => ?_⟩
    · exact q1 H' q' wd k (ex0.trans (extN_same sm)) (tabs_same T2 sm) hm e
    · exact q2 H' k (ex0.trans (extN_same sm)) (tabs_same T2 sm) en hn
theorem ok_between {T : List (Addr × Str)} (F : Df K mg "word_between" st_word_between ["habit", "one", "other"]) (B : Bu mg) (CH : Cal P w K mg base 6 "check_habit" (spCheckHabit K)) (CL : Cal P w K mg base 6 "check_layout" (spCheckLayout K)) (CW : Cal P w K mg base 4 "word_to_layout" (spWtl K T)) :
    Cal P w K mg base 7 "word_between" (spWtl K T) := by
  refine mkCal F sc_word_between (fun vs H Q E h => ?_) (fun f cdv A outer s H vs Q E hr h => ?_)
  · obtain ⟨v, h, n, a, o, L, gl, rfl, _⟩ := h
    rfl
  · obtain ⟨v, h, n', a, o, L', gl', rfl, hT, hb, ha, ho, hp1, hp2, hTb, q1, q2⟩ := h
    obtain ⟨ah, xs, rfl, hS, hE⟩ := id hT
    have hxl : xs.length = n' := hE.len.trans hb.len
    have n5 := hb.hi
    refine ⟨_, pss_cons (ps_expr (pc CH hr (pa_cons (pv 0) pa_nil)))
      (pss_cons (ps_expr (pc CL hr (pa_cons (pv 1) (pa_cons (pe_callB (cl_len K) (by rfl) B.len PySem.boot_len (pa_cons (pv 0) pa_nil)) pa_nil))))
      (pss_cons (ps_expr (pc CL hr (pa_cons (pv 2) (pa_cons (pe_callB (cl_len K) (by rfl) B.len PySem.boot_len (pa_cons (pv 0) pa_nil)) pa_nil))))
      (pss_one (ps_ret (pc CW hr (pa_cons (pv 0) (pa_cons (pv 1) (pa_cons (pv 2) pa_nil)))))))), ?_⟩
    refine ⟨_, rfl, _, h, n', rfl, hT, hb, fun H1 s1 => ?_⟩
    refine ⟨_, rfl, _, rfl, ah, xs, rfl, .inr (onT s1 hS), _, L', n', by rw [hxl]; rfl, ⟨a, rfl, .inl (TK.same s1 _ _ ha)⟩, hp1, n5, fun H2 s2 => ?_⟩
    have s12 := s1.trans s2
    refine ⟨_, rfl, _, rfl, ah, xs, rfl, .inr (onT s12 hS), _, gl', n', by rw [hxl]; rfl, ⟨o, rfl, .inl (TK.same s12 _ _ ho)⟩, hp2, n5, fun H3 s3 => ?_⟩
    have s13 := s12.trans s3
    exact ⟨_, rfl, _, rfl, _, rfl, _, h, n', a, o, L', gl', rfl, hT.on (Same.tups s13), hb, TK.same s13 _ _ ha, TK.same s13 _ _ ho, hp1, hp2, tabs_same hTb s13, fun H' q' wd k ex t' hm e => q1 H' q' wd k ((extN_same s13).trans ex) t' hm e, fun H' k ex t' en hn => q2 H' k ((extN_same s13).trans ex) t' en hn⟩
def spDist (K : PySem.W.Frag) (T : List (Addr × Str)) : Sp := fun vs H Q _ => ∃ (v : V) (h : List (List Int)) (n : Nat) (a o : Addr) (L gl : List Int), vs = [v, .ref a, .ref o] ∧ TII K H v h ∧ Hb n h ∧
  KX H a L ∧ KX H o gl ∧ L.Perm (rg n) ∧ gl.Perm (rg n) ∧ Tabs T H ∧
  (∀ (H' : Hp) (wd : List Int) (k : Nat), ExtN H H' → Tabs T H' → (gl, wd) ∈ fd h n L k → Q (.int (wd.length : Nat)) H') ∧
  (∀ (H' : Hp) (k : Nat), ExtN H H' → Tabs T H' → lv h n L k = [] → gl ∉ (fd h n L k).map Prod.fst → Q .non H')
theorem ok_distance {T : List (Addr × Str)} (F : Df K mg "distance" st_distance ["habit", "one", "other"]) (B : Bu mg)
    (CB : Cal P w K mg base 7 "word_between" (spWtl K T)) :
    Cal P w K mg base 8 "distance" (spDist K T) := by
  refine mkCal F sc_distance (fun vs H Q E h => ?_) (fun f cdv A outer s H vs Q E hr h => ?_)
  · obtain ⟨v, h, n, a, o, L, gl, rfl, _⟩ := h
    rfl
  · obtain ⟨v, h, n, a, o, L, gl, rfl, hT, hb, ha, ho, hp1, hp2, hTb, q1, q2⟩ := h
    refine ⟨_, pss_cons (ps_set (i := 3) sc_distance.nd rfl (.inl rfl) (pc CB hr (pa_cons (pv 0) (pa_cons (pv 1) (pa_cons (pv 2) pa_nil)))))
      (pss_one (ps_ret (pe_ifExp (pt_cmp (pc_isN (pv 3))) pe_non (pe_callB (cl_len K) (by rfl) B.len PySem.boot_len (pa_cons (pv 3) pa_nil))))), ?_⟩
    refine ⟨_, rfl, _, rfl, _, rfl, v, h, n, a, o, L, gl, rfl, hT, hb, ha, ho, hp1, hp2, hTb, fun H' q' wd k ex t' hm e => ?_, fun H' k ex t' en hn => ?_⟩
    · refine ⟨_, rfl, _, rfl, ifF (ref_non _) ⟨_, rfl, q', wd.map V.int, rfl, .inr (tupAt e), ?_⟩⟩
      rw [List.length_map]
      exact q1 H' wd k ex t' hm
    · exact ⟨_, rfl, _, rfl, ifT (decide_eq_true rfl) (q2 H' k ex t' en hn)⟩
/-- m is the greatest length -/
def Mx (l : List SW) (m : Int) : Prop := m ∈ l.map (fun q => ((q.2.length : Nat) : Int)) ∧ ∀ x ∈ l.map (fun q => ((q.2.length : Nat) : Int)), x ≤ m
theorem Mx.one {l : List SW} {m m' : Int} (a : Mx l m) (b : Mx l m') : m = m' := Int.le_antisymm (b.2 _ a.1) (a.2 _ b.1)
theorem valD_snd (l : List SW) : (l.map valD).map Prod.snd = (l.map (fun q => ((q.2.length : Nat) : Int))).map V.int := by
  rw [List.map_map, List.map_map]
  rfl
def spFar (K : PySem.W.Frag) (T : List (Addr × Str)) : Sp := fun vs H Q _ => ∃ (v : V) (h : List (List Int)) (n : Nat) (a : Addr) (L : List Int), vs = [v, .ref a] ∧ TII K H v h ∧ Hb n h ∧
  KX H a L ∧ L.Perm (rg n) ∧ Tabs T H ∧ ∀ (H' : Hp) (k : Nat) (m : Int), ExtN H H' → Tabs T H' → lv h n L k = [] → Mx (fd h n L k) m → Q (.int m) H'
theorem ok_farthest {T : List (Addr × Str)} (F : Df K mg "farthest" st_farthest ["habit", "layout"]) (B : Bu mg) (CH : Cal P w K mg base 6 "check_habit" (spCheckHabit K)) (CL : Cal P w K mg base 6 "check_layout" (spCheckLayout K)) (CD : Cal P w K mg base 4 "layout_depths" (spLDepths P w K T)) :
    Cal P w K mg base 7 "farthest" (spFar K T) := by
  refine mkCal F sc_farthest (fun vs H Q E h => ?_) (fun f cdv A outer s H vs Q E hr h => ?_)
  · obtain ⟨v, h, n, a, L, rfl, _⟩ := h
    rfl
  · obtain ⟨v, h, n, a, L, rfl, hT, hb, ha, hp1, hTb, q⟩ := h
    obtain ⟨ah, xs, rfl, hS, hE⟩ := id hT
    have hxl : xs.length = n := hE.len.trans hb.len
    have n5 := hb.hi
    refine ⟨_, pss_cons (ps_expr (pc CH hr (pa_cons (pv 0) pa_nil)))
      (pss_cons (ps_expr (pc CL hr (pa_cons (pv 1) (pa_cons (pe_callB (cl_len K) (by rfl) B.len PySem.boot_len (pa_cons (pv 0) pa_nil)) pa_nil))))
      (pss_one (ps_ret (pe_callB (cr_max rfl) (by rfl) B.max (by decide +kernel) (pa_cons (pe_callTy (call_listValsE rfl) (by rfl) B.list (by decide +kernel) (pa_cons (pe_valsE (pc CD hr (pa_cons (pv 0) (pa_cons (pv 1) pa_nil)))) pa_nil)) pa_nil))))), ?_⟩
    refine ⟨_, rfl, _, h, n, rfl, hT, hb, fun H1 s1 => ?_⟩
    refine ⟨_, rfl, _, rfl, ah, xs, rfl, .inr (onT s1 hS), _, L, n, by rw [hxl]; rfl, ⟨a, rfl, .inl (TK.same s1 _ _ ha)⟩, hp1, n5, fun H2 s2 => ?_⟩
    have s12 := s1.trans s2
    refine ⟨_, rfl, _, rfl, _, h, n, a, L, rfl, hT.on (Same.tups s12), hb, TK.same s12 _ _ ha, hp1, tabs_same hTb s12, fun H3 d k ks ex t3 e kb en => ?_⟩
    have hne : 0 < ((fd h n L k).map (fun q => ((q.2.length : Nat) : Int))).length := by
      rw [List.length_map]
      exact List.length_pos_of_mem (fd_start k)
    refine ⟨d, _, ks, rfl, e, fun p hp => ⟨p, d, _, ks, rfl, upd_same, same_new hp _ _ e, fun l hl => ⟨l, _, rfl, lstAt (by rw [upd_same, valD_snd]), hne, fun m hm hle => ?_⟩⟩⟩
    have s5 : Same H3 (upd (upd H3 p (valuesO p d)) l (.lst (((fd h n L k).map valD).map Prod.snd))) := (same_new hp).trans (same_new hl)
    exact q _ k m ((extN_same s12).trans (ex.trans (extN_same s5))) (tabs_same t3 s5) en ⟨hm, hle⟩
def spOrd (K : PySem.W.Frag) (T : List (Addr × Str)) : Sp := fun vs H Q _ => ∃ (v : V) (h : List (List Int)) (n : Nat), vs = [v] ∧ TII K H v h ∧ Hb n h ∧ Tabs T H ∧
  ∀ (H' : Hp) (k : Nat), ExtN H H' → Tabs T H' → lv h n (rg n) k = [] → Q (.int ((fd h n (rg n) k).length : Nat)) H'
theorem ok_ordr {T : List (Addr × Str)} (F : Df K mg "order" st_order ["habit"]) (B : Bu mg) (CH : Cal P w K mg base 6 "check_habit" (spCheckHabit K)) (CP : Cal P w K mg base 1 "places_of_habit" (spPlacesOf K)) (CD : Cal P w K mg base 4 "layout_depths" (spLDepths P w K T)) :
    Cal P w K mg base 7 "order" (spOrd K T) := by
  refine mkCal F sc_order (fun vs H Q E h => ?_) (fun f cdv A outer s H vs Q E hr h => ?_)
  · obtain ⟨v, h, n, rfl, _⟩ := h
    rfl
  · obtain ⟨v, h, n, rfl, hT, hb, hTb, q⟩ := h
    refine ⟨_, pss_cons (ps_expr (pc CH hr (pa_cons (pv 0) pa_nil)))
      (pss_one (ps_ret (pe_callB call_lenE (by rfl) B.len PySem.boot_len (pa_cons (pc CD hr (pa_cons (pv 0) (pa_cons (pc CP hr (pa_cons (pv 0) pa_nil)) pa_nil))) pa_nil)))), ?_⟩
    refine ⟨_, rfl, _, h, n, rfl, hT, hb, fun H1 s1 => ?_⟩
    refine ⟨_, rfl, _, rfl, _, h, n, rfl, hT.on (Same.tups s1), hb, fun t ht => ?_⟩
    have s2 := s1.trans (same_new (o := .tup ((rg n).map V.int)) ht)
    refine ⟨_, h, n, t, rg n, rfl, hT.on (Same.tups s2), hb, .inl upd_same, List.Perm.refl _, tabs_same hTb s2, fun H3 d k ks ex t3 e kb en => ⟨d, _, ks, rfl, e, kb, ?_⟩⟩
    rw [List.length_map]
    exact q H3 k ((extN_same s2).trans ex) t3 en
def spCome (K : PySem.W.Frag) (T : List (Addr × Str)) : Sp := fun vs H Q _ => ∃ (v : V) (h : List (List Int)) (n : Nat) (a : Addr) (L : List Int), vs = [v, .ref a] ∧ TII K H v h ∧ Hb n h ∧
  KX H a L ∧ L.Perm (rg n) ∧ Tabs T H ∧ ∀ (H' : Hp) (k : Nat) (q : Addr) (ys : List V) (ls' : List (List Int)), ExtN H H' → Tabs T H' → lv h n L k = [] → SoT H' ((fd h n L k).map Prod.fst) ys ls' → H' q = some (.tup ys) → Q (.ref q) H'
theorem SoT.on {H H' : Hp} {ls ls' : List (List Int)} {ys : List V} (e : TK H H') (s : SoT H ls ys ls') : SoT H' ls ys ls' := ⟨s.1, s.2.1, s.2.2.1.on e, s.2.2.2⟩
theorem perm_bd {n : Nat} (n5 : n ≤ 5) {s : List Int} (hs : s.Perm (rg n)) : TS.Bd 10 s := fun m hm => by
  have := perm_in hs hm
  exact ⟨this.1, by have := this.2; omega⟩
theorem ok_come {T : List (Addr × Str)} (F : Df K mg "can_come" st_can_come ["habit", "layout"]) (B : Bu mg) (CH : Cal P w K mg base 6 "check_habit" (spCheckHabit K)) (CL : Cal P w K mg base 6 "check_layout" (spCheckLayout K)) (CD : Cal P w K mg base 4 "layout_depths" (spLDepths P w K T)) :
    Cal P w K mg base 7 "can_come" (spCome K T) := by
  refine mkCal F sc_can_come (fun vs H Q E h => ?_) (fun f cdv A outer s H vs Q E hr h => ?_)
  · obtain ⟨v, h, n, a, L, rfl, _⟩ := h
    rfl
  · obtain ⟨v, h, n, a, L, rfl, hT, hb, ha, hp1, hTb, q⟩ := h
    obtain ⟨ah, xs, rfl, hS, hE⟩ := id hT
    have hxl : xs.length = n := hE.len.trans hb.len
    have n5 := hb.hi
    have n2 := hb.lo
    refine ⟨_, pss_cons (ps_expr (pc CH hr (pa_cons (pv 0) pa_nil)))
      (pss_cons (ps_expr (pc CL hr (pa_cons (pv 1) (pa_cons (pe_callB (cl_len K) (by rfl) B.len PySem.boot_len (pa_cons (pv 0) pa_nil)) pa_nil))))
      (pss_one (ps_ret (pe_tupleOf (by rfl) B.tuple (pe_callB (call_sortE rfl) (by rfl) B.sorted (by decide +kernel) (pa_cons (pc CD hr (pa_cons (pv 0) (pa_cons (pv 1) pa_nil))) pa_nil)))))), ?_⟩
    refine ⟨_, rfl, _, h, n, rfl, hT, hb, fun H1 s1 => ?_⟩
    refine ⟨_, rfl, _, rfl, ah, xs, rfl, .inr (onT s1 hS), _, L, n, by rw [hxl]; rfl, ⟨a, rfl, .inl (TK.same s1 _ _ ha)⟩, hp1, n5, fun H2 s2 => ?_⟩
    have s12 := s1.trans s2
    refine ⟨_, rfl, _, rfl, _, h, n, a, L, rfl, hT.on (Same.tups s12), hb, TK.same s12 _ _ ha, hp1, tabs_same hTb s12, fun H3 d k ks ex t3 e kb en => ?_⟩
    refine ⟨d, _, ks, n, rfl, e, kb, by omega, fun q0 hq0 => ?_, fun ys ls' p so hp => ?_⟩
    · obtain ⟨x, hx, rfl⟩ := List.mem_map.mp hq0
      have := hb.fd_perm hp1 k x hx
      exact ⟨perm_len this, perm_bd n5 this⟩
    · rw [valD_fst] at so
      refine .inl ⟨p, ys, rfl, lstAt upd_same, fun r hr2 => ?_⟩
      have s5 : Same H3 (upd (upd H3 p (.lst ys)) r (.tup ys)) := (same_new hp).trans (same_new hr2)
      exact q _ k r ys ls' ((extN_same s12).trans (ex.trans (extN_same s5))) (tabs_same t3 s5) en (so.on (TK.same s5)) upd_same
def spAfter (K : PySem.W.Frag) : Sp := fun vs H Q _ => ∃ (v : V) (h : List (List Int)) (n : Nat) (a : Addr) (L : List Int) (wv : V) (ws : List Int), vs = [v, .ref a, wv] ∧ HLW K H v h n a L wv ws ∧ ∀ H' q, Same H H' → FT H' q (mvs h L ws) → Q (.ref q) H'
theorem ok_after (F : Df K mg "after" st_after ["habit", "layout", "word"]) (B : Bu mg) (CH : Cal P w K mg base 6 "check_habit" (spCheckHabit K)) (CL : Cal P w K mg base 6 "check_layout" (spCheckLayout K)) (CW : Cal P w K mg base 6 "check_word" (spCheckWord K)) (CA : Cal P w K mg base 2 "move_along" (spMoveAlong K)) :
    Cal P w K mg base 7 "after" (spAfter K) := by
  refine mkCal F sc_after (fun vs H Q E h => ?_) (fun f cdv A outer s H vs Q E hr h => ?_)
  · obtain ⟨v, h, n, a, L, wv, ws, rfl, _⟩ := h
    rfl
  · obtain ⟨v, h, n, a, L, wv, ws, rfl, g, q⟩ := h
    obtain ⟨ah, xs, rfl, hS, hE⟩ := id g.hT
    have hxl : xs.length = n := hE.len.trans g.hb.len
    have n5 := g.hb.hi
    refine ⟨_, pss_cons (ps_expr (pc CH hr (pa_cons (pv 0) pa_nil)))
      (pss_cons (ps_expr (pc CL hr (pa_cons (pv 1) (pa_cons (pe_callB (cl_len K) (by rfl) B.len PySem.boot_len (pa_cons (pv 0) pa_nil)) pa_nil))))
      (pss_cons (ps_expr (pc CW hr (pa_cons (pv 2) (pa_cons (pe_callB (cl_len K) (by rfl) B.len PySem.boot_len (pa_cons (pv 0) pa_nil)) pa_nil))))
      (pss_one (ps_ret (pc CA hr (pa_cons (pv 0) (pa_cons (pv 1) (pa_cons (pv 2) pa_nil)))))))), ?_⟩
    refine ⟨_, rfl, _, h, n, rfl, g.hT, g.hb, fun H1 s1 => ?_⟩
    refine ⟨_, rfl, _, rfl, ah, xs, rfl, .inr (onT s1 hS), _, L, n, by rw [hxl]; rfl, ⟨a, rfl, (g.same s1).fL.sq⟩, g.hL, n5, fun H2 s2 => ?_⟩
    have s12 := s1.trans s2
    refine ⟨_, rfl, _, rfl, ah, xs, rfl, .inr (onT s12 hS), wv, ws, n, by rw [hxl]; rfl, (g.same s12).hW, g.len, g.hw, fun H3 s3 => ?_⟩
    have s13 := s12.trans s3
    exact ⟨_, rfl, _, rfl, _, rfl, _, h, n, a, L, wv, ws, rfl, g.same s13, fun H4 q4 s4 f4 => q H4 q4 (s13.trans s4) f4⟩
end
end RH
set_option Elab.async false
set_option linter.all false
set_option maxRecDepth 100000
set_option maxHeartbeats 2000000
namespace RH
open PySem PySem.Spec PyProof.Rows L2
/-! ### the law's own search -/
theorem pe_dgetE2 {X : Cx} {o i : Expr} {pos : Pos} {td ty : TE} (P : Program) (w : World) (hu : X.A.units + 1 < cLine) (ho : PE X o td) (hi : PE X i ty) (hs : NoSl i) (h1 : X.prog = P := by rfl) (h2 : X.w = w := by rfl) : PE X (.Subscript o i pos) (tDGetE P w td ty) := by
  subst h1 h2
  exact pe_dgetE hu ho hi hs
section
variable {P : Program} {w : World} {K : PySem.W.Frag} {mg : Str → Option Value} {base : Heap}
def spNear (P : Program) (w : World) (K : PySem.W.Frag) : Sp := fun vs H Q _ => ∃ (v : V) (h : List (List Int)) (n : Nat) (a : Addr) (L : List Int), vs = [v, .ref a] ∧ TII K H v h ∧ Hb n h ∧ KX H a L ∧ L.Perm (rg n) ∧
  ∀ (H' : Hp) (d : Addr) (k : Nat) (ks : List Addr), Same H H' → H' d = some (DE P w ((fd h n L k).map valD) ks d) → KB H' ((fd h n L k).map valD) ks → lv h n L k = [] → Q (.ref d) H'
/-- what stands within a level of the law's search -/
def MidN (P : Program) (w : World) (H : Hp) (h : List (List Int)) (n : Nat) (L : List Int) (k : Nat) (d l : Addr) (xs : List V) (i j : Nat) (H' : Hp) : Prop :=
  ∃ (ks : List Addr), Same H H' ∧ H' d = some (DE P w ((fd h n L k ++ prt h n L k (i * n + j)).map valD) ks d) ∧ KB H' ((fd h n L k ++ prt h n L k (i * n + j)).map valD) ks ∧ H' l = some (.lst xs) ∧ EX H' xs ((lv h n L k).map Prod.fst)
theorem MidN.row {H H' : Hp} {h : List (List Int)} {n : Nat} {L : List Int} {k : Nat} {d l : Addr} {xs : List V} {i : Nat} (m : MidN P w H h n L k d l xs i n H') : MidN P w H h n L k d l xs (i + 1) 0 H' := by
  unfold MidN at m ⊢
  rw [show (i + 1) * n + 0 = i * n + n by rw [Nat.succ_mul]; rfl]
  exact m
theorem ok_near (F : Df K mg "_law_near" st__law_near ["habit", "layout"]) (B : Bu mg) (CLT : Cal P w K mg base 1 "_law_touch" (spMove K)) : Cal P w K mg base 2 "_law_near" (spNear P w K) := by
  refine mkCal F sc__law_near (fun vs H Q E h => ?_) (fun f cdv A outer s H vs Q E hr h => ?_)
  · obtain ⟨v, h, n, a, L, rfl, _⟩ := h
    rfl
  · obtain ⟨v, h, n, a, L, rfl, hT, hb, ha, hL, q⟩ := h
    obtain ⟨ah, hxs, rfl, hS, hHE⟩ := id hT
    have hxl : hxs.length = n := hHE.len.trans hb.len
    have n5 := hb.hi
    refine ⟨_, pss_cons (ps_asg (pe_tup (pa_cons (pe_disp1E hr.units0 (pv 1) pe_int) (pa_cons pe_int (pa_cons pe_bl pa_nil)))) (pg_tup rfl (pgs_cons (pg_name (i := 2) sc__law_near.nd rfl (.inr rfl)) (pgs_cons (pg_name (i := 3) sc__law_near.nd rfl (.inr rfl)) (pgs_cons (pg_name (i := 4) sc__law_near.nd rfl (.inl rfl)) pgs_nil)))))
      (pss_cons (ps_while PassesOwn.never (pt_val (pv 4))
        (pss_cons (ps_set (i := 4) sc__law_near.nd rfl (.inl rfl) pe_bl)
        (pss_cons (ps_for PassesOwn.never rfl (pi_list (pe_lc (own := [("one", 5)]) (g := gName 5) rfl sc__law_near.nd (pi_list (pe_callTy (call_listE rfl) (by rfl) B.list (by decide +kernel) (pa_cons (pv 2) pa_nil)))
            (blkOk_by (N := ["habit", "layout", "found", "far", "grown", "one", "place", "other"]) (sc := defScope st__law_near) (by decide +kernel)) (fun _ _ _ _ _ => pg_name (i := 5) sc__law_near.nd rfl (Or.inl rfl))
            (fun _ _ _ _ _ => pts_one (pt_cmpR op_eq (pe_dgetE2 P w (hu_of hr) (pv 2) (pv 5) (fun _ _ => rfl)) (pv 3) (nomark _))) (fun _ _ _ _ _ => pv 5))) (pg_name (i := 5) sc__law_near.nd rfl (.inl rfl))
          (pss_one (ps_for PassesOwn.never rfl (pi_range1 (by rfl) B.range (pa_cons (pe_callB (cl_len K) (by rfl) B.len PySem.boot_len (pa_cons (pv 0) pa_nil)) pa_nil)) (pg_name (i := 6) sc__law_near.nd rfl (.inl rfl))
            (pss_cons (ps_set (i := 7) sc__law_near.nd rfl (.inl rfl) (pc CLT hr (pa_cons (pv 0) (pa_cons (pv 5) (pa_cons (pv 6) pa_nil)))))
            (pss_one (ps_if (pt_cmp (pc_dnotinE (hu_of hr) (pv 7) (pv 2)))
              (pss_one (ps_asg (pe_tup (pa_cons (pe_op op_add (pv 3) pe_int) (pa_cons pe_bl pa_nil))) (pg_tup rfl (pgs_cons (pg_sub (pv 2) (pv 7) (set_dE (hu_of hr))) (pgs_cons (pg_name (i := 4) sc__law_near.nd rfl (.inl rfl)) pgs_nil))))) pss_nil))))))
        (pss_one (ps_set (i := 3) sc__law_near.nd rfl (.inr rfl) (pe_op op_add (pv 3) pe_int)))))) 
      (pss_one (ps_ret (pv 2)))), ?_⟩
    intro d hd
    refine ⟨_, rfl, upd_same, a, L, rfl, TK.same (same_new hd) _ _ ha, ?_⟩
    have hd1 : Same H (upd (upd H d (DE P w [] [] d)) d (DE P w [(L, .int 0)] [a] d)) := Same.upd (same_new hd) hd
    refine ⟨by show 3 ≤ sizeLine; decide, fun t3 ht3 => ⟨t3, _, rfl, tupAt upd_same, rfl, _, _, rfl, _, _, rfl, _, _, rfl, rfl, ?_⟩⟩
    have s3 := same_new (o := .tup [.ref d, .int 0, .bl true]) ht3
    refine ⟨fun m σ H' => ∃ (k : Nat) (ks : List Addr), m = mea h n L k ∧ (∃ y5 y6 y7, σ = [some (.ref ah), some (.ref a), some (.ref d), some (.int (k : Nat)), some (.bl (decide (lv h n L k ≠ []))), y5, y6, y7]) ∧
      Same H H' ∧ H' d = some (DE P w ((fd h n L k).map valD) ks d) ∧ KB H' ((fd h n L k).map valD) ks, ⟨mea h n L 0, 0, [a], rfl, ⟨none, none, none, rfl⟩, hd1.trans s3, s3 _ _ upd_same, .cons (TK.same (hd1.trans s3) _ _ ha) .nil⟩, ?_⟩
    rintro m σ H1 ⟨k, ks, rfl, ⟨y5, y6, y7, rfl⟩, sm, eD, kb⟩
    refine ⟨_, rfl, _, rfl, ite2 (fun ex => ?_) (fun ex => ?_)⟩
    · have hne : lv h n L k ≠ [] := of_decide_eq_true ex
      refine ⟨fun σ' H' => ∃ m', m' < mea h n L k ∧ ∃ (k : Nat) (ks : List Addr), m' = mea h n L k ∧ (∃ y5 y6 y7, σ' = [some (.ref ah), some (.ref a), some (.ref d), some (.int (k : Nat)), some (.bl (decide (lv h n L k ≠ []))), y5, y6, y7]) ∧
        Same H H' ∧ H' d = some (DE P w ((fd h n L k).map valD) ks d) ∧ KB H' ((fd h n L k).map valD) ks, fun _ _ h => h, ?_⟩
      refine ⟨_, rfl, d, _, ks, rfl, eD, fun l0 hl0 => ⟨l0, rfl, ⟨_, lstAt upd_same⟩, fun D hD => ?_⟩⟩
      have s0 := same_new (o := .lst (ks.map V.ref)) hl0
      have hfew := hb.fd_few hL k
      have klen : (ks.map V.ref).length = (fd h n L k).length := by
        have := kb.ex.len
        rw [this, valD_fst, List.length_map]
      refine lc_list (xs := ks.map V.ref) (fun i H' => Same (upd H1 l0 (.lst (ks.map V.ref))) H' ∧ ∃ ys, H' D = some (.lst ys) ∧ EX H' ys ((((fd h n L k).take i).filter (fun q => decide (q.2.length = k))).map Prod.fst))
        ⟨same_new hD, [], upd_same, .nil⟩ (fun i H' _ h' => lstAt (h'.1 _ _ upd_same)) (fun i x H' hx h' => ?_) (fun H' h' => ?_)
      · obtain ⟨sm2, ys, eY, hY⟩ := h'
        have hi : i < (fd h n L k).length := by
          have := (List.getElem?_eq_some_iff.mp hx).1
          rw [klen] at this
          exact this
        have hq : (fd h n L k)[i]? = some (fd h n L k)[i] := List.getElem?_eq_getElem hi
        generalize (fd h n L k)[i] = qi at hq
        obtain ⟨b, hxb, hkb⟩ := (kb.ex).at (i := i) (s := qi.1) (by rw [valD_fst, List.getElem?_map, hq]; rfl)
        rw [hx] at hxb
        cases Option.some.inj hxb
        have smA := s0.trans sm2
        have hmem : qi.1 ∈ ((fd h n L k).map valD).map Prod.fst := by
          rw [valD_fst]
          exact List.mem_map.mpr ⟨qi, List.mem_of_getElem? hq, rfl⟩
        refine ⟨rfl, _, rfl, _, rfl, d, b, _, ks, qi.1, rfl, rfl, smA _ _ eD, kb.on (TK.same smA), TK.same smA _ _ hkb, hmem, fun v hv => ?_⟩
        have ev : v = .int (qi.2.length : Nat) := by
          obtain ⟨y, hy, ey⟩ := List.mem_map.mp hv
          have ey2 : (y.1, V.int (y.2.length : Nat)) = (qi.1, v) := ey
          have e1 : y.1 = qi.1 := (Prod.mk.inj ey2).1
          have e2 : V.int (y.2.length : Nat) = v := (Prod.mk.inj ey2).2
          have e3 := fd_val (s := qi.1) (w := y.2) (w' := qi.2) (by rw [← e1]; exact hy) (List.mem_of_getElem? hq)
          rw [← e2, e3]
        subst ev
        refine ⟨_, rfl, rfl, _, rfl, ?_⟩
        have ec : decide (V.int (qi.2.length : Nat) = V.int (k : Nat)) = decide (qi.2.length = k) := by
          rw [V_int, Bool.eq_iff_iff, decide_eq_true_iff, decide_eq_true_iff]
          omega
        rw [ec]
        refine ite2 (fun e => ⟨_, rfl, ys, eY, ?_, sameU sm2 hD, ys ++ [.ref b], upd_same, ?_⟩) (fun e => ⟨sm2, ys, eY, ?_⟩)
        · have := hY.len
          rw [List.length_map] at this
          have h2 := List.length_filter_le (fun q : SW => decide (q.2.length = k)) ((fd h n L k).take i)
          rw [List.length_take] at h2
          exact small1000 (by omega)
        · rw [take_more hq, List.filter_append, List.map_append, List.filter_cons_of_pos (by exact e)]
          have tk : TK H' (upd H' D (.lst (ys ++ [.ref b]))) := TK.upd eY not_tup_l
          exact EX.snoc (tk _ _ (TK.same smA _ _ hkb)) (hY.on tk)
        · rw [take_more hq, List.filter_append, List.map_append, List.filter_cons_of_neg (by exact e), List.filter_nil, List.map_nil, List.append_nil]
          exact hY
      · obtain ⟨sm2, xs, eL, hE⟩ := h'
        rw [klen, List.take_length, fd_lv] at hE
        have smA := s0.trans sm2
        have sm3 := sm.trans smA
        have lx : xs.length = (lv h n L k).length := hE.len.trans (List.length_map ..)
        refine ⟨D, rfl, ⟨_, lstAt eL⟩, ?_⟩
        refine for_list (xs := xs) (fun i σ H' => MidN P w H h n L k d D xs i 0 H' ∧ ∃ y5 y6 y7, σ = [some (.ref ah), some (.ref a), some (.ref d), some (.int (k : Nat)), some (.bl (decide (prt h n L k (i * n) ≠ []))), y5, y6, y7])
          ⟨⟨ks, sm3, ?_, ?_, eL, hE⟩, y5, y6, y7, ?_⟩ (fun i σ H' _ h' => ?_) (fun i x σ H2 hx h' => ?_) (fun σ H2 h' => ?_)
        · rw [Nat.zero_mul, prt_zero, List.append_nil]
          exact smA _ _ eD
        · rw [Nat.zero_mul, prt_zero, List.append_nil]
          exact kb.on (TK.same smA)
        · rw [Nat.zero_mul, prt_zero]
          rfl
        · obtain ⟨⟨_, _, _, _, e, _⟩, _⟩ := h'
          exact lstAt e
        · obtain ⟨hM, z5, z6, z7, rfl⟩ := h'
          obtain ⟨q0, b, hq0, rfl, _⟩ := lv_row hE hx
          have hp0 := hb.lv_perm hL k q0 (List.mem_of_getElem? hq0)
          obtain ⟨_, smM, _⟩ := id hM
          refine ⟨_, rfl, ah, hxs, rfl, .inr (onT smM hS), (hxs.length : Nat), rfl, by omega, by omega, ?_⟩
          rw [hxl, Int.toNat_natCast]
          refine for_range (lo := 0) (n := n) (fun j σ H' => MidN P w H h n L k d D xs i j H' ∧ ∃ y6 y7, σ = [some (.ref ah), some (.ref a), some (.ref d), some (.int (k : Nat)), some (.bl (decide (prt h n L k (i * n + j) ≠ []))), some (.ref b), y6, y7])
            ⟨hM, _, _, rfl⟩ (fun j σ H3 hj h' => ?_) (fun σ H3 h' => ?_)
          · obtain ⟨⟨ks, sm3, eD3, kb3, eL3, hE3⟩, w6, w7, rfl⟩ := h'
            rw [Int.zero_add]
            obtain ⟨q0', b', hq0', eb', hb3⟩ := lv_row hE3 hx
            cases eb'
            rw [hq0] at hq0'
            cases hq0'
            have hfew := hb.prt_few hL k (i * n + j)
            refine ⟨_, rfl, _, rfl, _, rfl, .ref ah, h, n, b, q0.1, (j : Int), rfl, hT.on (Same.tups sm3), hb, .inl hb3, fun z hz => perm_in hp0 hz, by rw [perm_len hp0]; omega, ⟨by omega, by omega⟩, fun H4 qn s4 nq eq4 => ?_⟩
            have sm4 := sm3.trans s4
            have eD4 := s4 _ _ eD3
            have kb4 := kb3.on (TK.same s4)
            refine ⟨_, rfl, _, rfl, d, qn, _, ks, stp h (j : Int) q0.1, rfl, rfl, eD4, kb4, eq4.kx, _, rfl, ?_⟩
            by_cases hm : stp h (j : Int) q0.1 ∈ ((fd h n L k ++ prt h n L k (i * n + j)).map valD).map Prod.fst
            · have hm2 := hm
              rw [valD_fst] at hm2
              have ep := prt_old hq0 hj hm2
              refine ifF (by rw [decide_eq_true hm]; rfl) ⟨⟨ks, sm4, ?_, ?_, s4 _ _ eL3, hE3.on (TK.same s4)⟩, some (.int (j : Int)), some (.ref qn), ?_⟩
              · rw [show i * n + (j + 1) = i * n + j + 1 from rfl, ep]
                exact eD4
              · rw [show i * n + (j + 1) = i * n + j + 1 from rfl, ep]
                exact kb4
              · rw [show i * n + (j + 1) = i * n + j + 1 from rfl, ep]
                rfl
            · have hm2 := hm
              rw [valD_fst] at hm2
              have ep := prt_new hq0 hj hm2
              refine ifT (by rw [decide_eq_false hm]; rfl) ?_
              refine ⟨_, rfl, (k : Nat), 1, rfl, rfl, by show 2 ≤ sizeLine; decide, fun T hT2 => ⟨T, _, rfl, tupAt upd_same, rfl, _, _, rfl, ?_⟩⟩
              have sT := same_new (o := .tup [.int ((k : Nat) + 1 : Int), .bl true]) hT2
              have smT := sm4.trans sT
              have eDT := sT _ _ eD4
              have kbT := kb4.on (TK.same sT)
              have eLT := sT _ _ (s4 _ _ eL3)
              have eqT := TK.same sT _ _ eq4.kx
              have hET := hE3.on (TK.same (s4.trans sT))
              refine ⟨_, rfl, _, rfl, d, qn, _, ks, stp h (j : Int) q0.1, rfl, rfl, eDT, kbT, eqT, hm, small1000 (by rw [List.length_map]; omega), ?_⟩
              have ev : (fd h n L k ++ prt h n L k (i * n + j)).map valD ++ [(stp h (j : Int) q0.1, V.int ((k : Nat) + 1 : Int))] = (fd h n L k ++ prt h n L k (i * n + j + 1)).map valD := by
                rw [ep, ← List.append_assoc, List.map_append (l₂ := [(stp h (j : Int) q0.1, q0.2 ++ [(j : Int)])])]
                congr 1
                show _ = [valD (stp h (j : Int) q0.1, q0.2 ++ [(j : Int)])]
                unfold valD
                rw [List.length_append, lv_len k q0 (List.mem_of_getElem? hq0)]
                rfl
              generalize hHT : (upd H4 T (.tup [.int ((k : Nat) + 1 : Int), .bl true])) = HT at *
              have tk5 : TK HT (upd HT d (DE P w ((fd h n L k ++ prt h n L k (i * n + j)).map valD ++ [(stp h (j : Int) q0.1, V.int ((k : Nat) + 1 : Int))]) (ks ++ [qn]) d)) := TK.upd eDT not_tup_d
              refine ⟨_, _, rfl, rfl, ⟨ks ++ [qn], Same.upd smT hd, ?_, ?_, ?_, hET.on tk5⟩, some (.int (j : Int)), some (.ref qn), ?_⟩
              · rw [show i * n + (j + 1) = i * n + j + 1 from rfl, ← ev]
                exact upd_same
              · rw [show i * n + (j + 1) = i * n + j + 1 from rfl, ← ev]
                exact (kbT.on tk5).snoc (q := (stp h (j : Int) q0.1, V.int ((k : Nat) + 1 : Int))) (b := qn) (tk5 _ _ eqT)
              · rw [upd_ne (ne_of eLT eDT (fun z => nomatch z))]
                exact eLT
              · have e9 : decide (prt h n L k (i * n + j + 1) ≠ []) = true := by
                  rw [ep]
                  exact decide_eq_true fun z => by simp at z
                rw [show i * n + (j + 1) = i * n + j + 1 from rfl, e9]
                rfl
          · obtain ⟨hM3, w6, w7, rfl⟩ := h'
            refine ⟨hM3.row, some (.ref b), w6, w7, ?_⟩
            rw [show (i + 1) * n = i * n + n from Nat.succ_mul i n]
        · obtain ⟨⟨ks, sm3, eD3, kb3, eL3, hE3⟩, w5, w6, w7, rfl⟩ := h'
          rw [lx, Nat.add_zero, prt_all] at eD3 kb3
          rw [lx, prt_all]
          refine ⟨_, rfl, (k : Nat), 1, rfl, rfl, mea h n L (k + 1), hb.mea_less hL hne, k + 1, ks, rfl, ⟨_, _, _, rfl⟩, sm3, eD3, kb3⟩
    · have hnil : lv h n L k = [] := by
        have := of_decide_eq_false (by simpa using ex : decide (lv h n L k ≠ []) = false)
        simpa using this
      exact ⟨_, rfl, q H1 d k ks sm eD kb hnil⟩
end
end RH
set_option Elab.async false
set_option linter.all false
set_option maxRecDepth 100000
set_option maxHeartbeats 2000000
namespace RH
open PySem PySem.Spec PyProof.Rows L2
/-! ### the law's least words -/
def lpr (h : List (List Int)) (n : Nat) (L : List Int) (k m : Nat) : List SW := dd [] ((exl h n (lst h n L k)).take m)
section
variable {h : List (List Int)} {n : Nat} {L : List Int}
theorem lpr_zero (k : Nat) : lpr h n L k 0 = [] := by
  unfold lpr
  rw [List.take_zero]
  rfl
theorem lpr_all (k : Nat) : lpr h n L k ((lst h n L k).length * n) = lst h n L (k + 1) := by
  unfold lpr
  rw [← exl_length, List.take_length]
  rfl
theorem lpr_old {k i j : Nat} {q : SW} (hq : (lst h n L k)[i]? = some q) (hj : j < n) (hk : stp h (j : Int) q.1 ∈ (lpr h n L k (i * n + j)).map Prod.fst) : lpr h n L k (i * n + j + 1) = lpr h n L k (i * n + j) := by
  unfold lpr at hk ⊢
  rw [take_more (exl_at hq hj), dd_snoc, ddS_in (.inr hk)]
theorem lpr_new {k i j : Nat} {q : SW} (hq : (lst h n L k)[i]? = some q) (hj : j < n) (hk : stp h (j : Int) q.1 ∉ (lpr h n L k (i * n + j)).map Prod.fst) :
    lpr h n L k (i * n + j + 1) = lpr h n L k (i * n + j) ++ [(stp h (j : Int) q.1, q.2 ++ [(j : Int)])] := by
  unfold lpr at hk ⊢
  rw [take_more (exl_at hq hj), dd_snoc, ddS_new (fun z => z.elim List.not_mem_nil hk)]
theorem Hb.lst_perm (q : Hb n h) (hL : L.Perm (rg n)) : ∀ k : Nat, ∀ x ∈ lst h n L k, x.1.Perm (rg n)
  | 0, x, hx => by
    rw [List.mem_singleton.mp hx]
    exact hL
  | k + 1, x, hx => by
    have := (dd_ok [] _).sub x hx
    obtain ⟨y, hy, hx⟩ := List.mem_flatMap.mp this
    obtain ⟨p, hp, rfl⟩ := List.mem_map.mp hx
    exact q.stp_perm (rg_mem.mp hp) (q.lst_perm hL k y hy)
theorem Hb.lpr_few (q : Hb n h) (hL : L.Perm (rg n)) (k m : Nat) : (lpr h n L k m).length ≤ 120 := few q.hi (dd_ok _ _).nd fun x hx => by
  have := (dd_ok [] _).sub x hx
  have := List.mem_of_mem_take this
  obtain ⟨y, hy, hx⟩ := List.mem_flatMap.mp this
  obtain ⟨p, hp, rfl⟩ := List.mem_map.mp hx
  exact q.stp_perm (rg_mem.mp hp) (q.lst_perm hL k y hy)
end
/-- pairs of a state and a word -/
inductive EW (K : PySem.W.Frag) (H : Hp) : List V → List SW → Prop
  | nil : EW K H [] []
  | cons {t b c : Addr} {q : SW} {xs : List V} {l : List SW} : Rd H t (.tup [.ref b, .ref c]) → KX H b q.1 → SqT K H c (q.2.map V.int) → EW K H xs l → EW K H (.ref t :: xs) (q :: l)
section
variable {K : PySem.W.Frag}
theorem EW.len {H : Hp} : ∀ {xs : List V} {l : List SW}, EW K H xs l → xs.length = l.length
  | _, _, .nil => rfl
  | _, _, .cons _ _ _ t => congrArg (· + 1) t.len
theorem TK.sq {H H' : Hp} (e : TK H H') {a : Addr} {xs : List V} (h : SqT K H a xs) : SqT K H' a xs := by
  rcases h with h | h
  · exact .inl (e _ _ h)
  · exact .inr h
theorem EW.on {H H' : Hp} (e : TK H H') : ∀ {xs : List V} {l : List SW}, EW K H xs l → EW K H' xs l
  | _, _, .nil => .nil
  | _, _, .cons h1 h2 h3 t => .cons (e _ _ h1) (e _ _ h2) (e.sq h3) (t.on e)
theorem EW.snoc {H : Hp} {t b c : Addr} {q : SW} (h1 : Rd H t (.tup [.ref b, .ref c])) (h2 : KX H b q.1) (h3 : SqT K H c (q.2.map V.int)) : ∀ {xs : List V} {l : List SW}, EW K H xs l → EW K H (xs ++ [.ref t]) (l ++ [q])
  | _, _, .nil => .cons h1 h2 h3 .nil
  | _, _, .cons g1 g2 g3 r => .cons g1 g2 g3 (r.snoc h1 h2 h3)
theorem EW.at {H : Hp} : ∀ {xs : List V} {l : List SW} {i : Nat} {x : V}, EW K H xs l → xs[i]? = some x → ∃ (t b c : Addr) (q : SW), l[i]? = some q ∧ x = .ref t ∧ Rd H t (.tup [.ref b, .ref c]) ∧ KX H b q.1 ∧ SqT K H c (q.2.map V.int)
  | _, _, _, _, .nil, e => by simp at e
  | _, _, 0, _, .cons h1 h2 h3 _, e => by
    cases Option.some.inj e
    exact ⟨_, _, _, _, rfl, rfl, h1, h2, h3⟩
  | _, _, i + 1, _, .cons _ _ _ t, e => t.at (i := i) e
end
section
variable {P : Program} {w : World} {K : PySem.W.Frag} {mg : Str → Option Value} {base : Heap}
/-- the states, as keys with True -/
def valT (q : SW) : List Int × V := (q.1, .bl true)
theorem valT_fst (l : List SW) : (l.map valT).map Prod.fst = l.map Prod.fst := by
  rw [List.map_map]
  rfl
def spLeastW (P : Program) (w : World) (K : PySem.W.Frag) : Sp := fun vs H Q _ => ∃ (v : V) (h : List (List Int)) (n : Nat) (a o : Addr) (L O wd : List Int) (k : Nat), vs = [v, .ref a, .ref o, .int (k : Nat)] ∧ TII K H v h ∧ Hb n h ∧ KX H a L ∧ KX H o O ∧ L.Perm (rg n) ∧ (O, wd) ∈ lst h n L k ∧ k ≤ 200 ∧
  ∀ (H' : Hp) (v' : V), Same H H' → TI K H' v' wd → Q v' H'
def MidW (P : Program) (w : World) (K : PySem.W.Frag) (H : Hp) (h : List (List Int)) (n : Nat) (L : List Int) (k : Nat) (d l u : Addr) (xs : List V) (i j : Nat) (H' : Hp) : Prop :=
  ∃ (ks : List Addr) (us : List V), Same H H' ∧ H' d = some (DE P w ((lpr h n L k (i * n + j)).map valT) ks d) ∧ KB H' ((lpr h n L k (i * n + j)).map valT) ks ∧ H' l = some (.lst xs) ∧ EW K H' xs (lst h n L k) ∧ H' u = some (.lst us) ∧ EW K H' us (lpr h n L k (i * n + j))
theorem MidW.row {H H' : Hp} {h : List (List Int)} {n : Nat} {L : List Int} {k : Nat} {d l u : Addr} {xs : List V} {i : Nat} (m : MidW P w K H h n L k d l u xs i n H') : MidW P w K H h n L k d l u xs (i + 1) 0 H' := by
  unfold MidW at m ⊢
  rw [show (i + 1) * n + 0 = i * n + n by rw [Nat.succ_mul]; rfl]
  exact m
abbrev NW : List Str := ["habit", "layout", "other", "many", "last", "turn", "longer", "seen", "one", "word", "place", "spot"]
theorem ok_leastw (F : Df K mg "_law_least_word" st__law_least_word ["habit", "layout", "other", "many"]) (B : Bu mg) (CLT : Cal P w K mg base 1 "_law_touch" (spMove K)) : Cal P w K mg base 2 "_law_least_word" (spLeastW P w K) := by
  refine mkCal F sc__law_least_word (fun vs H Q E h => ?_) (fun f cdv A outer s H vs Q E hr h => ?_)
  · obtain ⟨v, h, n, a, o, L, O, wd, k, rfl, _⟩ := h
    rfl
  · obtain ⟨v, h, n, a, o, L, O, wd, kk, rfl, hT, hb, ha, ho, hL, hO, hk2, q⟩ := h
    obtain ⟨ah, hxs, rfl, hS, hHE⟩ := id hT
    have hxl : hxs.length = n := hHE.len.trans hb.len
    have n5 := hb.hi
    refine ⟨_, pss_cons (ps_set (i := 4) sc__law_least_word.nd rfl (.inl rfl) (pe_lst (pa_cons (pe_tup (pa_cons (pv 1) (pa_cons (pe_tup pa_nil) pa_nil))) pa_nil)))
      (pss_cons (ps_for PassesOwn.never rfl (pi_range1 (by rfl) B.range (pa_cons (pv 3) pa_nil)) (pg_name (i := 5) sc__law_least_word.nd rfl (.inl rfl))
        (pss_cons (ps_par (i := 6) (j := 7) rfl sc__law_least_word.nd rfl rfl (by decide) rfl rfl (pa_cons (pe_lst pa_nil) (pa_cons pe_dnewE pa_nil)) rfl)
        (pss_cons (ps_for PassesOwn.never rfl (pi_list (pv 4)) (pg_tup rfl (pgs_cons (pg_name (i := 8) sc__law_least_word.nd rfl (.inl rfl)) (pgs_cons (pg_name (i := 9) sc__law_least_word.nd rfl (.inl rfl)) pgs_nil)))
          (pss_one (ps_for PassesOwn.never rfl (pi_range1 (by rfl) B.range (pa_cons (pe_callB (cl_len K) (by rfl) B.len PySem.boot_len (pa_cons (pv 0) pa_nil)) pa_nil)) (pg_name (i := 10) sc__law_least_word.nd rfl (.inl rfl))
            (pss_cons (ps_set (i := 11) sc__law_least_word.nd rfl (.inl rfl) (pc CLT hr (pa_cons (pv 0) (pa_cons (pv 8) (pa_cons (pv 10) pa_nil)))))
            (pss_one (ps_if (pt_cmp (pc_dnotinE (hu_of hr) (pv 11) (pv 7)))
              (pss_cons (ps_dputE (hu_of hr) (pv 7) (pv 11) pe_bl rfl)
              (pss_one (ps_expr (pe_bm PySem.F.plainAttrs_list PySem.F.slot_list_append PySem.F.type_list_append mt_append (pv 6) (pa_cons (pe_tup (pa_cons (pv 11) (pa_cons (pe_op op_catA (pv 9) (pe_tup (pa_cons (pv 10) pa_nil))) pa_nil))) pa_nil))))) pss_nil))))))
        (pss_one (ps_set (i := 4) sc__law_least_word.nd rfl (.inl rfl) (pv 6))))))
      (pss_one (ps_ret (pe_ix ix_list (pe_lc (own := [("one", 8), ("word", 9)]) (g := gTup K 2 (gCons (gName 8) (gCons (gName 9) gNil))) rfl sc__law_least_word.nd (pi_list (pv 4)) (blkOk_by (N := NW) (sc := defScope st__law_least_word) (by decide +kernel))
        (fun _ _ _ _ _ => pg_tup rfl (pgs_cons (pg_name (i := 8) sc__law_least_word.nd rfl (Or.inl rfl)) (pgs_cons (pg_name (i := 9) sc__law_least_word.nd rfl (Or.inl rfl)) pgs_nil)))
        (fun _ _ _ _ _ => pts_one (pt_cmpR (opEqD K hr.units) (pv 8) (pv 2) (nomark _))) (fun _ _ _ _ _ => pv 9)) pe_int (fun _ _ => rfl))))), ?_⟩
    refine ⟨_, rfl, Nat.zero_le _, fun t0 ht0 => ⟨by show 2 ≤ sizeLine; decide, fun t1 ht1 => ⟨by show 1 ≤ sizeLine; decide, fun l hl => ?_⟩⟩⟩
    have s0 := same_new (o := .tup []) ht0
    have s1 := same_new (o := .tup [.ref a, .ref t0]) ht1
    have s2 := same_new (o := .lst [.ref t1]) hl
    have s012 := s0.trans (s1.trans s2)
    refine ⟨_, rfl, (kk : Nat), rfl, by omega, by omega, ?_⟩
    rw [Int.toNat_natCast]
    refine for_range (lo := 0) (n := kk) (fun k σ H' => ∃ (xs : List V) (l : Addr), Same H H' ∧ H' l = some (.lst xs) ∧ EW K H' xs (lst h n L k) ∧ ∃ y5 y6 y7 y8 y9 y10 y11, σ = [some (.ref ah), some (.ref a), some (.ref o), some (.int (kk : Nat)), some (.ref l), y5, y6, y7, y8, y9, y10, y11])
      ⟨[.ref t1], l, s012, upd_same, ?_, none, none, none, none, none, none, none, rfl⟩ (fun k σ H1 hk h' => ?_) (fun σ H1 h' => ?_)
    · exact .cons (TK.same s2 _ _ (.inl upd_same)) (TK.same s012 _ _ ha) (.inl (TK.same (s1.trans s2) _ _ (.inl upd_same))) .nil
    · obtain ⟨xs, l, sm, eL, hE, y5, y6, y7, y8, y9, y10, y11, rfl⟩ := h'
      rw [Int.zero_add]
      have lx := hE.len
      have hfl : (lst h n L k).length ≤ 120 := few n5 (lst_nd k) (hb.lst_perm hL k)
      refine ⟨Nat.zero_le _, fun u hu => ?_⟩
      intro d hd
      refine ⟨_, _, rfl, ?_⟩
      have su := same_new (o := .lst []) hu
      have sd := same_new (o := DE P w [] [] d) hd
      have sud := su.trans sd
      have huH := none_of sm hu
      have hdH := none_of (sm.trans su) hd
      have hlu : l ≠ u := ne_of_none eL hu
      refine ⟨_, rfl, l, rfl, ⟨_, lstAt (sud _ _ eL)⟩, ?_⟩
      refine for_list (xs := xs) (fun i σ H' => MidW P w K H h n L k d l u xs i 0 H' ∧ ∃ y8 y9 y10 y11, σ = [some (.ref ah), some (.ref a), some (.ref o), some (.int (kk : Nat)), some (.ref l), some (.int (k : Nat)), some (.ref u), some (.ref d), y8, y9, y10, y11])
        ⟨⟨[], [], sm.trans sud, ?_, ?_, sud _ _ eL, hE.on (TK.same sud), sd _ _ upd_same, ?_⟩, _, _, _, _, rfl⟩ (fun i σ H' _ h' => ?_) (fun i x σ H2 hx h' => ?_) (fun σ H2 h' => ?_)
      · rw [Nat.zero_mul, lpr_zero]
        exact upd_same
      · rw [Nat.zero_mul, lpr_zero]
        exact .nil
      · rw [Nat.zero_mul, lpr_zero]
        exact .nil
      · obtain ⟨⟨_, _, _, _, _, e, _⟩, _⟩ := h'
        exact lstAt e
      · obtain ⟨hM, z8, z9, z10, z11, rfl⟩ := h'
        obtain ⟨_, _, smM, _, _, _, hEM, _⟩ := id hM
        obtain ⟨t, b, c, q0, hq0, rfl, hRt, _, _⟩ := hEM.at hx
        have hp0 := hb.lst_perm hL k q0 (List.mem_of_getElem? hq0)
        have hw0 := lst_len k q0 (List.mem_of_getElem? hq0)
        refine ⟨t, _, rfl, .inl hRt, rfl, _, _, rfl, _, _, rfl, rfl, ?_⟩
        refine ⟨_, rfl, ah, hxs, rfl, .inr (onT smM hS), (hxs.length : Nat), rfl, by omega, by omega, ?_⟩
        rw [hxl, Int.toNat_natCast]
        refine for_range (lo := 0) (n := n) (fun j σ H' => MidW P w K H h n L k d l u xs i j H' ∧ KX H' b q0.1 ∧ SqT K H' c (q0.2.map V.int) ∧ ∃ y10 y11, σ = [some (.ref ah), some (.ref a), some (.ref o), some (.int (kk : Nat)), some (.ref l), some (.int (k : Nat)), some (.ref u), some (.ref d), some (.ref b), some (.ref c), y10, y11])
          ⟨hM, ‹_›, ‹_›, _, _, rfl⟩ (fun j σ H3 hj h' => ?_) (fun σ H3 h' => ?_)
        · obtain ⟨⟨ks, us, sm3, eD3, kb3, eL3, hE3, eU3, hF3⟩, hb3, hc3, w10, w11, rfl⟩ := h'
          rw [Int.zero_add]
          have hfew := hb.lpr_few hL k (i * n + j)
          have ulen : us.length ≤ 120 := by
            rw [hF3.len]
            exact hfew
          refine ⟨_, rfl, _, rfl, _, rfl, .ref ah, h, n, b, q0.1, (j : Int), rfl, hT.on (Same.tups sm3), hb, .inl hb3, fun z hz => perm_in hp0 hz, by rw [perm_len hp0]; omega, ⟨by omega, by omega⟩, fun H4 qn s4 nq eq4 => ?_⟩
          have sm4 := sm3.trans s4
          have eD4 := s4 _ _ eD3
          have eU4 := s4 _ _ eU3
          have kb4 := kb3.on (TK.same s4)
          refine ⟨_, rfl, _, rfl, d, qn, _, ks, stp h (j : Int) q0.1, rfl, rfl, eD4, kb4, eq4.kx, _, rfl, ?_⟩
          by_cases hm : stp h (j : Int) q0.1 ∈ ((lpr h n L k (i * n + j)).map valT).map Prod.fst
          · have hm2 := hm
            rw [valT_fst] at hm2
            have ep := lpr_old hq0 hj hm2
            refine ifF (by rw [decide_eq_true hm]; rfl) ⟨⟨ks, us, sm4, ?_, ?_, s4 _ _ eL3, hE3.on (TK.same s4), eU4, ?_⟩, TK.same s4 _ _ hb3, (TK.same s4).sq hc3, _, _, rfl⟩
            · rw [show i * n + (j + 1) = i * n + j + 1 from rfl, ep]
              exact eD4
            · rw [show i * n + (j + 1) = i * n + j + 1 from rfl, ep]
              exact kb4
            · rw [show i * n + (j + 1) = i * n + j + 1 from rfl, ep]
              exact hF3.on (TK.same s4)
          · have hm2 := hm
            rw [valT_fst] at hm2
            have ep := lpr_new hq0 hj hm2
            refine ifT (by rw [decide_eq_false hm]; rfl) ?_
            refine ⟨_, rfl, _, rfl, d, qn, _, ks, stp h (j : Int) q0.1, rfl, rfl, eD4, kb4, eq4.kx, hm, small1000 (by rw [List.length_map]; omega), ?_⟩
            have ev : (lpr h n L k (i * n + j)).map valT ++ [(stp h (j : Int) q0.1, V.bl true)] = (lpr h n L k (i * n + j + 1)).map valT := by
              rw [ep, List.map_append]
              rfl
            have tk5 : TK H4 (upd H4 d (DE P w ((lpr h n L k (i * n + j)).map valT ++ [(stp h (j : Int) q0.1, V.bl true)]) (ks ++ [qn]) d)) := TK.upd eD4 not_tup_d
            have eU5 : (upd H4 d (DE P w ((lpr h n L k (i * n + j)).map valT ++ [(stp h (j : Int) q0.1, V.bl true)]) (ks ++ [qn]) d)) u = some (.lst us) := by
              rw [upd_ne (ne_of eU4 eD4 (fun z => nomatch z))]
              exact eU4
            have eL5 : (upd H4 d (DE P w ((lpr h n L k (i * n + j)).map valT ++ [(stp h (j : Int) q0.1, V.bl true)]) (ks ++ [qn]) d)) l = some (.lst xs) := by
              rw [upd_ne (ne_of (s4 _ _ eL3) eD4 (fun z => nomatch z))]
              exact s4 _ _ eL3
            have sm5 : Same H (upd H4 d (DE P w ((lpr h n L k (i * n + j)).map valT ++ [(stp h (j : Int) q0.1, V.bl true)]) (ks ++ [qn]) d)) := Same.upd sm4 hdH
            have eD5 : (upd H4 d (DE P w ((lpr h n L k (i * n + j)).map valT ++ [(stp h (j : Int) q0.1, V.bl true)]) (ks ++ [qn]) d)) d = some (DE P w ((lpr h n L k (i * n + j)).map valT ++ [(stp h (j : Int) q0.1, V.bl true)]) (ks ++ [qn]) d) := upd_same
            have kb5 := (kb4.on tk5).snoc (q := (stp h (j : Int) q0.1, V.bl true)) (b := qn) (tk5 _ _ eq4.kx)
            have hq5 := tk5 _ _ eq4.kx
            have tk45 := (TK.same s4).trans tk5
            have hc5 := tk45.sq hc3
            refine ⟨_, rfl, .inl ⟨rfl, _, lstAt eU5⟩, _, rfl, _, rfl, _, rfl, by show 1 ≤ sizeLine; decide, fun T hT2 => ?_⟩
            have sT := same_new (o := .tup [.int (j : Int)]) hT2
            refine catT_ok (onT sT hc5) (tupAt upd_same) (by rw [List.length_map, hw0]; show k + 1 ≤ 1000; omega) fun r H6 s6 h6 => ⟨by show 2 ≤ sizeLine; decide, fun T2 hT3 => ?_⟩
            have sT2 := same_new (o := .tup [.ref qn, .ref r]) hT3
            have s56 := sT.trans (s6.trans sT2)
            have eU7 := s56 _ _ eU5
            refine ⟨u, us, .ref T2, rfl, rfl, eU7, small1000 (by omega), ?_⟩
            have eT2 : Rd (upd H6 T2 (.tup [.ref qn, .ref r])) T2 (.tup [.ref qn, .ref r]) := .inl upd_same
            have h6' : SqT K (upd H6 T2 (.tup [.ref qn, .ref r])) r ((q0.2 ++ [(j : Int)]).map V.int) := by
              rw [List.map_append]
              exact onT sT2 h6
            generalize (upd H6 T2 (.tup [.ref qn, .ref r])) = H7 at *
            have tk7 : TK H7 (upd H7 u (.lst (us ++ [.ref T2]))) := TK.upd eU7 not_tup_l
            have tk57 := (TK.same s56).trans tk7
            have tk47 := tk45.trans tk57
            refine ⟨⟨ks ++ [qn], us ++ [.ref T2], Same.upd (sm5.trans s56) huH, ?_, ?_, ?_, hE3.on tk47, upd_same, ?_⟩, tk47 _ _ hb3, tk47.sq hc3, _, _, rfl⟩
            · rw [show i * n + (j + 1) = i * n + j + 1 from rfl, ← ev, upd_ne (ne_of (s56 _ _ eD5) eU7 (fun z => nomatch z))]
              exact s56 _ _ eD5
            · rw [show i * n + (j + 1) = i * n + j + 1 from rfl, ← ev]
              exact kb5.on tk57
            · rw [upd_ne hlu]
              exact s56 _ _ eL5
            · rw [show i * n + (j + 1) = i * n + j + 1 from rfl, ep]
              exact EW.snoc (q := (stp h (j : Int) q0.1, q0.2 ++ [(j : Int)])) (tk7 _ _ eT2) (tk57 _ _ hq5) (tk7.sq h6') (hF3.on tk47)
        · obtain ⟨hM3, _, _, w10, w11, rfl⟩ := h'
          exact ⟨hM3.row, _, _, _, _, rfl⟩
      · obtain ⟨⟨ks, us, sm3, eD3, kb3, eL3, hE3, eU3, hF3⟩, w8, w9, w10, w11, rfl⟩ := h'
        rw [lx, Nat.add_zero, lpr_all] at hF3
        exact ⟨_, rfl, us, u, sm3, eU3, hF3, _, _, _, _, _, _, _, rfl⟩
    · obtain ⟨xs, l, sm, eL, hE, y5, y6, y7, y8, y9, y10, y11, rfl⟩ := h'
      have hfl : (lst h n L kk).length ≤ 120 := few n5 (lst_nd kk) (hb.lst_perm hL kk)
      have lx := hE.len
      refine ⟨_, rfl, l, rfl, ⟨_, lstAt eL⟩, fun D hD => ?_⟩
      refine lc_list (xs := xs) (fun i H' => Same H1 H' ∧ ∃ ys, H' D = some (.lst ys) ∧ Each (TI K H') ys ((((lst h n L kk).take i).filter (fun q => decide (q.1 = O))).map Prod.snd))
        ⟨same_new hD, [], upd_same, .nil⟩ (fun i H' _ h' => lstAt (h'.1 _ _ eL)) (fun i x H' hx h' => ?_) (fun H' h' => ?_)
      · obtain ⟨sm2, ys, eY, hY⟩ := h'
        obtain ⟨t, b, c, q0, hq0, rfl, hRt, hbx, hcx⟩ := hE.at hx
        have tk2 := TK.same sm2
        have hi : i < (lst h n L kk).length := (List.getElem?_eq_some_iff.mp hq0).1
        refine ⟨t, _, rfl, .inl (tk2 _ _ hRt), rfl, _, _, rfl, _, _, rfl, rfl, rfl, _, rfl, _, rfl, _, _, dp_tup (ns := q0.1) (.inl (tk2 _ _ hbx)), dp_tup (ns := O) (.inl (TK.same (sm.trans sm2) _ _ ho)), shaped_tup _, shaped_tup _, _, rfl, ?_⟩
        rw [eqv_tup]
        refine ite2 (fun e => ⟨_, rfl, ys, eY, ?_, sameU sm2 hD, ys ++ [.ref c], upd_same, ?_⟩) (fun e => ⟨sm2, ys, eY, ?_⟩)
        · have := hY.len
          rw [List.length_map] at this
          have h2 := List.length_filter_le (fun q : SW => decide (q.1 = O)) ((lst h n L kk).take i)
          rw [List.length_take] at h2
          exact small1000 (by omega)
        · rw [take_more hq0, List.filter_append, List.map_append, List.filter_cons_of_pos (by exact e)]
          have f1 : Fix H' (upd H' D (.lst (ys ++ [.ref c]))) := Fix.lst eY
          exact Each.snoc ⟨c, rfl, f1.tups _ _ (tk2.sq hcx)⟩ (hY.imp fun _ _ z => z.on f1.tups)
        · rw [take_more hq0, List.filter_append, List.map_append, List.filter_cons_of_neg (by exact e), List.filter_nil, List.map_nil, List.append_nil]
          exact hY
      · obtain ⟨sm2, ys, eY, hY⟩ := h'
        rw [lx, List.take_length, lst_only hO] at hY
        cases hY with
        | cons h1 h2 =>
          exact ⟨D, _, 0, _, rfl, rfl, lstAt eY, atI_nat (j := 0) rfl, q H' _ (sm.trans sm2) h1⟩
end
end RH
set_option Elab.async false
set_option linter.all false
set_option maxRecDepth 100000
set_option maxHeartbeats 2000000
namespace RH
open PySem PySem.Spec PyProof.Rows L2
open LamX (Tabs TabS TabB ExtN CodeO codeO_ne)
/-! ### the law -/
/-- all that is no list and no table of code objects is as it was -/
def Ev (H H' : Hp) : Prop := ∀ b o, H b = some o → (∀ xs, o ≠ .lst xs) → (∀ ps, o ≠ .tbl ps) → H' b = some o
theorem Ev.refl (H : Hp) : Ev H H := fun _ _ e _ _ => e
theorem Ev.trans {H H1 H2 : Hp} (a : Ev H H1) (b : Ev H1 H2) : Ev H H2 := fun c o e n m => b c o (a c o e n m) n m
theorem Ev.same {H H1 : Hp} (a : Same H H1) : Ev H H1 := fun c o e _ _ => a c o e
theorem Ev.fix {H H1 : Hp} (a : Fix H H1) : Ev H H1 := fun c o e n _ => a c o e n
theorem Ev.ext {H H1 : Hp} (a : ExtN H H1) : Ev H H1 := fun c o e _ m => a c o e m
theorem Ev.tk {H H' : Hp} (e : Ev H H') : TK H H' := fun b xs h => by
  rcases h with h | ⟨ob, h⟩
  · exact .inl (e _ _ h (fun _ z => nomatch z) (fun _ z => nomatch z))
  · exact .inr ⟨ob, e _ _ h (fun _ z => nomatch z) (fun _ z => nomatch z)⟩
theorem Ev.tups {K : PySem.W.Frag} {H H' : Hp} (e : Ev H H') : Tups K H H' := fun a xs hs => by
  rcases hs with hs | hs
  · exact .inl (e.tk _ _ hs)
  · exact .inr hs
theorem FT.ev {H H' : Hp} {b : Addr} {s : List Int} (e : Ev H H') (h : FT H b s) : FT H' b s := let ⟨ob, h1, h2⟩ := h; ⟨ob, e _ _ h1 (fun _ z => nomatch z) (fun _ z => nomatch z), h2⟩
theorem Fix.tabs {T : List (Addr × Str)} {H H' : Hp} (f : Fix H H') (t : Tabs T H) : Tabs T H' := fun p hp => by
  obtain ⟨ps, h1, h2, h3⟩ := t p hp
  refine ⟨ps, f _ _ h1 (fun xs z => nomatch z), h2, fun pos cv hc => ?_⟩
  obtain ⟨c, e1, e2⟩ := h3 pos cv hc
  exact ⟨c, e1, f _ _ e2 (fun xs z => by unfold CodeO at z; cases z)⟩
theorem Row.ext {K : PySem.W.Frag} {H H' : Hp} {p : Addr} (e : ExtN H H') (h : Row K H p) : Row K H' p := by
  obtain ⟨a, ns, i, r, c, h⟩ := h
  refine ⟨a, ns, i, r, c, e _ _ h.at_ (fun ps z => nomatch z), ?_, h.pos⟩
  rcases h.fz with ⟨o, z⟩ | z
  · exact .inl ⟨o, e _ _ z (fun ps z => nomatch z)⟩
  · exact .inr z
theorem HLW.ev {K : PySem.W.Frag} {H H' : Hp} {v : V} {h : List (List Int)} {n : Nat} {a : Addr} {L : List Int} {wv : V} {ws : List Int} (g : HLW K H v h n a L wv ws) (e : Ev H H') : HLW K H' v h n a L wv ws :=
  ⟨g.hT.on e.tups, g.hb, g.fL.ev e, g.hL, g.hW.on e.tups, g.hw, g.len⟩
/-- the law's dict of a search that has ended -/
structure NR (P : Program) (w : World) (H : Hp) (h : List (List Int)) (n : Nat) (L : List Int) (d : Addr) (k : Nat) (ks : List Addr) : Prop where
  at_ : H d = some (DE P w ((fd h n L k).map valD) ks d)
  kb : KB H ((fd h n L k).map valD) ks
  en : lv h n L k = []
theorem NR.ev {P : Program} {w : World} {H H' : Hp} {h : List (List Int)} {n : Nat} {L : List Int} {d : Addr} {k : Nat} {ks : List Addr} (e : Ev H H') (r : NR P w H h n L d k ks) : NR P w H' h n L d k ks :=
  ⟨e _ _ r.at_ (fun _ z => nomatch z) (fun _ z => nomatch z), r.kb.on e.tk, r.en⟩
theorem valD_val {h : List (List Int)} {n : Nat} {L s wd : List Int} {k : Nat} {v : V} (h1 : (s, wd) ∈ fd h n L k) (h2 : (s, v) ∈ (fd h n L k).map valD) : v = .int (wd.length : Nat) := by
  obtain ⟨y, hy, ey⟩ := List.mem_map.mp h2
  have ey2 : (y.1, V.int (y.2.length : Nat)) = (s, v) := ey
  have e1 : y.1 = s := (Prod.mk.inj ey2).1
  have e2 : V.int (y.2.length : Nat) = v := (Prod.mk.inj ey2).2
  have e3 := fd_val (s := s) (w := y.2) (w' := wd) (by rw [← e1]; exact hy) h1
  rw [← e2, e3]
/-- a state stands in the level of its word's length -/
theorem lv_at {h : List (List Int)} {n : Nat} {L s wd : List Int} : ∀ {k : Nat}, (s, wd) ∈ fd h n L k → (s, wd) ∈ lv h n L wd.length
  | 0, hm => by
    have e := List.mem_singleton.mp hm
    have e2 : wd = [] := (Prod.mk.inj e).2
    rw [e2] at hm ⊢
    exact hm
  | k + 1, hm => by
    rw [fd_succ, List.mem_append] at hm
    rcases hm with hm | hm
    · exact lv_at hm
    · have e := lv_len (k + 1) _ hm
      have e : wd.length = k + 1 := e
      rw [e]
      exact hm
theorem okD_intsK (k : Nat) (ns : List Int) (h : ns.length ≤ 1000) : okD (k + 1) (.tuple (ns.map PyData.int)) := by
  refine ⟨by rw [List.length_map]; exact h, fun d hd => ?_⟩
  obtain ⟨i, _, rfl⟩ := List.mem_map.mp hd
  cases k <;> exact True.intro
theorem dp_rows {K : PySem.W.Frag} {H : Hp} : ∀ {ys : List V} {ls : List (List Int)}, EX H ys ls → DpAll K H ys (ls.map fun s => .tuple (s.map PyData.int))
  | _, _, .nil => .nil
  | _, _, .cons k t => .cons (dp_tup (.inl k)) (dp_rows t)
theorem okD_rows {ls : List (List Int)} (h : ls.length ≤ 1000) (hs : ∀ s ∈ ls, s.length ≤ 1000) : okD 2 (.tuple (ls.map fun s => .tuple (s.map PyData.int))) := by
  refine ⟨by rw [List.length_map]; exact h, fun d hd => ?_⟩
  obtain ⟨s, hm, rfl⟩ := List.mem_map.mp hd
  exact okD_intsK 0 s (hs s hm)
section
variable {P : Program} {w : World} {K : PySem.W.Frag} {mg : Str → Option Value} {base : Heap}
def spLaw (K : PySem.W.Frag) (T : List (Addr × Str)) : Sp := fun vs H Q _ => ∃ (a : Addr) (ns : List Int), vs = [.ref a] ∧ Fz K H a (ns.map V.int) ∧ Tabs T H ∧ ∀ H', Q (.bl true) H'
abbrev NL1 : List Str := ["script", "row", "places", "habit", "layout", "word", "here", "place", "near", "turn", "other", "found", "whole"]
theorem ok_law {T : List (Addr × Str)} {f : Addr} {fdat : FuncData} (F : Fun K "law" "law" st_law f fdat) (B : Bu mg) (CT : Cal P w K mg base 1 "_law_taken" (spTaken K)) (CP : Cal P w K mg base 2 "_law_pick" (spPick K)) (CO : Cal P w K mg base 2 "_law_order" (spOrder K)) (CH : Cal P w K mg base 3 "_law_habit" (spHabit K))
    (CLT : Cal P w K mg base 1 "_law_touch" (spMove K)) (CN : Cal P w K mg base 2 "_law_near" (spNear P w K)) (CLW : Cal P w K mg base 2 "_law_least_word" (spLeastW P w K)) (CA : Cal P w K mg base 3 "_law_alike" (spAlike K 2))
    (CTo : Cal P w K mg base 7 "touched" (spTouched K)) (CAf : Cal P w K mg base 7 "after" (spAfter K)) (CCo : Cal P w K mg base 7 "can_come" (spCome K T)) (CB : Cal P w K mg base 7 "word_between" (spWtl K T)) (CD : Cal P w K mg base 8 "distance" (spDist K T)) (CFa : Cal P w K mg base 7 "farthest" (spFar K T)) (COr : Cal P w K mg base 7 "order" (spOrd K T)) :
    FnOk P w K mg base CX0 9 f fdat ["script"] (spLaw K T) := by
  refine F.ok sc_law (fun vs H Q E h => ?_) (fun cdv A outer s H vs Q E hr h => ?_)
  · obtain ⟨a, ns, rfl, _⟩ := h
    rfl
  · obtain ⟨a, scr, rfl, hZ, hTb, q⟩ := h
    refine ⟨_, pss_cons (ps_set (i := 1) sc_law.nd rfl (.inr rfl) (pe_lst (pa_cons (pv 0) (pa_cons pe_int (pa_cons pe_int (pa_cons pe_int pa_nil))))))
      (pss_cons (ps_set (i := 2) sc_law.nd rfl (.inr rfl) (pe_op op_add pe_int (pc CT hr (pa_cons (pv 1) (pa_cons (pe_ix ix_list (pe_lst (pa_cons pe_int (pa_cons pe_int pa_nil))) (pc CT hr (pa_cons (pv 1) (pa_cons pe_int pa_nil))) (fun _ _ => rfl)) pa_nil)))))
      (pss_cons (ps_par (i := 3) (j := 4) rfl sc_law.nd rfl rfl (by decide) rfl rfl (pa_cons (pc CH hr (pa_cons (pv 1) (pa_cons (pv 2) pa_nil))) (pa_cons (pc CO hr (pa_cons (pv 1) (pa_cons (pv 2) pa_nil))) pa_nil)) rfl)
      (pss_cons (ps_par (i := 5) (j := 6) rfl sc_law.nd rfl rfl (by decide) rfl rfl (pa_cons (pe_tupleOf (by rfl) B.tuple (pe_lc (own := [("turn", 9)]) (g := gName 9) (tt := tYes) rfl sc_law.nd (pi_range1 (by rfl) B.range (pa_cons (pc CT hr (pa_cons (pv 1) (pa_cons pe_int pa_nil))) pa_nil))
        (blkOk_by (N := NL1) (sc := defScope st_law) (by decide +kernel)) (fun _ _ _ _ _ => pg_name (i := 9) sc_law.nd rfl (Or.inl rfl)) (fun _ _ _ _ _ => pts_nil) (fun _ _ _ _ _ => pc CT hr (pa_cons (pv 1) (pa_cons (pv 2) pa_nil))))) (pa_cons (pv 4) pa_nil)) rfl)
      (pss_cons (ps_for PassesOwn.never rfl (pi_tup (pv 5)) (pg_name (i := 7) sc_law.nd rfl (.inl rfl))
        (pss_cons (ps_if (pt_not (pt_val (pc CA hr (pa_cons (pc CTo hr (pa_cons (pv 3) (pa_cons (pv 6) (pa_cons (pv 7) pa_nil)))) (pa_cons (pc CLT hr (pa_cons (pv 3) (pa_cons (pv 6) (pa_cons (pv 7) pa_nil)))) pa_nil))))) (pss_one (ps_ret pe_bl)) pss_nil)
        (pss_one (ps_set (i := 6) sc_law.nd rfl (.inl rfl) (pc CLT hr (pa_cons (pv 3) (pa_cons (pv 6) (pa_cons (pv 7) pa_nil))))))))
      (pss_cons (ps_if (pt_not (pt_val (pc CA hr (pa_cons (pc CAf hr (pa_cons (pv 3) (pa_cons (pv 4) (pa_cons (pv 5) pa_nil)))) (pa_cons (pv 6) pa_nil))))) (pss_one (ps_ret pe_bl)) pss_nil)
      (pss_cons (ps_set (i := 8) sc_law.nd rfl (.inl rfl) (pc CN hr (pa_cons (pv 3) (pa_cons (pv 4) pa_nil))))
      (pss_cons (ps_if (pt_not (pt_val (pc CA hr (pa_cons (pc CCo hr (pa_cons (pv 3) (pa_cons (pv 4) pa_nil))) (pa_cons (pe_tupleOf (by rfl) B.tuple (pe_callB call_sortT (by rfl) B.sorted (by decide +kernel) (pa_cons (pe_callTy (call_listE rfl) (by rfl) B.list (by decide +kernel) (pa_cons (pv 8) pa_nil)) pa_nil))) pa_nil))))) (pss_one (ps_ret pe_bl)) pss_nil)
      (pss_cons (ps_for PassesOwn.never rfl (pi_range1 (by rfl) B.range (pa_cons pe_int pa_nil)) (pg_name (i := 9) sc_law.nd rfl (.inl rfl))
        (pss_cons (ps_set (i := 10) sc_law.nd rfl (.inl rfl) (pc CP hr (pa_cons (pv 1) (pa_cons (pe_lst (pa_cons (pc CO hr (pa_cons (pv 1) (pa_cons (pv 2) pa_nil))) (pa_cons (pv 6) pa_nil))) pa_nil))))
        (pss_cons (ps_set (i := 11) sc_law.nd rfl (.inl rfl) (pc CB hr (pa_cons (pv 3) (pa_cons (pv 4) (pa_cons (pv 10) pa_nil)))))
        (pss_cons (ps_if (pt_not (pt_val (pc CA hr (pa_cons (pc CD hr (pa_cons (pv 3) (pa_cons (pv 4) (pa_cons (pv 10) pa_nil))) (hk := Nat.le_refl _)) (pa_cons (pe_dget2E (hu_of hr) (pv 8) (pv 10) pe_non ⟨by rfl, by rfl, by rfl, by rfl⟩) pa_nil))))) (pss_one (ps_ret pe_bl)) pss_nil)
        (pss_one (ps_if (pt_cmp (pc_isN (pv 11))) (pss_one (ps_if (pt_cmp (pc_dinE (hu_of hr) (pv 10) (pv 8))) (pss_one (ps_ret pe_bl)) pss_nil))
          (pss_one (ps_if (PW.pt (pw_or (pt_cmp (pc_dnotinE (hu_of hr) (pv 10) (pv 8))) (pw_or1 (pt_cmpR (op_neD hr.units) (pv 11) (pc CLW hr (pa_cons (pv 3) (pa_cons (pv 4) (pa_cons (pv 10) (pa_cons (pe_dgetE (hu_of hr) (pv 8) (pv 10) (fun _ _ => rfl)) pa_nil))))) (nomark _))))) (pss_one (ps_ret pe_bl))
            (pss_one (ps_if (pt_cmp (pc_dnotinE (hu_of hr) (pv 4) (pc CN hr (pa_cons (pv 3) (pa_cons (pv 10) pa_nil))))) (pss_one (ps_ret pe_bl)) pss_nil))))))))))
      (pss_cons (ps_set (i := 12) sc_law.nd rfl (.inl rfl) (pc CN hr (pa_cons (pv 3) (pa_cons (pe_tupRg rfl (by rfl) B.tuple (prg_1 (by rfl) B.range (pv 2))) pa_nil))))
      (pss_one (ps_ret (pc CA hr (pa_cons (pe_lst (pa_cons (pc CFa hr (pa_cons (pv 3) (pa_cons (pv 4) pa_nil))) (pa_cons (pc COr hr (pa_cons (pv 3) pa_nil)) pa_nil)))
        (pa_cons (pe_lst (pa_cons (pe_callB (cr_max rfl) (by rfl) B.max (by decide +kernel) (pa_cons (pe_callTy (call_listValsE rfl) (by rfl) B.list (by decide +kernel) (pa_cons (pe_valsE (pv 8)) pa_nil)) pa_nil))
          (pa_cons (pe_callB (cl_len K) (by rfl) B.len PySem.boot_len (pa_cons (pe_callTy (call_listE rfl) (by rfl) B.list (by decide +kernel) (pa_cons (pv 12) pa_nil)) pa_nil)) pa_nil))) pa_nil)))))))))))))), ?_⟩
    -- row, places
    refine ⟨_, rfl, by show 4 ≤ sizeLine; decide, fun p hp => ?_⟩
    have sp := same_new (o := .lst [.ref a, .int 0, .int 5001, .int 0]) hp
    have hR1 : Row K (upd H p (.lst [.ref a, .int 0, .int 5001, .int 0])) p := ⟨a, scr, 0, 5001, 0, upd_same, hZ.on (Fix.same sp), Int.le_refl _⟩
    have tb1 := tabs_same hTb sp
    generalize (upd H p (.lst [.ref a, .int 0, .int 5001, .int 0])) = H1 at *
    refine ⟨_, rfl, by show 2 ≤ sizeLine; decide, fun m hm => ⟨_, rfl, p, 2, rfl, hR1.new hm, by decide, by decide, fun k0 H2 k00 k01 hB2 hR2 => ?_⟩⟩
    have em := hB2 _ _ (upd_same (H := H1) (a := m) (o := .lst [.int 3, .int 4])) (Ne.symm (hR1.ne hm))
    have tb2 : Tabs T H2 := ((hR1.new hm).fix hB2).tabs (tabs_same tb1 (same_new hm))
    obtain ⟨x, hx, x0, x4⟩ : ∃ x : Int, atI [V.int 3, V.int 4] k0 = some (.int x) ∧ 3 ≤ x ∧ x ≤ 4 := by
      rcases (show k0 = 0 ∨ k0 = 1 by omega) with rfl | rfl
      · exact ⟨3, rfl, by decide, by decide⟩
      · exact ⟨4, rfl, by decide, by decide⟩
    refine ⟨m, _, k0, _, rfl, rfl, lstAt em, hx, p, x, rfl, hR2, by omega, by omega, fun k H3 k0' k1' hB3 hR3 => ⟨2, k, rfl, rfl, ?_⟩⟩
    have tb3 : Tabs T H3 := (hR2.fix hB3).tabs tb2
    obtain ⟨n, hn⟩ : ∃ n : Nat, 2 + k = (n : Int) := ⟨(2 + k).toNat, by omega⟩
    show gName 2 (V.int (2 + k)) _ _ _
    rw [hn]
    have n2 : 2 ≤ n := by omega
    have n5 : n ≤ 5 := by omega
    -- habit, layout
    refine ⟨_, rfl, _, rfl, p, n, rfl, hR3, n2, n5, fun H4 vH h hb hB4 hR4 hT4 => ?_⟩
    refine ⟨_, rfl, _, rfl, p, n, rfl, hR4, by omega, fun H5 qL L hL hB5 hR5 _ fL5 => ⟨_, _, rfl, ?_⟩⟩
    have hT5 : TII K H5 vH h := hT4.on (hR4.fix hB5).tups
    have tb5 : Tabs T H5 := ((hR3.fix hB4).trans (hR4.fix hB5)).tabs tb3
    -- word
    refine ⟨_, rfl, p, 12, rfl, hR5, by decide, by decide, fun kw H6 kw0 kw1 hB6 hR6 => ⟨kw, rfl, by omega, by omega, fun D hD => ?_⟩⟩
    have f6 := hR5.fix hB6
    have hT6 : TII K H6 vH h := hT5.on f6.tups
    have fL6 := fL5.fix f6
    have tb6 := f6.tabs tb5
    have hpD : p ≠ D := hR6.ne hD
    refine lc_range (lo := 0) (n := kw.toNat) (fun i H' => ∃ ws : List Int, But p H6 H' ∧ Row K H' p ∧ H' D = some (.lst (ws.map V.int)) ∧ ws.length = i ∧ ∀ t ∈ ws, InR n t)
      ⟨[], But.same (same_new hD), hR6.new hD, upd_same, rfl, fun _ hm => absurd hm (List.not_mem_nil)⟩ (fun j H' hj h' => ?_) (fun H7 h7 => ?_)
    · obtain ⟨ws, hB, hR', eD, hl', hws⟩ := h'
      refine ⟨rfl, _, rfl, _, rfl, p, n, rfl, hR', by omega, by omega, fun k H11 k0 k1 hB11 hR11 => ?_⟩
      have eD11 := hB11 _ _ eD (Ne.symm hpD)
      refine ⟨_, eD11, ?_, ws ++ [k], (hB.trans hB11).fresh hD, hR11.lst_upd eD11 hpD, ?_, ?_, ?_⟩
      · rw [List.length_map]
        exact small1000 (by omega)
      · rw [upd_same, List.map_append]
        rfl
      · rw [List.length_append, hl']
        rfl
      · intro t hm
        rcases List.mem_append.mp hm with h1 | h1
        · exact hws _ h1
        · rw [List.mem_singleton.mp h1]
          exact ⟨k0, k1⟩
    obtain ⟨ws, hB7, hR7, eD7, lw, hws⟩ := h7
    refine .inl ⟨D, _, rfl, lstAt eD7, fun aw haw => ⟨_, rfl, _, _, rfl, ?_⟩⟩
    have s8 := same_new (o := .tup (ws.map V.int)) haw
    have f8 := (hR6.fix hB7).trans (Fix.same s8)
    have g8 : HLW K (upd H7 aw (.tup (ws.map V.int))) vH h n qL L (.ref aw) ws := ⟨hT6.on f8.tups, hb, fL6.fix f8, hL, ⟨aw, rfl, tupAt upd_same⟩, hws, by omega⟩
    have hR8 := hR7.same s8
    have tb8 := f8.tabs tb6
    generalize (upd H7 aw (.tup (ws.map V.int))) = H8 at *
    obtain ⟨_, e', hW⟩ := id g8.hW
    cases e'
    -- each touch
    refine ⟨_, rfl, aw, rfl, ⟨_, hW⟩, ?_⟩
    refine for_tup (xs := ws.map V.int) (fun i σ H' => Same H8 H' ∧ ∃ q1 y7, σ = [some (.ref a), some (.ref p), some (.int n), some vH, some (.ref qL), some (.ref aw), some (.ref q1), y7, none, none, none, none, none] ∧ FT H' q1 (mvs h L (ws.take i)))
      ⟨Same.refl _, qL, none, rfl, g8.fL⟩ (fun i σ H' _ h' => onT h'.1 hW) (fun i x σ H' hx h' => ?_) (fun σ H9 h' => ?_)
    · obtain ⟨t, ht, rfl⟩ := map_at hx
      obtain ⟨sm, q1, y7, rfl, f1⟩ := h'
      have hp1 := hb.mvs_perm (ws := ws.take i) (fun u hu => hws u (List.mem_of_mem_take hu)) hL
      have htr := hws t (List.mem_of_getElem? ht)
      have hT' := (g8.same sm).hT
      refine ⟨_, rfl, _, rfl, _, rfl, vH, h, n, q1, _, t, rfl, hT', hb, f1.sq, hp1, htr, fun H10 q2 s10 f2 => ?_⟩
      refine ⟨_, rfl, _, rfl, _, rfl, vH, h, n, q1, _, t, rfl, hT'.on (Same.tups s10), hb, (f1.same s10).sq, fun u hu => perm_in hp1 hu, by rw [perm_len hp1]; omega, htr, fun H11 q3 s11 _ f3 => ?_⟩
      have hp2 := hb.stp_perm htr hp1
      refine ⟨_, _, _, rfl, dp_tup (f2.same s11).sq, dp_tup f3.sq, okD_intsK 1 _ (by rw [perm_len hp2]; omega), fun H12 s12 => ⟨_, rfl, ifF rfl ?_⟩⟩
      have sA := s10.trans (s11.trans s12)
      refine ⟨_, rfl, _, rfl, _, rfl, vH, h, n, q1, _, t, rfl, hT'.on (Same.tups sA), hb, (f1.same sA).sq, fun u hu => perm_in hp1 hu, by rw [perm_len hp1]; omega, htr, fun H13 q4 s13 _ f4 => ⟨sm.trans (sA.trans s13), q4, _, rfl, ?_⟩⟩
      rw [mvs_more ht]
      exact f4
    obtain ⟨sm9, qh, y7, rfl, fh⟩ := h'
    rw [List.length_map, List.take_length] at fh
    have hph := hb.mvs_perm hws hL
    have g9 := g8.same sm9
    -- after
    refine ⟨_, rfl, _, rfl, _, rfl, vH, h, n, qL, L, .ref aw, ws, rfl, g9, fun H10 q2 s10 f2 => ?_⟩
    refine ⟨_, rfl, _, _, _, rfl, dp_tup f2.sq, dp_tup (fh.same s10).sq, okD_intsK 1 _ (by rw [perm_len hph]; omega), fun H11 s11 => ⟨_, rfl, ifF rfl ?_⟩⟩
    have s911 := s10.trans s11
    have g11 := g9.same s911
    have fh11 := fh.same s911
    have hR11 := (hR8.same sm9).same s911
    have tb11 := tabs_same (tabs_same tb8 sm9) s911
    -- near
    refine ⟨_, rfl, _, rfl, vH, h, n, qL, L, rfl, g11.hT, hb, g11.fL.kx, hL, fun H12 dN kN ksN s12 eN kbN enN => ?_⟩
    have g12 := g11.same s12
    have fh12 := fh11.same s12
    have hR12 := hR11.same s12
    have tb12 := tabs_same tb11 s12
    have N12 : NR P w H12 h n L dN kN ksN := ⟨eN, kbN, enN⟩
    -- what can come
    refine ⟨_, rfl, _, rfl, vH, h, n, qL, L, rfl, g12.hT, hb, g12.fL.kx, hL, tb12, fun H13 k13 q13 ys ls1 ex13 tb13 en13 so13 e13 => ?_⟩
    have N13 := N12.ev (Ev.ext ex13)
    have hfew := hb.fd_few hL kN
    have hperm := hb.fd_perm hL kN
    have e1N : fd h n L k13 = fd h n L kN := fd_one en13 enN
    rw [e1N] at so13
    refine ⟨_, rfl, dN, _, ksN, rfl, N13.at_, fun l1 hl1 => ?_⟩
    have sl1 := same_new (o := .lst (ksN.map V.ref)) hl1
    refine ⟨l1, _, _, n, rfl, lstAt upd_same, (N13.kb.ex).on (TK.same sl1), by omega, fun s hs => ?_, fun ys2 ls2 p2 so2 hp2 => ?_⟩
    · rw [valD_fst] at hs
      obtain ⟨x, hx, rfl⟩ := List.mem_map.mp hs
      exact ⟨perm_len (hperm x hx), perm_bd n5 (hperm x hx)⟩
    rw [valD_fst] at so2
    have ell : ls2 = ls1 := so2.one so13
    subst ell
    have sp2 := same_new (o := .lst ys2) hp2
    refine .inl ⟨p2, ys2, rfl, lstAt upd_same, fun t2 ht2 => ?_⟩
    have st2 := same_new (o := .tup ys2) ht2
    have sC := sl1.trans (sp2.trans st2)
    have hls : ∀ s ∈ ls2, s.length ≤ 1000 := fun s hs => by
      obtain ⟨x, hx, rfl⟩ := List.mem_map.mp (so2.2.1.perm.mem_iff.mp hs)
      rw [perm_len (hperm x hx)]
      omega
    refine ⟨_, _, .tuple (ls2.map fun s => .tuple (s.map PyData.int)), rfl, .tup (tupAt (sC _ _ e13)) (dp_rows (so13.2.2.1.on (TK.same sC))), .tup (tupAt upd_same) (dp_rows (so2.2.2.1.on (TK.same (sp2.trans st2)))), okD_rows ?_ hls, fun H14 s14 => ⟨_, rfl, ifF rfl ?_⟩⟩
    · rw [so2.2.2.2, List.length_map]
      omega
    have sD := sC.trans s14
    have evE : Ev H12 H14 := (Ev.ext ex13).trans (Ev.same sD)
    have g14 := g12.ev evE
    have fh14 := fh12.ev evE
    have hR14 := (hR12.ext ex13).same sD
    have tb14 := tabs_same tb13 sD
    have N14 := N12.ev evE
    -- three turns
    refine ⟨3, rfl, by decide, by decide, ?_⟩
    show (∃ W, _)
    refine for_range (lo := 0) (n := 3) (fun i σ H' => Ev H14 H' ∧ Row K H' p ∧ Tabs T H' ∧ ∃ y9 y10 y11, σ = [some (.ref a), some (.ref p), some (.int n), some vH, some (.ref qL), some (.ref aw), some (.ref qh), y7, some (.ref dN), y9, y10, y11, none])
      ⟨Ev.refl _, hR14, tb14, none, none, none, rfl⟩ (fun i σ H1 hi h' => ?_) (fun σ HF h' => ?_)
    · obtain ⟨ev, hRa, tba, y9, y10, y11, rfl⟩ := h'
      have ga := g14.ev ev
      have fha := fh14.ev ev
      -- other
      refine ⟨_, rfl, _, rfl, _, rfl, p, n, rfl, hRa, by omega, fun H2 qo O hO hB2 hR2 _ fO => ⟨_, rfl, by show 2 ≤ sizeLine; decide, fun lo hlo => ?_⟩⟩
      have fx2 := hRa.fix hB2
      have slo := same_new (o := .lst [.ref qo, .ref qh]) hlo
      refine ⟨p, lo, _, rfl, hR2.new hlo, upd_same, Ne.symm (hR2.ne hlo), by show 0 < 2; decide, by show 2 ≤ 1000; decide, fun i2 x2 H3 hx2 hB3 hR3 => ?_⟩
      have fx3 : Fix H1 H3 := fx2.trans ((Fix.same slo).trans ((hR2.new hlo).fix hB3))
      have fx23 : Fix H2 H3 := (Fix.same slo).trans ((hR2.new hlo).fix hB3)
      obtain ⟨qq, O2, rfl, hO2, fq⟩ : ∃ (qq : Addr) (O2 : List Int), x2 = .ref qq ∧ O2.Perm (rg n) ∧ FT H3 qq O2 := by
        match i2, hx2 with
        | 0, e => exact ⟨qo, O, (Option.some.inj e).symm, hO, fO.fix fx23⟩
        | 1, e => exact ⟨qh, _, (Option.some.inj e).symm, hph, fha.fix fx3⟩
        | i2 + 2, e => simp at e
      have ev3 : Ev H14 H3 := ev.trans (Ev.fix fx3)
      have g3 := g14.ev ev3
      have tb3 := fx3.tabs tba
      -- found
      refine ⟨_, rfl, _, rfl, _, rfl, vH, h, n, qL, qq, L, O2, rfl, g3.hT, hb, g3.fL.kx, fq.kx, hL, hO2, tb3, fun H4 qw wd k4 ex4 tb4 hm4 e4 => ?_, fun H4 k4 ex4 tb4 en4 hn4 => ?_⟩
      · -- there is a word
        have hmN : (O2, wd) ∈ fd h n L kN := fd_all enN hm4
        have ev4 : Ev H14 H4 := ev3.trans (Ev.ext ex4)
        have g4 := g14.ev ev4
        have fq4 := fq.ev (Ev.ext ex4)
        refine ⟨_, rfl, _, rfl, _, rfl, vH, h, n, qL, qq, L, O2, rfl, g4.hT, hb, g4.fL.kx, fq4.kx, hL, hO2, tb4, fun H5 wd2 k5 ex5 tb5 hm5 => ?_, fun H5 k5 ex5 tb5 en5 hn5 => ?_⟩
        · have ewd : wd2 = wd := fd_val (fd_all enN hm5) hmN
          subst ewd
          have ev5 : Ev H14 H5 := ev4.trans (Ev.ext ex5)
          have N5 := N14.ev ev5
          have fq5 := fq4.ev (Ev.ext ex5)
          have e5 : H5 qw = some (.tup (wd2.map V.int)) := ex5 _ _ e4 (fun ps z => nomatch z)
          have hmem : O2 ∈ ((fd h n L kN).map valD).map Prod.fst := by
            rw [valD_fst]
            exact List.mem_map.mpr ⟨_, hmN, rfl⟩
          refine ⟨_, rfl, dN, _, ksN, rfl, N5.at_, _, rfl, qq, _, ksN, O2, rfl, N5.at_, N5.kb, fq5.kx, fun _ v hv => ?_, fun z => absurd hmem z⟩
          rw [valD_val hmN hv]
          refine ⟨_, _, _, rfl, .int _, .int _, True.intro, fun H6 s6 => ⟨_, rfl, ifF rfl ?_⟩⟩
          have ev6 : Ev H14 H6 := ev5.trans (Ev.same s6)
          have N6 := N14.ev ev6
          have g6 := g14.ev ev6
          have fq6 := fq5.same s6
          have e6 := s6 _ _ e5
          have hwl : wd2.length ≤ 120 := by
            have h1 := fd_len kN _ hmN
            have h1 : wd2.length ≤ kN := h1
            rcases Nat.eq_zero_or_pos wd2.length with z | z
            · omega
            · have hne : lv h n L wd2.length ≠ [] := fun z2 => by
                have := lv_at hmN
                rw [z2] at this
                exact nomatch this
              have := low _ hne
              have := hb.fd_few hL wd2.length
              omega
          refine ⟨_, rfl, _, rfl, ifF (ref_non _) ?_⟩
          refine ⟨_, rfl, _, rfl, dN, qq, _, ksN, O2, rfl, rfl, N6.at_, N6.kb, fq6.kx, _, rfl, ifF (by rw [decide_eq_true hmem]; rfl) ?_⟩
          refine ⟨_, rfl, _, rfl, _, rfl, _, rfl, _, rfl, _, rfl, dN, qq, _, ksN, O2, rfl, rfl, N6.at_, N6.kb, fq6.kx, hmem, fun v hv => ?_⟩
          rw [valD_val hmN hv]
          refine ⟨vH, h, n, qL, qq, L, O2, wd2, wd2.length, rfl, g6.hT, hb, g6.fL.kx, fq6.kx, hL, lv_sub (lv_at hmN), by omega, fun H7 v7 s7 ti7 => ?_⟩
          obtain ⟨aw7, rfl, hW7⟩ := ti7
          refine ⟨_, _, dp_tup (tupAt (s7 _ _ e6)), dp_tup hW7, shaped_tup _, shaped_tup _, _, rfl, ?_⟩
          rw [eqv_tup, decide_eq_true rfl]
          refine ifF rfl ?_
          have ev7 : Ev H14 H7 := ev6.trans (Ev.same s7)
          have g7 := g14.ev ev7
          have fq7 := fq6.same s7
          refine ⟨_, rfl, _, rfl, _, rfl, vH, h, n, qq, O2, rfl, g7.hT, hb, fq7.kx, hO2, fun H8' d8 k8 ks8 s8' e8 kb8 en8 => ?_⟩
          have hback := hb.back hL enN (List.mem_map.mpr ⟨_, hmN, rfl⟩) en8
          have hmem8 : L ∈ ((fd h n O2 k8).map valD).map Prod.fst := by
            rw [valD_fst]
            exact hback
          refine ⟨d8, qL, _, ks8, L, rfl, rfl, e8, kb8, (g7.same s8').fL.kx, _, rfl, ifF (by rw [decide_eq_true hmem8]; rfl) ?_⟩
          exact ⟨ev7.trans (Ev.same s8'), ((((hR3.ext ex4).ext ex5).same s6).same s7).same s8', tabs_same tb5 (s6.trans (s7.trans s8')), _, _, _, rfl⟩
        · exact absurd (List.mem_map.mpr ⟨_, fd_all en5 hmN, rfl⟩) hn5
      · -- there is none
        have hnN : O2 ∉ (fd h n L kN).map Prod.fst := by
          rw [fd_one enN en4]
          exact hn4
        have ev4 : Ev H14 H4 := ev3.trans (Ev.ext ex4)
        have g4 := g14.ev ev4
        have fq4 := fq.ev (Ev.ext ex4)
        refine ⟨_, rfl, _, rfl, _, rfl, vH, h, n, qL, qq, L, O2, rfl, g4.hT, hb, g4.fL.kx, fq4.kx, hL, hO2, tb4, fun H5 wd2 k5 ex5 tb5 hm5 => ?_, fun H5 k5 ex5 tb5 en5 hn5 => ?_⟩
        · exact absurd (List.mem_map.mpr ⟨_, fd_all en4 hm5, rfl⟩) hn4
        · have ev5 : Ev H14 H5 := ev4.trans (Ev.ext ex5)
          have N5 := N14.ev ev5
          have fq5 := fq4.ev (Ev.ext ex5)
          have hmem : O2 ∉ ((fd h n L kN).map valD).map Prod.fst := by
            rw [valD_fst]
            exact hnN
          refine ⟨_, rfl, dN, _, ksN, rfl, N5.at_, _, rfl, qq, _, ksN, O2, rfl, N5.at_, N5.kb, fq5.kx, fun z => absurd z hmem, fun _ => ?_⟩
          refine ⟨_, _, _, rfl, .non, .non, True.intro, fun H6 s6 => ⟨_, rfl, ifF rfl ?_⟩⟩
          have ev6 : Ev H14 H6 := ev5.trans (Ev.same s6)
          have N6 := N14.ev ev6
          refine ⟨_, rfl, _, rfl, ifT (decide_eq_true rfl) ?_⟩
          refine ⟨_, rfl, _, rfl, dN, qq, _, ksN, O2, rfl, rfl, N6.at_, N6.kb, (fq5.same s6).kx, _, rfl, ifF (decide_eq_false hmem) ?_⟩
          exact ⟨ev6, ((hR3.ext ex4).ext ex5).same s6, tabs_same tb5 s6, _, _, _, rfl⟩
    · obtain ⟨ev, hRa, tba, y9, y10, y11, rfl⟩ := h'
      have ga := g14.ev ev
      -- whole
      refine ⟨_, rfl, _, rfl, n, rfl, ⟨by omega, by omega, by omega, by omega, by omega⟩, fun t hT2 => ?_⟩
      rw [rgV_rg] at *
      have st := same_new (o := .tup ((rg n).map V.int)) hT2
      have g1 := ga.same st
      refine ⟨vH, h, n, t, rg n, rfl, g1.hT, hb, .inl upd_same, List.Perm.refl _, fun H2 dW kW ksW s2 eW kbW enW => ?_⟩
      have s02 := st.trans s2
      have g2 := ga.same s02
      have N2 := (N14.ev ev).ev (Ev.same s02)
      have W2 : NR P w H2 h n (rg n) dW kW ksW := ⟨eW, kbW, enW⟩
      refine ⟨_, rfl, _, rfl, vH, h, n, qL, L, rfl, g2.hT, hb, g2.fL.kx, hL, tabs_same tba s02, fun H3 k3 m3 ex3 tb3 en3 mx3 => ?_⟩
      have g3 := g2.ev (Ev.ext ex3)
      refine ⟨_, rfl, vH, h, n, rfl, g3.hT, hb, tb3, fun H4 k4 ex4 tb4 en4 => ⟨by show 2 ≤ sizeLine; decide, fun l1 hl1 => ?_⟩⟩
      have sl1 := same_new (o := .lst [.int m3, .int ((fd h n (rg n) k4).length : Nat)]) hl1
      have el1 : (upd H4 l1 (.lst [.int m3, .int ((fd h n (rg n) k4).length : Nat)])) l1 = some (.lst [.int m3, .int ((fd h n (rg n) k4).length : Nat)]) := upd_same
      have evx : Ev H2 (upd H4 l1 (.lst [.int m3, .int ((fd h n (rg n) k4).length : Nat)])) := (Ev.ext ex3).trans ((Ev.ext ex4).trans (Ev.same sl1))
      have N5 := N2.ev evx
      have W5 := W2.ev evx
      generalize (upd H4 l1 (.lst [.int m3, .int ((fd h n (rg n) k4).length : Nat)])) = H5 at *
      have hne : 0 < ((fd h n L kN).map (fun q => ((q.2.length : Nat) : Int))).length := by
        rw [List.length_map]
        exact List.length_pos_of_mem (fd_start kN)
      refine ⟨_, rfl, dN, _, ksN, rfl, N5.at_, fun pv hpv => ⟨pv, dN, _, ksN, rfl, upd_same, same_new hpv _ _ N5.at_, fun lv2 hlv2 => ⟨lv2, _, rfl, lstAt (by rw [upd_same, valD_snd]), hne, fun m hm hle => ?_⟩⟩⟩
      have sv := (same_new (o := valuesO pv dN) hpv).trans (same_new (o := .lst (((fd h n L kN).map valD).map Prod.snd)) hlv2)
      have emm : m = m3 := Mx.one (l := fd h n L kN) ⟨hm, hle⟩ (by rw [← fd_one en3 enN]; exact mx3)
      subst emm
      have W6 := W5.ev (Ev.same sv)
      have el6 := sv _ _ el1
      generalize (upd (upd H5 pv (valuesO pv dN)) lv2 (.lst (((fd h n L kN).map valD).map Prod.snd))) = H6 at *
      refine ⟨_, rfl, dW, _, ksW, rfl, W6.at_, fun l2 hl2 => ?_⟩
      have sl2 := same_new (o := .lst (ksW.map V.ref)) hl2
      have elen : (ksW.map V.ref).length = (fd h n (rg n) k4).length := by
        rw [W6.kb.ex.len, valD_fst, List.length_map, fd_one enW en4]
      refine ⟨l2, _, rfl, .inl (lstAt upd_same), by show 2 ≤ sizeLine; decide, fun l3 hl3 => ?_⟩
      rw [elen]
      have sl3 := same_new (o := .lst [.int m, .int ((fd h n (rg n) k4).length : Nat)]) hl3
      refine ⟨_, _, .list [.int m, .int ((fd h n (rg n) k4).length : Nat)], rfl, .lst (lstAt ((sl2.trans sl3) _ _ el6)) (.cons (.int _) (.cons (.int _) .nil)), .lst (lstAt ?_) (.cons (.int _) (.cons (.int _) .nil)), ⟨by show 2 ≤ 1000; decide, fun d hd => ?_⟩, fun H7 s7 => q H7⟩
      · rw [← elen]
        exact upd_same
      · rcases List.mem_cons.mp hd with rfl | hd
        · exact True.intro
        · rw [List.mem_singleton.mp hd]
          exact True.intro
end
end RH
set_option Elab.async false
set_option linter.all false
set_option maxRecDepth 100000
set_option maxHeartbeats 2000000
namespace RH
open PySem PySem.Spec PyProof.Rows L2
open LamX (Tabs TabS TabB ExtN CodeO codeO_ne)
/-! ### what the top has left -/
theorem df_mk {K : PySem.W.Frag} {h : Heap} {mg : Str → Option Value} (X : K.In h) (G : h.Ns mainGlobals mg) {x : Str} {st : Stmt} {ps : List Str} {f : Addr} {od an : Option Addr} {sl : Array (Option Value)} {oc kV dc pm cd ct : Value}
    (a : PySem.W.nsIn K mainGlobals x = some (some (.ref f))) (l : K.lookup f = some ⟨oc, od, .func (PySem.W.fnOf x x (defArgs st) (defBody st) (defScope st) .none kV dc pm an cd ct), sl⟩) (c : PySem.W.codeIn K cd x = true) (k : PySem.W.keepIn K (.ref f) = true)
    (b : ∀ (kV doc pm : Value) (an : Option Addr) (cdv ct : Value) (us : List Value), us.length = ps.length → bindArgs (PySem.W.fnOf x x (defArgs st) (defBody st) (defScope st) .none kV doc pm an cdv ct) ⟨us, []⟩ = pure (ps.zip us)) : Df K mg x st ps := by
  have F := fun_mk (st := st) l c k
  exact ⟨f, _, F, PySem.W.mg_of X G a, F.binds b⟩
theorem dfc_mk {K : PySem.W.Frag} {h : Heap} {mg : Str → Option Value} (X : K.In h) (G : h.Ns mainGlobals mg) {x : Str} {st : Stmt} {ps : List Str} {f c : Addr} {od an : Option Addr} {sl : Array (Option Value)} {oc kV dc pm ct : Value}
    (a : PySem.W.nsIn K mainGlobals x = some (some (.ref f))) (l : K.lookup f = some ⟨oc, od, .func (PySem.W.fnOf x x (defArgs st) (defBody st) (defScope st) .none kV dc pm an (.ref c) ct), sl⟩) (cc : PySem.W.codeIn K (.ref c) x = true) (k : PySem.W.keepIn K (.ref f) = true)
    (b : ∀ (kV doc pm : Value) (an : Option Addr) (cdv ct : Value) (us : List Value), us.length = ps.length → bindArgs (PySem.W.fnOf x x (defArgs st) (defBody st) (defScope st) .none kV doc pm an cdv ct) ⟨us, []⟩ = pure (ps.zip us)) : DfC K mg x st ps c := by
  have F := fun_mk (st := st) l cc k
  exact ⟨f, oc, od, kV, dc, pm, an, ct, sl, l, cc, k, PySem.W.mg_of X G a, F.binds b⟩
/-- where a code object's table stands -/
def tabOf (o : Obj) : Option Value := match o.data with
  | .fields vs => vs.toList[11]?
  | _ => none
/-- a maker: its code object, its table -/
structure Mkr (K : PySem.W.Frag) (h : Heap) (mg : Str → Option Value) (x : Str) (st : Stmt) (ps : List Str) (c p : Addr) : Prop where
  df : DfC K mg x st ps c
  hd : PySem.W.CodeHd h c p
  no : K.lookup p = none
  tab : h.get? p = some (PySem.W.tabObj #[])
theorem mkr {K : PySem.W.Frag} {h : Heap} {mg : Str → Option Value} (X : K.In h) (G : h.Ns mainGlobals mg) {x : Str} {st : Stmt} {ps : List Str} {f c p : Addr} {od an : Option Addr} {sl : Array (Option Value)} {oc kV dc pm ct : Value} {o : Obj}
    (a : PySem.W.nsIn K mainGlobals x = some (some (.ref f))) (l : K.lookup f = some ⟨oc, od, .func (PySem.W.fnOf x x (defArgs st) (defBody st) (defScope st) .none kV dc pm an (.ref c) ct), sl⟩) (cc : PySem.W.codeIn K (.ref c) x = true) (k : PySem.W.keepIn K (.ref f) = true)
    (lc : K.lookup c = some o) (t : tabOf o = some (.ref p)) (d : ∀ K' : PySem.W.Frag, K'.lookup c = some o → PySem.W.codeHdIn K' c p = true) (e : K.lookup p = none) (g : h.get? p = some (PySem.W.tabObj #[]))
    (b : ∀ (kV doc pm : Value) (an : Option Addr) (cdv ct : Value) (us : List Value), us.length = ps.length → bindArgs (PySem.W.fnOf x x (defArgs st) (defBody st) (defScope st) .none kV doc pm an cdv ct) ⟨us, []⟩ = pure (ps.zip us)) :
    Mkr K h mg x st ps c p := ⟨dfc_mk X G a l cc k b, PySem.W.codeHd_of_K X (d K lc), e, g⟩
theorem two {A B : Addr → Addr → Prop} {c p c2 p2 : Addr} (a : A c p) (b : B c2 p2) (n : (p != p2) = true) : ∃ c p c2 p2, A c p ∧ B c2 p2 ∧ p ≠ p2 := ⟨c, p, c2, p2, a, b, fun z => by
  rw [z] at n
  simp at n⟩
/-- the written part that is meant -/
abbrev kOf {K : PySem.W.Frag} {h : Heap} (_ : K.In h) : PySem.W.Frag := K
theorem const_mk {K : PySem.W.Frag} {h : Heap} {mg : Str → Option Value} (X : K.In h) (G : h.Ns mainGlobals mg) {x : Str} {i : Int} {t : Tok} (a : PySem.W.nsIn K mainGlobals x = some (some (.int i t))) : ∃ t, mg x = some (.int i t) := ⟨t, PySem.W.mg_of X G a⟩
/-- what the end asks of the law -/
def spEnd (K : PySem.W.Frag) (T : List (Addr × Str)) : Sp := fun vs H Q _ => ∃ (a : Addr) (ns : List Int), vs = [.ref a] ∧ SqL K H a (ns.map V.int) ∧ Tabs T H ∧ ∀ H', Q (.bl true) H'
/-- a list that no one writes may be told by its very object -/
theorem frozen {P : Program} {w : World} {K : PySem.W.Frag} {mg : Str → Option Value} {base : Heap} {k : Nat} {f : Addr} {fd : FuncData} {T : List (Addr × Str)} (F : FnOk P w K mg base CX0 k f fd ["script"] (spLaw K T)) : FnOk P w K mg base CX0 k f fd ["script"] (spEnd K T) := by
  refine ⟨fun vs H Q E h => ?_, fun A outer s H args us vs Q E hr e0 hb r h => ?_⟩
  · obtain ⟨a, ns, rfl, _⟩ := h
    rfl
  obtain ⟨a, ns, rfl, hS, hT, q⟩ := h
  rcases hS with (hS | ⟨o, hS⟩) | hS
  · obtain ⟨z, its, n, rv, ho⟩ := (show ObjOk P w H s.heap a (.lst (ns.map V.int)) from e0.hok a _ hS)
    have hne : ∀ b, H b = none ↔ upd H a (.frz { cls := .type "list", data := .seq its.toArray n } (.lst (ns.map V.int))) b = none := fun b => by
      by_cases e : b = a
      · subst e
        rw [hS, upd_same]
        exact ⟨fun z => (nomatch z), fun z => (nomatch z)⟩
      · rw [upd_ne e]
    have ext : ∀ b u, H b = some u → (∀ xs, u ≠ .lst xs) → upd H a (.frz { cls := .type "list", data := .seq its.toArray n } (.lst (ns.map V.int))) b = some u := fun b u e nu => by
      rw [upd_ne (fun z => by subst z; rw [hS] at e; exact nu _ (Option.some.inj e).symm)]
      exact e
    have hok : HOk P w (upd H a (.frz { cls := .type "list", data := .seq its.toArray n } (.lst (ns.map V.int)))) s.heap := fun b u e => by
      by_cases eb : b = a
      · subst eb
        rw [upd_same] at e
        cases e
        exact ⟨ho, z, its, n, rv, ho⟩
      · rw [upd_ne eb] at e
        exact (e0.hok b u e).stay (fun c v _ h => h) (fun c h => ext _ _ h (fun xs z => nomatch z)) (fun c xs h => ext _ _ h (fun xs z => nomatch z))
    have e1 : Env0 P w K mg base A outer s (upd H a (.frz { cls := .type "list", data := .seq its.toArray n } (.lst (ns.map V.int)))) :=
      ⟨e0.frames, e0.mod, fun b o e => ⟨(e0.bs b o e).1, (hne b).mp (e0.bs b o e).2⟩, e0.bsz, e0.funs, fun b h => (hne b).mp (e0.frf b h), hok, e0.bare⟩
    have hT1 : Tabs T (upd H a (.frz { cls := .type "list", data := .seq its.toArray n } (.lst (ns.map V.int)))) := Fix.tabs (fun b u e nu => ext b u e nu) hT
    refine codeAny_mono (F.run A outer s _ args us [.ref a] Q E hr e1 hb r ⟨a, ns, rfl, .inl ⟨_, upd_same⟩, hT1, q⟩) fun rr s' h => ?_
    cases rr with
    | error e => exact h
    | ok fl =>
      cases fl with
      | ret u =>
        obtain ⟨v, H', os, bare, un, hok', r', q'⟩ := h
        refine ⟨v, H', os, bare, ⟨fun b o e n => un.keep b o e ((hne b).mp n), fun b o e n => un.slot b o e ((hne b).mp n), fun b o e n => un.free b o e ((hne b).mp n), un.there, fun b xs e => un.tups b xs (ext b _ e (fun ys z => nomatch z)), fun b o u e => un.frzs b o u (ext b _ e (fun ys z => nomatch z)), fun b ps e => un.tbls b ps (ext b _ e (fun ys z => nomatch z))⟩, hok', r', q'⟩
      | next => exact h
      | brk => exact h
      | cont => exact h
  · exact F.run A outer s H args us [.ref a] Q E hr e0 hb r ⟨a, ns, rfl, .inl ⟨o, hS⟩, hT, q⟩
  · exact F.run A outer s H args us [.ref a] Q E hr e0 hb r ⟨a, ns, rfl, .inr fun H' => .inr hS, hT, q⟩
theorem top {P : Program} {w : World} {K : PySem.W.Frag} {mg : Str → Option Value} {fa : Addr} (hfa : mg "law" = some (.ref fa)) (B : Bu mg) (c2 : ∃ t, mg "FEWEST_PLACES" = some (.int 2 t)) (c5 : ∃ t, mg "MOST_PLACES" = some (.int 5 t)) (c400 : ∃ t, mg "MOST_TOUCHES" = some (.int 400 t)) (c120 : ∃ t, mg "MOST_LAYOUTS" = some (.int 120 t))
    {k1 p1 k2 p2 : Addr} (hpp : p1 ≠ p2)
    (F_is_integer : Df K mg "is_integer" st_is_integer ["value"])
    (F_is_number : Df K mg "is_number" st_is_number ["value", "low", "high"])
    (F_is_row : Df K mg "is_row" st_is_row ["value", "low", "high"])
    (F_is_place : Df K mg "is_place" st_is_place ["value", "places"])
    (F_are_places : Df K mg "are_places" st_are_places ["value", "places"])
    (F_is_layout : Df K mg "is_layout" st_is_layout ["value", "places"])
    (F_is_word : Df K mg "is_word" st_is_word ["value", "places"])
    (F_check_habit : Df K mg "check_habit" st_check_habit ["habit"])
    (F_check_layout : Df K mg "check_layout" st_check_layout ["layout", "places"])
    (F_check_place : Df K mg "check_place" st_check_place ["place", "places"])
    (F_check_word : Df K mg "check_word" st_check_word ["word", "places"])
    (F_places_of_habit : Df K mg "places_of_habit" st_places_of_habit ["habit"])
    (F_move : Df K mg "move" st_move ["habit", "layout", "place"])
    (F_move_along : Df K mg "move_along" st_move_along ["habit", "layout", "word"])
    (F_depths : Df K mg "depths" st_depths ["start", "touches", "step", "most"])
    (F_traced : Df K mg "traced" st_traced ["came", "state"])
    (F_least_word : Df K mg "least_word" st_least_word ["start", "touches", "step", "is_goal"])
    (F_layout_depths : DfC K mg "layout_depths" st_layout_depths ["habit", "layout"] k1)
    (F_word_to_layout : DfC K mg "word_to_layout" st_word_to_layout ["habit", "one", "other"] k2)
    (F_touched : Df K mg "touched" st_touched ["habit", "layout", "place"])
    (F_after : Df K mg "after" st_after ["habit", "layout", "word"])
    (F_can_come : Df K mg "can_come" st_can_come ["habit", "layout"])
    (F_word_between : Df K mg "word_between" st_word_between ["habit", "one", "other"])
    (F_distance : Df K mg "distance" st_distance ["habit", "one", "other"])
    (F_farthest : Df K mg "farthest" st_farthest ["habit", "layout"])
    (F_order : Df K mg "order" st_order ["habit"])
    (F__law_taken : Df K mg "_law_taken" st__law_taken ["row", "many"])
    (F__law_order : Df K mg "_law_order" st__law_order ["row", "many"])
    (F__law_habit : Df K mg "_law_habit" st__law_habit ["row", "places"])
    (F__law_alike : Df K mg "_law_alike" st__law_alike ["found", "due"])
    (F__law_touch : Df K mg "_law_touch" st__law_touch ["habit", "layout", "place"])
    (F__law_near : Df K mg "_law_near" st__law_near ["habit", "layout"])
    (F__law_pick : Df K mg "_law_pick" st__law_pick ["row", "things"])
    (F__law_least_word : Df K mg "_law_least_word" st__law_least_word ["habit", "layout", "other", "many"])
    (F_law : Df K mg "law" st_law ["script"])
    : ∃ fd : FuncData, (∀ (s : Shared) (v : Value), BindsTo s fd ⟨[v], []⟩ [("script", v)]) ∧ ∀ base : Heap, TabB base mg k1 p1 → TabB base mg k2 p2 → FnOk P w K mg base CX0 9 fa fd ["script"] (spEnd K (tabsT p1 p2)) := by
  obtain ⟨f, fd, F, g, b⟩ := F_law.ex
  have e := hfa.symm.trans g
  cases e
  refine ⟨fd, fun s v => ?_, fun base T1 T2 => ?_⟩
  · obtain ⟨oc, od, kV, doc, pm, an, cdv, ct, osl, rfl, _⟩ := F.ex
    exact .of_eq rfl
  · have C1 := ok_is_integer (P := P) (w := w) (base := base) F_is_integer B
    have C2 := ok_is_number F_is_number C1
    have CRw := ok_is_row (P := P) (w := w) (K := K) (base := base) F_is_row B
    have C3 := ok_is_place F_is_place C2
    have C4 := ok_are_places F_are_places B C3
    have C5 := ok_is_layout F_is_layout B C4
    have CWd := ok_is_word F_is_word c400 CRw C4
    have CH := ok_check_habit F_check_habit B c2 c5 CRw C5
    have CL := ok_check_layout F_check_layout C5
    have CP := ok_check_place F_check_place C3
    have CKW := ok_check_word F_check_word CWd
    have CO := ok_places_of (P := P) (w := w) (K := K) (base := base) F_places_of_habit B
    have CM := ok_move (P := P) (w := w) (K := K) (base := base) F_move B
    have CMA := ok_move_along F_move_along CM
    have CTr := ok_traced (P := P) (w := w) (base := base) F_traced B
    have CLD := ok_ldepths (P := P) (w := w) F_layout_depths F_depths B T1 hpp c120 CO CM
    have CW := ok_wtl (P := P) (w := w) F_word_to_layout F_least_word B T2 hpp CO CM CTr
    have CTo := ok_touched F_touched B CH CL CP CM
    have CAf := ok_after F_after B CH CL CKW CMA
    have CCo := ok_come F_can_come B CH CL CLD
    have CB := ok_between F_word_between B CH CL CW
    have CDi := ok_distance F_distance B CB
    have CFa := ok_farthest F_farthest B CH CL CLD
    have COr := ok_ordr F_order B CH CO CLD
    have CT := ok_taken (P := P) (w := w) (K := K) (base := base) F__law_taken B
    have COd := ok_order F__law_order B CT
    have CLT := ok_ltouch (P := P) (w := w) (K := K) (base := base) F__law_touch B
    exact frozen (ok_law F B CT (ok_pick F__law_pick B CT) COd (ok_habit F__law_habit B CT COd) CLT (ok_near F__law_near B CLT) (ok_leastw F__law_least_word B CLT) (ok_alikeS 1 F__law_alike B (ok_alikeS 0 F__law_alike B (ok_alike0 F__law_alike B))) CTo CAf CCo CB CDi CFa COr)
end RH
set_option Elab.async false
set_option linter.all false
open PySem PySem.W PyProof.Rows
set_option maxRecDepth 100000 in
set_option maxHeartbeats 0 in
theorem PySem.Challenge.cw_restlesshelf_k01_whole_shelves_holds : PySem.Challenge.rw_restlesshelf_k01_whole_shelves.Holds := by
  w_on; o_law; k_head; (case hw => w_witness2)
  k_fill
  refine LamX.walk_ofTs (l := PySem.Challenge.rw_restlesshelf_k01_whole_shelves) (n := 63) (k := 9) (x := "script") (CX := fun _ => L2.CX0) rfl (by decide) rfl ⟨rfl, by decide, by decide⟩ (fun w h Y => PySem.W.km_in_of Y) ?F (fun _ _ _ _ _ h => h)
  case F =>
    intro w mg fa h Y KX G hmg
    have TT := PySem.W.km_tabs_of Y
    have B : RH.Bu mg := by
      refine' RH.Bu.mk (PySem.W.mg_none_of KX G ?z0) (PySem.W.mg_none_of KX G ?z1) (PySem.W.mg_none_of KX G ?z2) (PySem.W.mg_none_of KX G ?z3) (PySem.W.mg_none_of KX G ?z4) (PySem.W.mg_none_of KX G ?z5) (PySem.W.mg_none_of KX G ?z6) (PySem.W.mg_none_of KX G ?z7) (PySem.W.mg_none_of KX G ?z8) (PySem.W.mg_none_of KX G ?z9) (PySem.W.mg_none_of KX G ?z10) (PySem.W.mg_none_of KX G ?z11) (PySem.W.mg_none_of KX G ?z12)
      (case z0 => k_is); (case z1 => k_is); (case z2 => k_is); (case z3 => k_is); (case z4 => k_is); (case z5 => k_is); (case z6 => k_is); (case z7 => k_is); (case z8 => k_is); (case z9 => k_is); (case z10 => k_is); (case z11 => k_is); (case z12 => k_is)
    have c_FEWEST_PLACES : ∃ t, mg "FEWEST_PLACES" = some (.int 2 t) := by
      refine' RH.const_mk KX G ?a
      (case a => k_is)
    have c_MOST_PLACES : ∃ t, mg "MOST_PLACES" = some (.int 5 t) := by
      refine' RH.const_mk KX G ?a
      (case a => k_is)
    have c_MOST_TOUCHES : ∃ t, mg "MOST_TOUCHES" = some (.int 400 t) := by
      refine' RH.const_mk KX G ?a
      (case a => k_is)
    have c_MOST_LAYOUTS : ∃ t, mg "MOST_LAYOUTS" = some (.int 120 t) := by
      refine' RH.const_mk KX G ?a
      (case a => k_is)
    have F_is_integer : RH.Df (RH.kOf KX) mg "is_integer" RH.st_is_integer ["value"] := by
      refine' RH.df_mk KX G ?a ?l ?c ?k (fun _ _ _ _ _ _ us hl => match us, hl with | [_], _ => rfl)
      (case a => k_is); (case l => k_is); (case c => k_is); (case k => k_is)
    have F_is_number : RH.Df (RH.kOf KX) mg "is_number" RH.st_is_number ["value", "low", "high"] := by
      refine' RH.df_mk KX G ?a ?l ?c ?k (fun _ _ _ _ _ _ us hl => match us, hl with | [_, _, _], _ => rfl)
      (case a => k_is); (case l => k_is); (case c => k_is); (case k => k_is)
    have F_is_row : RH.Df (RH.kOf KX) mg "is_row" RH.st_is_row ["value", "low", "high"] := by
      refine' RH.df_mk KX G ?a ?l ?c ?k (fun _ _ _ _ _ _ us hl => match us, hl with | [_, _, _], _ => rfl)
      (case a => k_is); (case l => k_is); (case c => k_is); (case k => k_is)
    have F_is_place : RH.Df (RH.kOf KX) mg "is_place" RH.st_is_place ["value", "places"] := by
      refine' RH.df_mk KX G ?a ?l ?c ?k (fun _ _ _ _ _ _ us hl => match us, hl with | [_, _], _ => rfl)
      (case a => k_is); (case l => k_is); (case c => k_is); (case k => k_is)
    have F_are_places : RH.Df (RH.kOf KX) mg "are_places" RH.st_are_places ["value", "places"] := by
      refine' RH.df_mk KX G ?a ?l ?c ?k (fun _ _ _ _ _ _ us hl => match us, hl with | [_, _], _ => rfl)
      (case a => k_is); (case l => k_is); (case c => k_is); (case k => k_is)
    have F_is_layout : RH.Df (RH.kOf KX) mg "is_layout" RH.st_is_layout ["value", "places"] := by
      refine' RH.df_mk KX G ?a ?l ?c ?k (fun _ _ _ _ _ _ us hl => match us, hl with | [_, _], _ => rfl)
      (case a => k_is); (case l => k_is); (case c => k_is); (case k => k_is)
    have F_is_word : RH.Df (RH.kOf KX) mg "is_word" RH.st_is_word ["value", "places"] := by
      refine' RH.df_mk KX G ?a ?l ?c ?k (fun _ _ _ _ _ _ us hl => match us, hl with | [_, _], _ => rfl)
      (case a => k_is); (case l => k_is); (case c => k_is); (case k => k_is)
    have F_check_habit : RH.Df (RH.kOf KX) mg "check_habit" RH.st_check_habit ["habit"] := by
      refine' RH.df_mk KX G ?a ?l ?c ?k (fun _ _ _ _ _ _ us hl => match us, hl with | [_], _ => rfl)
      (case a => k_is); (case l => k_is); (case c => k_is); (case k => k_is)
    have F_check_layout : RH.Df (RH.kOf KX) mg "check_layout" RH.st_check_layout ["layout", "places"] := by
      refine' RH.df_mk KX G ?a ?l ?c ?k (fun _ _ _ _ _ _ us hl => match us, hl with | [_, _], _ => rfl)
      (case a => k_is); (case l => k_is); (case c => k_is); (case k => k_is)
    have F_check_place : RH.Df (RH.kOf KX) mg "check_place" RH.st_check_place ["place", "places"] := by
      refine' RH.df_mk KX G ?a ?l ?c ?k (fun _ _ _ _ _ _ us hl => match us, hl with | [_, _], _ => rfl)
      (case a => k_is); (case l => k_is); (case c => k_is); (case k => k_is)
    have F_check_word : RH.Df (RH.kOf KX) mg "check_word" RH.st_check_word ["word", "places"] := by
      refine' RH.df_mk KX G ?a ?l ?c ?k (fun _ _ _ _ _ _ us hl => match us, hl with | [_, _], _ => rfl)
      (case a => k_is); (case l => k_is); (case c => k_is); (case k => k_is)
    have F_places_of_habit : RH.Df (RH.kOf KX) mg "places_of_habit" RH.st_places_of_habit ["habit"] := by
      refine' RH.df_mk KX G ?a ?l ?c ?k (fun _ _ _ _ _ _ us hl => match us, hl with | [_], _ => rfl)
      (case a => k_is); (case l => k_is); (case c => k_is); (case k => k_is)
    have F_move : RH.Df (RH.kOf KX) mg "move" RH.st_move ["habit", "layout", "place"] := by
      refine' RH.df_mk KX G ?a ?l ?c ?k (fun _ _ _ _ _ _ us hl => match us, hl with | [_, _, _], _ => rfl)
      (case a => k_is); (case l => k_is); (case c => k_is); (case k => k_is)
    have F_move_along : RH.Df (RH.kOf KX) mg "move_along" RH.st_move_along ["habit", "layout", "word"] := by
      refine' RH.df_mk KX G ?a ?l ?c ?k (fun _ _ _ _ _ _ us hl => match us, hl with | [_, _, _], _ => rfl)
      (case a => k_is); (case l => k_is); (case c => k_is); (case k => k_is)
    have F_depths : RH.Df (RH.kOf KX) mg "depths" RH.st_depths ["start", "touches", "step", "most"] := by
      refine' RH.df_mk KX G ?a ?l ?c ?k (fun _ _ _ _ _ _ us hl => match us, hl with | [_, _, _, _], _ => rfl)
      (case a => k_is); (case l => k_is); (case c => k_is); (case k => k_is)
    have F_traced : RH.Df (RH.kOf KX) mg "traced" RH.st_traced ["came", "state"] := by
      refine' RH.df_mk KX G ?a ?l ?c ?k (fun _ _ _ _ _ _ us hl => match us, hl with | [_, _], _ => rfl)
      (case a => k_is); (case l => k_is); (case c => k_is); (case k => k_is)
    have F_least_word : RH.Df (RH.kOf KX) mg "least_word" RH.st_least_word ["start", "touches", "step", "is_goal"] := by
      refine' RH.df_mk KX G ?a ?l ?c ?k (fun _ _ _ _ _ _ us hl => match us, hl with | [_, _, _, _], _ => rfl)
      (case a => k_is); (case l => k_is); (case c => k_is); (case k => k_is)
    have F_touched : RH.Df (RH.kOf KX) mg "touched" RH.st_touched ["habit", "layout", "place"] := by
      refine' RH.df_mk KX G ?a ?l ?c ?k (fun _ _ _ _ _ _ us hl => match us, hl with | [_, _, _], _ => rfl)
      (case a => k_is); (case l => k_is); (case c => k_is); (case k => k_is)
    have F_after : RH.Df (RH.kOf KX) mg "after" RH.st_after ["habit", "layout", "word"] := by
      refine' RH.df_mk KX G ?a ?l ?c ?k (fun _ _ _ _ _ _ us hl => match us, hl with | [_, _, _], _ => rfl)
      (case a => k_is); (case l => k_is); (case c => k_is); (case k => k_is)
    have F_can_come : RH.Df (RH.kOf KX) mg "can_come" RH.st_can_come ["habit", "layout"] := by
      refine' RH.df_mk KX G ?a ?l ?c ?k (fun _ _ _ _ _ _ us hl => match us, hl with | [_, _], _ => rfl)
      (case a => k_is); (case l => k_is); (case c => k_is); (case k => k_is)
    have F_word_between : RH.Df (RH.kOf KX) mg "word_between" RH.st_word_between ["habit", "one", "other"] := by
      refine' RH.df_mk KX G ?a ?l ?c ?k (fun _ _ _ _ _ _ us hl => match us, hl with | [_, _, _], _ => rfl)
      (case a => k_is); (case l => k_is); (case c => k_is); (case k => k_is)
    have F_distance : RH.Df (RH.kOf KX) mg "distance" RH.st_distance ["habit", "one", "other"] := by
      refine' RH.df_mk KX G ?a ?l ?c ?k (fun _ _ _ _ _ _ us hl => match us, hl with | [_, _, _], _ => rfl)
      (case a => k_is); (case l => k_is); (case c => k_is); (case k => k_is)
    have F_farthest : RH.Df (RH.kOf KX) mg "farthest" RH.st_farthest ["habit", "layout"] := by
      refine' RH.df_mk KX G ?a ?l ?c ?k (fun _ _ _ _ _ _ us hl => match us, hl with | [_, _], _ => rfl)
      (case a => k_is); (case l => k_is); (case c => k_is); (case k => k_is)
    have F_order : RH.Df (RH.kOf KX) mg "order" RH.st_order ["habit"] := by
      refine' RH.df_mk KX G ?a ?l ?c ?k (fun _ _ _ _ _ _ us hl => match us, hl with | [_], _ => rfl)
      (case a => k_is); (case l => k_is); (case c => k_is); (case k => k_is)
    have F__law_taken : RH.Df (RH.kOf KX) mg "_law_taken" RH.st__law_taken ["row", "many"] := by
      refine' RH.df_mk KX G ?a ?l ?c ?k (fun _ _ _ _ _ _ us hl => match us, hl with | [_, _], _ => rfl)
      (case a => k_is); (case l => k_is); (case c => k_is); (case k => k_is)
    have F__law_order : RH.Df (RH.kOf KX) mg "_law_order" RH.st__law_order ["row", "many"] := by
      refine' RH.df_mk KX G ?a ?l ?c ?k (fun _ _ _ _ _ _ us hl => match us, hl with | [_, _], _ => rfl)
      (case a => k_is); (case l => k_is); (case c => k_is); (case k => k_is)
    have F__law_habit : RH.Df (RH.kOf KX) mg "_law_habit" RH.st__law_habit ["row", "places"] := by
      refine' RH.df_mk KX G ?a ?l ?c ?k (fun _ _ _ _ _ _ us hl => match us, hl with | [_, _], _ => rfl)
      (case a => k_is); (case l => k_is); (case c => k_is); (case k => k_is)
    have F__law_alike : RH.Df (RH.kOf KX) mg "_law_alike" RH.st__law_alike ["found", "due"] := by
      refine' RH.df_mk KX G ?a ?l ?c ?k (fun _ _ _ _ _ _ us hl => match us, hl with | [_, _], _ => rfl)
      (case a => k_is); (case l => k_is); (case c => k_is); (case k => k_is)
    have F__law_touch : RH.Df (RH.kOf KX) mg "_law_touch" RH.st__law_touch ["habit", "layout", "place"] := by
      refine' RH.df_mk KX G ?a ?l ?c ?k (fun _ _ _ _ _ _ us hl => match us, hl with | [_, _, _], _ => rfl)
      (case a => k_is); (case l => k_is); (case c => k_is); (case k => k_is)
    have F__law_near : RH.Df (RH.kOf KX) mg "_law_near" RH.st__law_near ["habit", "layout"] := by
      refine' RH.df_mk KX G ?a ?l ?c ?k (fun _ _ _ _ _ _ us hl => match us, hl with | [_, _], _ => rfl)
      (case a => k_is); (case l => k_is); (case c => k_is); (case k => k_is)
    have F__law_pick : RH.Df (RH.kOf KX) mg "_law_pick" RH.st__law_pick ["row", "things"] := by
      refine' RH.df_mk KX G ?a ?l ?c ?k (fun _ _ _ _ _ _ us hl => match us, hl with | [_, _], _ => rfl)
      (case a => k_is); (case l => k_is); (case c => k_is); (case k => k_is)
    have F__law_least_word : RH.Df (RH.kOf KX) mg "_law_least_word" RH.st__law_least_word ["habit", "layout", "other", "many"] := by
      refine' RH.df_mk KX G ?a ?l ?c ?k (fun _ _ _ _ _ _ us hl => match us, hl with | [_, _, _, _], _ => rfl)
      (case a => k_is); (case l => k_is); (case c => k_is); (case k => k_is)
    have F_law : RH.Df (RH.kOf KX) mg "law" RH.st_law ["script"] := by
      refine' RH.df_mk KX G ?a ?l ?c ?k (fun _ _ _ _ _ _ us hl => match us, hl with | [_], _ => rfl)
      (case a => k_is); (case l => k_is); (case c => k_is); (case k => k_is)
    obtain ⟨k1, p1, k2, p2, M1, M2, hpp⟩ : ∃ k1 p1 k2 p2, RH.Mkr (RH.kOf KX) h mg "layout_depths" RH.st_layout_depths ["habit", "layout"] k1 p1 ∧ RH.Mkr (RH.kOf KX) h mg "word_to_layout" RH.st_word_to_layout ["habit", "one", "other"] k2 p2 ∧ p1 ≠ p2 := by
      refine' RH.two (RH.mkr KX G ?a ?l ?c ?k ?lc ?t ?d ?e ?g (fun _ _ _ _ _ _ us hl => match us, hl with | [_, _], _ => rfl)) (RH.mkr KX G ?a2 ?l2 ?c2 ?k2 ?lc2 ?t2 ?d2 ?e2 ?g2 (fun _ _ _ _ _ _ us hl => match us, hl with | [_, _, _], _ => rfl)) ?n
      (case a => k_is); (case l => k_is); (case c => k_is); (case k => k_is); (case lc => k_is); (case t => rfl); (case e => first | rfl | kernel_rfl | (with_unfolding_all rfl)); (case g => exact TT _ (by decide)); (case d => exact fun K' e => by unfold PySem.W.codeHdIn; rw [e]; rfl)
      (case a2 => k_is); (case l2 => k_is); (case c2 => k_is); (case k2 => k_is); (case lc2 => k_is); (case t2 => rfl); (case e2 => first | rfl | kernel_rfl | (with_unfolding_all rfl)); (case g2 => exact TT _ (by decide)); (case d2 => exact fun K' e => by unfold PySem.W.codeHdIn; rw [e]; rfl)
      (case n => decide)
    obtain ⟨F_layout_depths, hk1, hl1, hm1⟩ := M1
    obtain ⟨F_word_to_layout, hk2, hl2, hm2⟩ := M2
    obtain ⟨fd, hb, hF⟩ := RH.top (P := (PySem.Challenge.rw_restlesshelf_k01_whole_shelves).prog) (w := w) hmg B c_FEWEST_PLACES c_MOST_PLACES c_MOST_TOUCHES c_MOST_LAYOUTS hpp F_is_integer F_is_number F_is_row F_is_place F_are_places F_is_layout F_is_word F_check_habit F_check_layout F_check_place F_check_word F_places_of_habit F_move F_move_along F_depths F_traced F_least_word F_layout_depths F_word_to_layout F_touched F_after F_can_come F_word_between F_distance F_farthest F_order F__law_taken F__law_order F__law_habit F__law_alike F__law_touch F__law_near F__law_pick F__law_least_word F_law
    refine ⟨fd, [(k1, p1), (k2, p2)], RH.spEnd (RH.kOf KX) (RH.tabsT p1 p2), ?_, ?_, ?_, hb, ?_, ?_⟩
    · intro p hp
      rcases List.mem_cons.mp hp with e | hp
      · rw [e]; exact hm1
      · rw [List.mem_singleton.mp hp]; exact hm2
    · intro p hp
      rcases List.mem_cons.mp hp with e | hp
      · rw [e]; exact hl1
      · rw [List.mem_singleton.mp hp]; exact hl2
    · intro p hp
      rcases List.mem_cons.mp hp with e | hp
      · rw [e]; exact hk1
      · rw [List.mem_singleton.mp hp]; exact hk2
    · intro H a ns _ _ hH hS
      refine ⟨a, ns, rfl, hS, fun p hp => ?_, fun _ => rfl⟩
      rcases List.mem_cons.mp hp with e | hp
      · rw [e]; exact LamX.TabS.nil (hH (k1, p1) (List.mem_cons_self ..))
      · rw [List.mem_singleton.mp hp]; exact LamX.TabS.nil (hH (k2, p2) (List.mem_cons_of_mem _ (List.mem_singleton.mpr rfl)))
    · intro base _ _ TB
      exact hF base (TB (k1, p1) (List.mem_cons_self ..)) (TB (k2, p2) (List.mem_cons_of_mem _ (List.mem_singleton.mpr rfl)))
