import PyProof.Rows.All
import Wide.All
import OpenK.AllK
import Wide.FinOn
import HandS.ForMost
import HandS.Exc
import HandS.TryOnly
import HandS.ExcOwn
import HandS.WordsExc
import HandS.IsInst
import HandS.Conv
import HandS.Sort
import HandS.SortInts
import HandS.Zip
import HandS.Zip0
import HandS.Wide
import HandS.Deep
import HandS.Flow
import HandS.Style
import HandS.TupAny
import KE.GoesEnum
import KE.KEqSeq
import KE.KEqDeep
import PyProof.TupleOfSeq
import HandS.Lambda
import HandS.Nested
import HandS.EndTab
import KE.KDictDisplayH
import KE.KDictCopyH
import KE.KIndexOf
import HandS.Dict
import HandS.DictTup
import HandS.TupLen
import PySem.Challenge.RW_restlesshelf_k17_whole_looks
set_option Elab.async false
set_option linter.all false
set_option maxRecDepth 100000
set_option maxHeartbeats 2000000
/-! Two rules more: a walk over enumerate of a tuple, sorted of a tuple of ints. -/
namespace RH
open PySem PySem.Spec PyProof.Rows L2
theorem made_enumB {v : Value} {o : Obj} {H : Heap → Prop} (B : Begins v o H) :
    Meets (Builtin.«enumerate.__new__» ⟨[.type "enumerate", v], []⟩) (fun _ R s => H s.heap ∧
      R (.ok (.ret (.ref (s.heap.push o).objs.size))) { s with heap := (s.heap.push o).push { cls := .type "enumerate", data := .fields #[.none, .bool false, .ref s.heap.objs.size, rawInt 0, .none, .none] } }) :=
  .of_wp fun prog w A R s h => by
    obtain ⟨hp, g, d, tz, oz⟩ := s; obtain ⟨h1, h⟩ := h
    have hsub := sub_enumerate
    have q1 : ∀ {A' : Around} {E : Value → Shared → Prop} {Q : Value → Shared → Prop}, Q (.ref hp.objs.size) ⟨hp.push o, g, d, tz, oz⟩ → wpAny (model prog w) A' (pyIter v) Q E ⟨hp, g, d, tz, oz⟩ :=
      fun q => B.iter prog w _ _ ⟨hp, g, d, tz, oz⟩ _ h1 q
    wp_walk using q1
    refine wpAny_stack_any fun st => wpAny_pure ?_
    split
    · rename_i c _ _ _ _ _
      cases (c == Value.type "enumerate")
      · wp_walk using q1
        exact ⟨_, rfl, h⟩
      · wp_walk using q1
        exact ⟨_, rfl, h⟩
    · wp_walk using q1
      exact ⟨_, rfl, h⟩
section
variable {prog : Program} {w : World} {A : Around} {E : Value → Shared → Prop} {s : Shared}
theorem enum_one {v : Value} {o : Obj} {H : Heap → Prop} {Q : Value → Shared → Prop} (B : Begins v o H) (h1 : H s.heap)
    (h : ∀ h', IsEnum h' (s.heap.objs.size + 1) s.heap.objs.size 0 .none → h'.get? s.heap.objs.size = some o → h'.objs.size = s.heap.objs.size + 2 →
      (∀ b o, s.heap.get? b = some o → h'.get? b = some o) → Q (.ref (s.heap.objs.size + 1)) { s with heap := h' }) :
    wpAny (model prog w) A (call (.type "enumerate") [v]) Q E s := by
  refine callType_new F.called_enumerate (by decide) (F.typeCall_enumerate_1 _) (F.newCall_enumerate_1 _) (fun obj => F.args_object_init_2 obj _) F.entry_enumerate_new
    (made_enumB B) ⟨h1, ?_⟩
  have hZ : (s.heap.push o).objs.size = s.heap.objs.size + 1 := Heap.size_push ..
  show _ ∧ _
  rw [hZ]
  have he : IsEnum ((s.heap.push o).push { cls := .type "enumerate", data := .fields #[.none, .bool false, .ref s.heap.objs.size, rawInt 0, .none, .none] }) (s.heap.objs.size + 1) s.heap.objs.size 0 .none := by
    have := Heap.get?_push_size (s.heap.push o) (o := { cls := .type "enumerate", data := .fields #[.none, .bool false, .ref s.heap.objs.size, rawInt 0, .none, .none] }) rfl
    rw [hZ] at this; exact this
  refine ⟨⟨_, he, rfl⟩, h _ he (Heap.get?_push_of_some _ (Heap.get?_push_size _ B.free)) (by rw [Heap.size_push, hZ]) fun b o x => Heap.get?_push_of_some _ (Heap.get?_push_of_some _ x)⟩
end
/-- the tuple at a, each item with vz number in a new pair -/
def IteT (K : PySem.W.Frag) (a : Addr) : It :=
  ⟨fun i H => ∃ (xs : List V) (x : V), SqT K H a xs ∧ xs[i]? = some x, fun i H v H' => ∃ T x, v = .ref T ∧ H T = none ∧ H' = upd H T (.tup [.int (i : Nat), x]) ∧ ∀ xs, SqT K H a xs → xs[i]? = some x, fun i H => ∃ xs : List V, SqT K H a xs ∧ xs.length ≤ i⟩
theorem ne_enum {h : Heap} {e it a : Addr} {i : Int} {old : Value} {vz : Array Value} (he : IsEnum h e it i old) (p : IsTup h a vz) : e ≠ a := fun z => by
  obtain ⟨o, hO, hC, _⟩ := p
  rw [← z, he] at hO
  cases hO
  exact absurd (Value.type.inj hC) (by decide)
theorem turn_enumT {P : Program} {w : World} {K : PySem.W.Frag} {elts : List Expr} {kk : Nat} {tpos : Pos} (a e it : Addr) :
    Turn P w K (.Tuple elts kk tpos) (IteT K a) [e, it] e (fun i h => (∃ old, IsEnum h e it ((i : Nat) : Int) old) ∧ h.IsTupleIter it a i ∧ e ≠ it ∧ a ≠ it) where
  mem := by simp
  obj := fun i h st b hb => by
    obtain ⟨⟨old, he⟩, ⟨o, hO, hC, hD⟩, _⟩ := st
    have e' : b = e ∨ b = it := by simpa using hb
    rcases e' with z | z
    · rw [z]; exact ⟨_, he, fun v q => nomatch q⟩
    · rw [z]; exact ⟨o, hO, fun v q => by rw [hD] at q; cases q⟩
  keep := fun i h h' st k => let ⟨⟨old, he⟩, hi, nEI⟩ := st; ⟨⟨old, k e (by simp) _ he⟩, hi.at fun o q => k it (by simp) o q, nEI⟩
  item := by
    intro X hP hw hK hC i pins s σ H E I hf st hg
    subst hP hw hK
    obtain ⟨⟨old, he⟩, hIt, nEI, nAI⟩ := st
    obtain ⟨xs, x, hSq, hx⟩ := hg
    obtain ⟨vz, rz, p, hZ⟩ := I.tuple hSq
    obtain ⟨u, hu, ru⟩ := rz.get hx
    have ltE : e < s.heap.objs.size := Heap.lt_size he
    have ltI : it < s.heap.objs.size := by obtain ⟨_, q, _⟩ := hIt; exact Heap.lt_size q
    have hlt : i < vz.toArray.size := by
      have := (List.getElem?_eq_some_iff.mp hu).1
      simpa using this
    refine wpAny_pyNext_enum_itemD (Draws.tuple (show X.A.in1.handled = none from I.ok.hd hC) it a nAI vz.toArray) he ⟨hIt, p⟩ hlt nEI (by
      intro hm
      have e' : e = it ∨ e = a := by simpa using hm
      rcases e' with z | z
      · exact nEI z
      · exact ne_enum he p z) fun x' h' tz hP' hO hit' hT hSz kp => ?_
    have ex : x' = u := by
      have h2 : vz.toArray[i]? = some u := by simpa using hu
      rw [h2] at hP'
      exact (Option.some.inj hP').symm
    subst ex
    refine ⟨_, rfl, wpAny_letOwnedTupleGo_enum (s := { s with heap := h', toks := tz + 1 }) hO fun h'' he' sbu => ?_⟩
    have hT2 : h''.get? s.heap.objs.size = some { cls := .type "tuple", data := .seq #[.int i tz, x'] } := (sbu.2 _ (Nat.ne_of_gt ltE)).trans hT
    have new : ObjOk X.prog X.w (upd H s.heap.objs.size (.tup [.int (i : Nat), x])) h'' s.heap.objs.size (.tup [.int (i : Nat), x]) :=
      ⟨by show 2 ≤ sizeLine; decide, [.int i tz, x'], .cons ⟨_, rfl⟩ (.cons ru .nil), ⟨_, hT2, rfl, _, rfl⟩⟩
    have I1 : Inv X pins σ (upd H s.heap.objs.size (.tup [.int (i : Nat), x])) { s with heap := h'', toks := tz + 1 } :=
      I.turnedNew (ch := [e, it]) (fun b ob hb q => (sbu.2 b (fun z => hb (by simp [z]))).trans (kp b ob (fun z => hb (by simp [z])) (fun z => hb (by simp [z])) q)) hf (Nat.le_refl _) new
    refine ⟨.ref s.heap.objs.size, _, I1, rfl, ⟨_, x, rfl, I.hok.fresh (Nat.le_refl _), rfl, fun ys hy => by rw [I.tuple_inj hy hSq]; exact hx⟩, ⟨⟨x', ?_⟩, hit'.1.at fun o q => (sbu.2 it (Ne.symm nEI)).trans q, nEI, nAI⟩, fun b hb => ?_⟩
    · have e1 : ((i + 1 : Nat) : Int) = (i : Int) + 1 := by omega
      rw [e1]; exact he'
    · have hb' : b < s.heap.objs.size := by
        have e' : b = e ∨ b = it := by simpa using hb
        rcases e' with z | z
        · rw [z]; exact ltE
        · rw [z]; exact ltI
      rw [upd_ne (Nat.ne_of_lt hb')]
      exact (hf b hb).1
  done := by
    intro X hP hw hK hC i pins s σ H E I hf st hg
    subst hP hw hK
    obtain ⟨⟨old, he⟩, hIt, nEI, nAI⟩ := st
    obtain ⟨xs, hSq, hx⟩ := hg
    obtain ⟨vz, rz, p, hZ⟩ := I.tuple hSq
    obtain ⟨f0, f1, f2, f3, f4, f5⟩ := hf it (by simp)
    have hl := rz.length
    have hT : s.TypeIs (.ref e) "enumerate" := ⟨_, he, rfl⟩
    unfold pyNext
    refine wpAny_bind (wpAny_attempt (wpAny_callSpecial?_slot (name := Str.ofString "__next__") hT F.slot_enumerate_next
      (wpAny_call_entry F.slot_enumerate_next hT F.entry_enumerate_next ?_ (F.args_enumerate_next_1 _))))
    show wpAny _ _ (field (.ref e) 2 >>= _) _ _ _
    refine wpAny_bind (wpAny_field he rfl (x := .ref it) rfl ?_)
    refine wpAny_bind (wpAny_nextOf_tuple_end (show X.A.in1.handled = none from I.ok.hd hC) hIt p (by simp; omega) fun h' x he' hx' => ?_)
    obtain ⟨o, hO, hc'⟩ := hx'
    refine wpAny_bind (wpAny_isInstance (T := "StopIteration") (b := true) ⟨o, hO, hc'⟩ isSubtype_stop ?_)
    exact wpAny_pure ⟨rfl, I.turned (t' := s.toks) (fun b o hb q => he' b o hb q) f0 f1 f3 f4 f5⟩
  self := fun A i s Q E st h => let ⟨⟨_, he⟩, _⟩ := st; wpAny_pyIter_enum he h
def iEnumT (K : PySem.W.Frag) (ta : TA) : TI := fun σ H R => ta σ H fun vs H1 => ∃ a xs, vs = [.ref a] ∧ SqT K H1 a xs ∧ R (IteT K a) H1
theorem pi_enumT {X : Cx} {e : Expr} {ta : TA} {p pos tpos : Pos} {elts : List Expr} {kk : Nat} (hg : Gl X "enumerate") (hm : X.mg "enumerate" = none) (ha : PA X [e] ta) (hs : starEach [e] X.env = [(false, eval e X.env)] := by rfl) :
    PI X (.Tuple elts kk tpos) (.Call (.Name "enumerate" p) [e] [] pos) (iEnumT X.K ta) := by
  refine ⟨fun pins s σ H R I h => ?_⟩
  refine Call_ (ld_blt I hg hm boot_enumerate (PyProof.Rows.callWith_type1 (thn (ha.run pos pins s σ H _ I h) fun us s1 ⟨vs, H1, I1, r1, q1⟩ => ?_) hs rfl))
  obtain ⟨a, xs, ex, hSq, q⟩ := q1
  subst ex
  cases r1 with
  | cons r rr =>
    cases rr
    cases r
    obtain ⟨vz, rz, p', hZ⟩ := I1.tuple hSq
    have hal : a < s1.heap.objs.size := by obtain ⟨_, q', _⟩ := id p'; exact Heap.lt_size q'
    refine enum_one (begins_tuple a vz.toArray) p' fun h' he hIt hSz kp => wpAny_pyIter_enum he ?_
    have I2 : Inv X pins σ H1 { s1 with heap := h' } := I1.kept (t' := s1.toks) kp
    refine ⟨s1.heap.objs.size + 1, [s1.heap.objs.size + 1, s1.heap.objs.size], _, _, H1, rfl, I2, turn_enumT a (s1.heap.objs.size + 1) s1.heap.objs.size, ⟨⟨.none, he⟩, ⟨_, hIt, rfl, rfl⟩, Nat.succ_ne_self _, Nat.ne_of_lt hal⟩, fun b hb => ?_, q⟩
    have e' : b = s1.heap.objs.size + 1 ∨ b = s1.heap.objs.size := by simpa using hb
    have hle : s1.heap.objs.size ≤ b := by
      rcases e' with z | z
      · rw [z]; exact Nat.le_add_right _ _
      · rw [z]; exact Nat.le_refl _
    exact I1.fpOk hle (I1.hok.fresh hle)
/-! ### sorted(a tuple of ints) -/
def rSortedTup (K : PySem.W.Frag) : List V → Hp → VK → Prop := fun vs H Q => ∃ (a : Addr) (ns : List Int), vs = [V.ref a] ∧ SqT K H a (ns.map V.int) ∧ ns.length < 64 ∧
  ∀ (ns' : List Int) (p : Addr), ns'.Perm ns → ns'.Pairwise (· ≤ ·) → H p = none → Q (.ref p) (upd H p (.lst (ns'.map V.int)))
section
variable {prog : Program} {w : World} {A : Around} {E : Value → Shared → Prop} {s : Shared}
theorem collect_tup {l : Addr} {vs : List Value} {Q : List Value → Shared → Prop} (hl : IsTup s.heap l vs.toArray)
    (h : Q vs { s with heap := (s.heap.push (seqObj "list" #[] 0)).update s.heap.objs.size (Obj.mapSeq (· ++ vs.toArray)) }) (hSz : vs.length ≤ sizeLine := by size_fits) :
    wpAny (model prog w) A (collect (.ref l)) Q E s := by
  obtain ⟨o, hO, hC, n, hD⟩ := id hl
  unfold collect
  refine wpAny_bind (wpAny_runValue (codeAny_builtin F.entry_proto_collect ?_))
  rw [Around.under_plainId F.plain_proto_collect _]
  show wpAny _ A.in1 (newList [] >>= fun l' => again (.builtin "list.__iadd__" ⟨[l', .ref l], []⟩)) _ _ s
  refine wpAny_bind (wpAny_newList (wpAny_pure ⟨plainId_quiet F.plain_list_iadd _, codeAny_builtin F.entry_list_iadd ?_⟩))
  rw [Around.under_plainId F.plain_list_iadd _]
  show wpAny _ _ (Builtin.List.listExtendWith (.ref s.heap.objs.size) (.ref l) (.ref s.heap.objs.size)) _ _ { s with heap := s.heap.push (seqObj "list" #[] 0) }
  unfold Builtin.List.listExtendWith
  have ho' : (s.heap.push (seqObj "list" #[] 0)).get? l = some o := Heap.get?_push_of_some _ hO
  refine wpAny_bind (wpAny_typeOf (T := "tuple") ⟨o, ho', hC⟩ ?_)
  have hT0 : (Value.type "tuple" == Value.type "tuple") = true := by rfl
  rw [if_pos (by rw [hT0]; simp)]
  refine wpAny_bind (listItems_at ho' hD ?_)
  refine wpAny_bind (listItems_at (xs := #[]) (n := 0) (Heap.get?_push_size _ rfl) rfl ?_)
  rw [if_neg (by simp)]
  refine wpAny_bind (listUpdate_at (xs := #[]) (n := 0) (Heap.get?_push_size _ rfl) rfl ?_ (Nat.zero_le _) (by show (#[] ++ vs.toArray).size ≤ sizeLine + 1; simp only [Array.size_append, List.size_toArray, List.length_nil]; omega))
  refine wpAny_pure ?_
  show wpAny (model prog w) A (do
      let o ← load s.heap.objs.size
      match o.data with
      | .seq xs _ => pure xs.toList
      | _ => unsupported "internal:collect") Q E { s with heap := (s.heap.push (seqObj "list" #[] 0)).update s.heap.objs.size (Obj.mapSeq (· ++ vs.toArray)) }
  refine wpAny_bind (wpAny_load (get?_update_seq (Heap.get?_push_size _ rfl) _) ?_)
  show wpAny _ _ (pure ((#[] : Array Value) ++ vs.toArray).toList) Q E _
  rw [show ((#[] : Array Value) ++ vs.toArray).toList = vs by simp]
  exact wpAny_pure h
theorem sorted_intsT {l : Addr} {vs : List Value} {ns : List Int} {Q : Value → Shared → Prop} (hl : IsTup s.heap l vs.toArray) (hI : IntsAre vs ns) (h64 : vs.length < 64)
    (h : ∀ (out : Array Value) (ns' : List Int), IntsAre out.toList ns' → ns'.Perm ns → ns'.Pairwise (· ≤ ·) → Q (.ref (s.heap.objs.size + 1)) { s with heap := sortedAll s.heap vs out }) :
    wpAny (model prog w) A (call (.builtin "sorted") [.ref l]) Q E s := by
  refine Calls.call_function_entry kind_sorted plain_sorted entry_sorted (args_sorted1 _) ?_
  unfold Builtin.«sorted»
  refine wpAny_bind (m := checkCount "sorted" 1 1 _) (wpAny_pure ?_)
  have hsz0 : vs.length ≤ sizeLine := by
    rw [sizeLine_eq]
    omega
  refine wpAny_bind (collect_tup (hSz := hsz0) hl ?_)
  refine wpAny_bind (wpAny_newList ?_)
  have hSz : ((s.heap.push (seqObj "list" #[] 0)).update s.heap.objs.size (Obj.mapSeq (· ++ vs.toArray))).objs.size = s.heap.objs.size + 1 := by
    rw [Heap.size_update, size_push']
  have hOL : (((s.heap.push (seqObj "list" #[] 0)).update s.heap.objs.size (Obj.mapSeq (· ++ vs.toArray))).push (seqObj "list" vs.toArray 0)).get? (s.heap.objs.size + 1) = some (seqObj "list" vs.toArray 0) := by
    rw [← hSz]; exact Heap.get?_push_size _ rfl
  show wpAny _ _ _ _ _ { s with heap := ((s.heap.push (seqObj "list" #[] 0)).update s.heap.objs.size (Obj.mapSeq (· ++ vs.toArray))).push (seqObj "list" vs.toArray 0) }
  rw [hSz]
  refine wpAny_bind (wpAny_holding (wpAny_call_entry slot_list_sort ⟨_, hOL, rfl⟩ entry_list_sort (list_sort_tree hOL hI h64 fun out ns' a1 a2 a3 => ⟨_, rfl, ?_⟩) (args_list_sort _)))
  exact wpAny_pure ⟨_, rfl, h out ns' a1 a2 a3⟩
end
theorem cr_sortedTup {X : Cx} : CallR X (.builtin "sorted") (rSortedTup X.K) := by
  intro pins s σ H vs us Q I r h
  obtain ⟨a, ns, rfl, hs, h64, q⟩ := h
  obtain ⟨vz, rz, hl, _⟩ := I.tuple hs
  rw [Vals.ref1 r]
  have hi := rz.ints
  refine sorted_intsT hl hi (by rw [hi.length]; exact h64) fun out ns' h1 h2 h3 => ?_
  obtain ⟨ep, he'⟩ := PyProof.Rows.sortedAll_at s.heap vz out
  have hLn : (ns'.map V.int).length ≤ sizeLine := by rw [List.length_map, h2.length_eq]; exact small64 h64
  exact ⟨.ref _, upd H (s.heap.objs.size + 1) (.lst (ns'.map V.int)), I.laid (t' := s.toks) (fun _ _ => PyProof.Rows.sortedAll_old) (Nat.le_succ _) ⟨hLn, out.toList, ep, vals_of_ints h1, he'⟩, rfl, q ns' _ h2 h3 (I.hok.fresh (Nat.le_succ _))⟩
end RH
set_option Elab.async false
set_option linter.all false
set_option maxRecDepth 100000
set_option maxHeartbeats 2000000
/-! Lambdas with parameters and captured names, as values: made, handed to a def of the text, called there. -/
set_option Elab.async false
set_option linter.all false
set_option maxRecDepth 100000
set_option maxHeartbeats 2000000
/-! Dicts with tuples for keys: one pair written out, their values; where an int stands in a tuple. -/
set_option Elab.async false
set_option linter.all false
set_option maxRecDepth 100000
set_option maxHeartbeats 2000000
/-! Tuples told by their very object, and dicts whose keys are such tuples of ints. -/
namespace RH
open PySem PySem.Spec PyProof.Rows L2
def keyOf (s : List Int) : List L2.Key := s.map Sum.inl
/-- b is a tuple of these ints -/
def KX (H : Hp) (b : Addr) (s : List Int) : Prop := Rd H b (.tup (s.map V.int))
/-- the same, and its very object is known, one without a dict -/
def FT (H : Hp) (b : Addr) (s : List Int) : Prop := ∃ ob, H b = some (.frz ob (.tup (s.map V.int))) ∧ ob.dict = none
theorem FT.kx {H : Hp} {b : Addr} {s : List Int} (h : FT H b s) : KX H b s := let ⟨ob, h, _⟩ := h; .inr ⟨ob, h⟩
inductive XS : List (List Int × V) → List Addr → List (List L2.Key × Addr × Value) → Prop
  | nil : XS [] [] []
  | cons {q : List Int × V} {b : Addr} {u : Value} {as : List (List Int × V)} {bs : List Addr} {xs : List (List L2.Key × Addr × Value)} : RelV q.2 u → XS as bs xs → XS (q :: as) (b :: bs) ((keyOf q.1, b, u) :: xs)
inductive KB (H : Hp) : List (List Int × V) → List Addr → Prop
  | nil : KB H [] []
  | cons {q : List Int × V} {b : Addr} {as : List (List Int × V)} {bs : List Addr} : KX H b q.1 → KB H as bs → KB H (q :: as) (b :: bs)
theorem KB.snoc {H : Hp} {q : List Int × V} {b : Addr} (h : KX H b q.1) : ∀ {as : List (List Int × V)} {bs : List Addr}, KB H as bs → KB H (as ++ [q]) (bs ++ [b])
  | _, _, .nil => .cons h .nil
  | _, _, .cons g t => .cons g (t.snoc h)
theorem KB.imp {H H' : Hp} (f : ∀ b s, KX H b s → KX H' b s) : ∀ {as : List (List Int × V)} {bs : List Addr}, KB H as bs → KB H' as bs
  | _, _, .nil => .nil
  | _, _, .cons g t => .cons (f _ _ g) (t.imp f)
theorem XS.len : ∀ {as : List (List Int × V)} {bs : List Addr} {xs : List (List L2.Key × Addr × Value)}, XS as bs xs → xs.length = as.length
  | _, _, _, .nil => rfl
  | _, _, _, .cons _ t => congrArg (· + 1) t.len
theorem XS.snoc {q : List Int × V} {b : Addr} {u : Value} (h : RelV q.2 u) : ∀ {as : List (List Int × V)} {bs : List Addr} {xs : List (List L2.Key × Addr × Value)}, XS as bs xs → XS (as ++ [q]) (bs ++ [b]) (xs ++ [(keyOf q.1, b, u)])
  | _, _, _, .nil => .cons h .nil
  | _, _, _, .cons g t => .cons g (t.snoc h)
/-- the dict at d: as with its values, bs its keys' tuples -/
abbrev DE (P : Program) (w : World) (as : List (List Int × V)) (bs : List Addr) (d : Addr) : HO := .ext fun h => (d == sysModules) = false ∧ as.length ≤ sizeLine ∧ ∃ xs : List (List L2.Key × Addr × Value), XS as bs xs ∧
  ∃ o es ep, h.get? d = some o ∧ o.ExactDict ∧ o.data = .dict es ep ∧ es.toList = xs.map (entryOfKey (tupleKind (mixKind P w))) ∧ (xs.map (·.1)).Nodup
theorem DE.ok {P : Program} {w : World} {H : Hp} {h : Heap} {as : List (List Int × V)} {bs : List Addr} {d : Addr} {xs : List (List L2.Key × Addr × Value)} (hd : (d == sysModules) = false) (hl : as.length ≤ sizeLine) (hx : XS as bs xs) (dd : h.DictOfH (tupleKind (mixKind P w)) d xs) : ObjOk P w H h d (DE P w as bs d) := by
  obtain ⟨o, es, ep, h1, h2, h3, h4, _, h5⟩ := dd
  refine ⟨⟨hd, hl, xs, hx, o, es, ep, h1, h2, h3, h4, h5⟩, ⟨o, h1⟩, fun h1 h2 ⟨a1, a2, xs, a3, o, es, ep, b1, b2⟩ k => ⟨a1, a2, xs, a3, o, es, ep, k _ b1, b2⟩⟩
/-! ### the rules -/
section
variable {X : Cx} {o i k v value : Expr} {pos pos' tpos : Pos} {td ty tk tv : TE}
/-- tuple(xs) of a list, told by its very object -/
def kTupF (K : PySem.W.Frag) (x : V) (H : Hp) (Q : VK) : Prop := ∃ p xs, x = .ref p ∧ SqL K H p xs ∧ ∀ q ob, H q = none → ob.dict = none → Q (.ref q) (upd H q (.frz ob (.tup xs)))
theorem pe_tupleF {a : Expr} {ta : TE} {p : Pos} (hg : Gl X "tuple") (hm : X.mg "tuple" = none) (ha : PE X a ta) (na : starEach [a] X.env = (false, eval a X.env) :: starEach [] X.env := by rfl) : PE X (.Call (.Name "tuple" p) [a] [] pos) (tThen ta (kTupF X.K)) := by
  refine ⟨fun pins s σ H Q I h => ?_⟩
  refine Call_ (ld_blt I hg hm boot_tuple (PyProof.Rows.callWith_type1 (one_arg ha I h (fun v s2 x H2 I2 r q => ?_) na) na))
  obtain ⟨p, xs, rfl, hs, q⟩ := q
  obtain rfl : v = .ref p := r
  obtain ⟨its, rv, pl, hz⟩ := I2.list hs
  refine call_tuple_list pl.isList (fun h' hk => ?_) (by rw [List.size_toArray, ← rv.length]; exact hz)
  have I3 : Inv X pins σ H2 { s2 with heap := h' } := I2.kept (t' := s2.toks) hk
  have e : (h'.push { cls := .type "tuple", data := .seq its.toArray }).get? h'.objs.size = some { cls := .type "tuple", data := .seq its.toArray } := Heap.get?_push_size _ rfl
  have I4 : Inv X pins σ (upd H2 h'.objs.size (.frz { cls := .type "tuple", data := .seq its.toArray } (.tup xs))) { s2 with heap := h'.push { cls := .type "tuple", data := .seq its.toArray } } :=
    I3.laid (t' := s2.toks) (fun b o e => Heap.get?_push_of_some _ e) (Nat.le_refl _) ⟨e, hz, its, rv, IsTup.new _ _⟩
  exact ⟨.ref h'.objs.size, _, I4, rfl, q _ _ (I3.hok.fresh (Nat.le_refl _)) rfl⟩
/-- t.index(k) -/
def tTIdxF (to te : TE) : TE := fun σ H Q => to σ H fun x H1 => ∃ (p : Addr) (ns : List Int), x = .ref p ∧ FT H1 p ns ∧ te σ H1 fun y H2 => ∃ k : Int, y = .int k ∧ FT H2 p ns ∧ k ∈ ns ∧ Q (.int (ns.idxOf k : Nat)) H2
theorem pe_tidxF {e : Expr} {to te : TE} {apos cpos : Pos} (ho : PE X o to) (he : PE X e te)
    (hbase : attributeBase o "index" X.env (eval o X.env) = eval o X.env := by rfl) (hline : (apos.endLine == cpos.line) = true := by rfl) (htrees : backTo cpos (starEach [e] X.env) = [(false, eval e X.env)] := by rfl) :
    PE X (.Call (.Attribute o "index" apos) [e] [] cpos) (tTIdxF to te) := by
  refine ⟨fun pins s σ H Q I h => ?_⟩
  refine wpAny_Call_method1_late hbase hline htrees (thn (ho.run pins s σ H _ I h) fun v s1 ⟨x, H1, I1, r1, p, ns, ex, ⟨ob, hp, hdn⟩, q1⟩ => ?_)
  subst ex
  obtain rfl : v = Value.ref p := r1
  obtain ⟨g, z, its, rv, hl⟩ := (show ObjOk X.prog X.w H1 s1.heap p (.frz ob (.tup (ns.map V.int))) from I1.hok p _ hp)
  have tI : s1.TypeIs (.ref p) "tuple" := let ⟨o, ho, hc, _⟩ := hl; ⟨o, ho, hc⟩
  refine ⟨"tuple", "tuple.index", PySem.F.plainAttrs_tuple, PySem.F.slot_tuple_index, PySem.F.type_tuple_index, tI, fun b eb => by cases eb; exact ⟨ob, g, hdn⟩, ?_⟩
  refine Calls.callWith_builtin rfl (Calls.evalArgs_plain (Calls.spliced_cons (thn (he.run pins s1 σ H1 _ I1 q1) fun iv s2 ⟨y, H2, I2, ry, k, ey, ⟨ob2, hp2, _⟩, hk, q2⟩ => Calls.spliced_nil ?_)))
  subst ey
  obtain ⟨t, rfl⟩ := (show ∃ t, iv = Value.int k t from ry)
  obtain ⟨_, _, its2, rv2, hl2⟩ := (show ObjOk X.prog X.w H2 s2.heap p (.frz ob2 (.tup (ns.map V.int))) from I2.hok p _ hp2)
  exact PySem.SeqAt.tuple_index_ints hl2 rv2.ints hk ⟨.int (ns.idxOf k : Nat), H2, I2.tok _, ⟨_, rfl⟩, q2⟩
end
end RH
set_option Elab.async false
set_option linter.all false
set_option maxRecDepth 100000
set_option maxHeartbeats 2000000
namespace RH
open PySem PySem.Spec PyProof.Rows L2
def topS (i : Nat) : Stmt := PySem.Challenge.pw_restlesshelf_k17_whole_looks.main.body.getD i (.Pass ⟨0, 0, 0, 0⟩)
abbrev st_is_integer : Stmt := topS 11
theorem sc_is_integer : FnScope ["value"] ["value"] (defScope st_is_integer) :=
  ⟨rfl, rfl, rfl, by decide +kernel, rfl, by decide +kernel, by decide +kernel⟩
abbrev st_is_number : Stmt := topS 12
theorem sc_is_number : FnScope ["value", "low", "high"] ["value", "low", "high"] (defScope st_is_number) :=
  ⟨rfl, rfl, rfl, by decide +kernel, rfl, by decide +kernel, by decide +kernel⟩
abbrev st_is_row : Stmt := topS 13
theorem sc_is_row : FnScope ["value", "low", "high"] ["value", "low", "high"] (defScope st_is_row) :=
  ⟨rfl, rfl, rfl, by decide +kernel, rfl, by decide +kernel, by decide +kernel⟩
abbrev st_is_place : Stmt := topS 14
theorem sc_is_place : FnScope ["value", "places"] ["value", "places"] (defScope st_is_place) :=
  ⟨rfl, rfl, rfl, by decide +kernel, rfl, by decide +kernel, by decide +kernel⟩
abbrev st_are_places : Stmt := topS 15
theorem sc_are_places : FnScope ["value", "places", "place"] ["value", "places"] (defScope st_are_places) :=
  ⟨rfl, rfl, rfl, by decide +kernel, rfl, by decide +kernel, by decide +kernel⟩
abbrev st_is_layout : Stmt := topS 16
theorem sc_is_layout : FnScope ["value", "places"] ["value", "places"] (defScope st_is_layout) :=
  ⟨rfl, rfl, rfl, by decide +kernel, rfl, by decide +kernel, by decide +kernel⟩
abbrev st_is_word : Stmt := topS 17
theorem sc_is_word : FnScope ["value", "places"] ["value", "places"] (defScope st_is_word) :=
  ⟨rfl, rfl, rfl, by decide +kernel, rfl, by decide +kernel, by decide +kernel⟩
abbrev st_check_number : Stmt := topS 18
theorem sc_check_number : FnScope ["value", "low", "high"] ["value", "low", "high"] (defScope st_check_number) :=
  ⟨rfl, rfl, rfl, by decide +kernel, rfl, by decide +kernel, by decide +kernel⟩
abbrev st_check_habit : Stmt := topS 19
theorem sc_check_habit : FnScope ["habit", "place", "moves"] ["habit"] (defScope st_check_habit) :=
  ⟨rfl, rfl, rfl, by decide +kernel, rfl, by decide +kernel, by decide +kernel⟩
abbrev st_check_layout : Stmt := topS 20
theorem sc_check_layout : FnScope ["layout", "places"] ["layout", "places"] (defScope st_check_layout) :=
  ⟨rfl, rfl, rfl, by decide +kernel, rfl, by decide +kernel, by decide +kernel⟩
abbrev st_check_place : Stmt := topS 21
theorem sc_check_place : FnScope ["place", "places"] ["place", "places"] (defScope st_check_place) :=
  ⟨rfl, rfl, rfl, by decide +kernel, rfl, by decide +kernel, by decide +kernel⟩
abbrev st_check_word : Stmt := topS 22
theorem sc_check_word : FnScope ["word", "places"] ["word", "places"] (defScope st_check_word) :=
  ⟨rfl, rfl, rfl, by decide +kernel, rfl, by decide +kernel, by decide +kernel⟩
abbrev st_places_of_habit : Stmt := topS 24
theorem sc_places_of_habit : FnScope ["habit"] ["habit"] (defScope st_places_of_habit) :=
  ⟨rfl, rfl, rfl, by decide +kernel, rfl, by decide +kernel, by decide +kernel⟩
abbrev st_move : Stmt := topS 25
theorem sc_move : FnScope ["habit", "layout", "place", "moves", "stood"] ["habit", "layout", "place"] (defScope st_move) :=
  ⟨rfl, rfl, rfl, by decide +kernel, rfl, by decide +kernel, by decide +kernel⟩
abbrev st_move_along : Stmt := topS 26
theorem sc_move_along : FnScope ["habit", "layout", "word", "place"] ["habit", "layout", "word"] (defScope st_move_along) :=
  ⟨rfl, rfl, rfl, by decide +kernel, rfl, by decide +kernel, by decide +kernel⟩
abbrev st_book_at : Stmt := topS 28
theorem sc_book_at : FnScope ["habit", "layout", "word", "place"] ["habit", "layout", "word", "place"] (defScope st_book_at) :=
  ⟨rfl, rfl, rfl, by decide +kernel, rfl, by decide +kernel, by decide +kernel⟩
abbrev st_books_of : Stmt := topS 29
theorem sc_books_of : FnScope ["habit", "layout", "word", "books", "place"] ["habit", "layout", "word"] (defScope st_books_of) :=
  ⟨rfl, rfl, rfl, by decide +kernel, rfl, by decide +kernel, by decide +kernel⟩
abbrev st_loss_shown : Stmt := topS 30
theorem sc_loss_shown : FnScope ["habit", "layout", "word", "spot", "stands", "should_stand", "at", "place"] ["habit", "layout", "word", "spot"] (defScope st_loss_shown) :=
  ⟨rfl, rfl, rfl, by decide +kernel, rfl, by decide +kernel, by decide +kernel⟩
abbrev st_hidden_losses : Stmt := topS 31
theorem sc_hidden_losses : FnScope ["habit", "layout", "word", "nothing_moves", "spot", "place"] ["habit", "layout", "word"] (defScope st_hidden_losses) :=
  ⟨rfl, rfl, rfl, by decide +kernel, rfl, by decide +kernel, by decide +kernel⟩
abbrev st_check_word_on_shelf : Stmt := topS 32
theorem sc_check_word_on_shelf : FnScope ["habit", "layout", "word"] ["habit", "layout", "word"] (defScope st_check_word_on_shelf) :=
  ⟨rfl, rfl, rfl, by decide +kernel, rfl, by decide +kernel, by decide +kernel⟩
abbrev st__law_taken : Stmt := topS 34
theorem sc__law_taken : FnScope ["row", "many", "found", "cell"] ["row", "many"] (defScope st__law_taken) :=
  ⟨rfl, rfl, rfl, by decide +kernel, rfl, by decide +kernel, by decide +kernel⟩
abbrev st__law_order : Stmt := topS 35
theorem sc__law_order : FnScope ["row", "many", "left", "found"] ["row", "many"] (defScope st__law_order) :=
  ⟨rfl, rfl, rfl, by decide +kernel, rfl, by decide +kernel, by decide +kernel⟩
abbrev st__law_habit : Stmt := topS 36
theorem sc__law_habit : FnScope ["row", "places", "way", "found", "place", "moved", "other", "spot"] ["row", "places"] (defScope st__law_habit) :=
  ⟨rfl, rfl, rfl, by decide +kernel, rfl, by decide +kernel, by decide +kernel⟩
abbrev st__law_touch : Stmt := topS 37
theorem sc__law_touch : FnScope ["habit", "layout", "place", "spot"] ["habit", "layout", "place"] (defScope st__law_touch) :=
  ⟨rfl, rfl, rfl, by decide +kernel, rfl, by decide +kernel, by decide +kernel⟩
abbrev st__law_books : Stmt := topS 38
theorem sc__law_books : FnScope ["habit", "layout", "word", "found", "place"] ["habit", "layout", "word"] (defScope st__law_books) :=
  ⟨rfl, rfl, rfl, by decide +kernel, rfl, by decide +kernel, by decide +kernel⟩
abbrev st__law_alike : Stmt := topS 39
theorem sc__law_alike : FnScope ["found", "due", "k"] ["found", "due"] (defScope st__law_alike) :=
  ⟨rfl, rfl, rfl, by decide +kernel, rfl, by decide +kernel, by decide +kernel⟩
abbrev st_law : Stmt := topS 40
theorem sc_law : FnScope ["script", "row", "places", "habit", "layout", "word", "books", "end", "place", "hidden", "spot", "others", "stands", "bad", "due", "turn", "at"] ["script"] (defScope st_law) :=
  ⟨rfl, rfl, rfl, by decide +kernel, rfl, by decide +kernel, by decide +kernel⟩
/-! ### what the top has written -/
/-- the def x of the text stands in the module under its name -/
structure Df (K : PySem.W.Frag) (mg : Str → Option Value) (x : Str) (st : Stmt) (ps : List Str) : Prop where
  ex : ∃ (f : Addr) (fd : FuncData), Fun K x x st f fd ∧ mg x = some (.ref f) ∧ Binds K fd ps []
/-- names of the interpreter that the module leaves alone -/
structure Bu (mg : Str → Option Value) : Prop where
  isi : mg "isinstance" = none
  int : mg "int" = none
  bool : mg "bool" = none
  str : mg "str" = none
  tuple : mg "tuple" = none
  list : mg "list" = none
  len : mg "len" = none
  all : mg "all" = none
  zip : mg "zip" = none
  range : mg "range" = none
  sorted : mg "sorted" = none
  enumerate : mg "enumerate" = none
  max : mg "max" = none
section
variable {P : Program} {w : World} {K : PySem.W.Frag} {mg : Str → Option Value} {base : Heap}
/-- a def that may be called by its name -/
structure Cal (P : Program) (w : World) (K : PySem.W.Frag) (mg : Str → Option Value) (base : Heap) (k : Nat) (x : Str) (sp : Sp) : Prop where
  ex : ∃ (f : Addr) (fd : FuncData) (ps : List Str), FnOk P w K mg base CX0 k f fd ps sp ∧ mg x = some (.ref f) ∧ PySem.W.keepIn K (.ref f) = true ∧ Binds K fd ps []
theorem mkCal {x : Str} {st : Stmt} {N ps : List Str} {k : Nat} {sp : Sp} (F : Df K mg x st ps) (S : FnScope N ps (defScope st)) (len : ∀ vs H Q E, sp vs H Q E → vs.length = ps.length)
    (hbody : ∀ (f : Addr) (cdv : Value) (A : Around) (outer : List Env) (s : Shared) (H : Hp) (vs : List V) (Q : VK) (E : XK), Room k (A.deeper (envOfC x (defScope st) s.heap.objs.size f cdv)) → sp vs H Q E →
      ∃ t, PSs (cxOf CX0 P w K mg base N x (defScope st) f cdv A outer s H E).nox (defBody st) t ∧ t { nx := fun _ H' => Q .non H', rt := Q } (start N vs) H) : Cal P w K mg base (k + 1) x sp := by
  obtain ⟨f, fd, F, g, b⟩ := F.ex
  exact ⟨f, fd, ps, F.ok S len (hbody f), g, F.kp, b⟩
theorem Cal.imp {k : Nat} {x : Str} {sp sp' : Sp} (c : Cal P w K mg base k x sp) (h : ∀ vs H Q E, sp' vs H Q E → sp vs H Q E) : Cal P w K mg base k x sp' := by
  obtain ⟨f, fd, ps, F, g, kp, b⟩ := c.ex
  exact ⟨f, fd, ps, F.imp h, g, kp, b⟩
end
theorem pc {X : Cx} {k j : Nat} {x : Str} {sp : Sp} {p pos : Pos} {e : Expr} {es : List Expr} {t : TA} (c : Cal X.prog X.w X.K X.mg X.base k x sp) (hr : Room j X.A) (ha : PA X (e :: es) t) (hk : k ≤ j := by decide) (hg : Gl X x := by rfl)
    (hdb : (x == ("__debug__" : Str)) = false := by decide) (he : starEach (e :: es) X.env = (false, eval e X.env) :: starEach es X.env := by rfl) (hpl : (backTo pos (starEach es X.env)).any (·.1) = false := by rfl) :
    PE X (.Call (.Name x p) (e :: es) [] pos) (tCall sp [] E0 t) := by
  obtain ⟨f, fd, ps, F, hm, kp, b⟩ := c.ex
  exact pe_call F (hr.mono hk) hg hm kp b .nil pass0 ha hdb he hpl
/-- a statement that is never come to -/
theorem ps_no {X : Cx} {st : Stmt} : PS X st (fun _ _ _ => False) := ⟨fun _ _ _ _ _ _ h => h.elim⟩
/-! ### heaps, tuples of ints, and of such -/
theorem same_new {H : Hp} {p : Addr} {o : HO} (h : H p = none) : Same H (upd H p o) := fun b x e => by
  rw [upd_ne (ne_of_none e h)]
  exact e
theorem seqT {K : PySem.W.Frag} {H H' : Hp} {a : Addr} {xs : List V} (e : ∀ o, H a = some o → H' a = some o) (h : SqT K H a xs) : SqT K H' a xs := by
  rcases h with (h | ⟨o, h⟩) | h
  · exact .inl (.inl (e _ h))
  · exact .inl (.inr ⟨o, e _ h⟩)
  · exact .inr h
theorem onT {K : PySem.W.Frag} {H H' : Hp} {a : Addr} {xs : List V} (e : Same H H') (h : SqT K H a xs) : SqT K H' a xs := seqT (fun o => e a o) h
theorem tupAt {K : PySem.W.Frag} {H : Hp} {a : Addr} {xs : List V} (h : H a = some (.tup xs)) : SqT K H a xs := .inl (.inl h)
theorem lstAt {K : PySem.W.Frag} {H : Hp} {a : Addr} {xs : List V} (h : H a = some (.lst xs)) : SqL K H a xs := .inl (.inl h)
/-- a tuple's type -/
theorem ty_tup {K : PySem.W.Frag} {H : Hp} {a : Addr} {xs : List V} (h : SqT K H a xs) : TyX K H (.ref a) (.type "tuple") := by
  rcases h with (h | ⟨o, h⟩) | ⟨o, its, n, h, c, _⟩
  · exact .base (.tup h)
  · exact .fTuple h
  · exact .kTuple h c
/-- each by each -/
inductive Each {α : Type} (R : V → α → Prop) : List V → List α → Prop
  | nil : Each R [] []
  | cons {v : V} {d : α} {vs : List V} {ds : List α} : R v d → Each R vs ds → Each R (v :: vs) (d :: ds)
theorem Each.len {α : Type} {R : V → α → Prop} : ∀ {vs : List V} {ds : List α}, Each R vs ds → vs.length = ds.length
  | _, _, .nil => rfl
  | _, _, .cons _ t => congrArg (· + 1) t.len
theorem Each.imp {α : Type} {R R' : V → α → Prop} (f : ∀ v d, R v d → R' v d) : ∀ {vs : List V} {ds : List α}, Each R vs ds → Each R' vs ds
  | _, _, .nil => .nil
  | _, _, .cons h t => .cons (f _ _ h) (t.imp f)
theorem Each.at {α : Type} {R : V → α → Prop} : ∀ {vs : List V} {ds : List α} {i : Nat} {v : V}, Each R vs ds → vs[i]? = some v → ∃ d, ds[i]? = some d ∧ R v d
  | _, _, _, _, .nil, e => by simp at e
  | _, _, 0, _, .cons h _, e => by
    have e' := Option.some.inj e
    subst e'
    exact ⟨_, rfl, h⟩
  | _, _, i + 1, _, .cons _ t, e => t.at (i := i) e
theorem Each.of {α : Type} {R : V → α → Prop} : ∀ {vs : List V} {ds : List α} {i : Nat} {d : α}, Each R vs ds → ds[i]? = some d → ∃ v, vs[i]? = some v ∧ R v d
  | _, _, _, _, .nil, e => by simp at e
  | _, _, 0, _, .cons h _, e => by
    have e' := Option.some.inj e
    subst e'
    exact ⟨_, rfl, h⟩
  | _, _, i + 1, _, .cons _ t, e => t.of (i := i) e
theorem Each.snoc {α : Type} {R : V → α → Prop} {v : V} {d : α} (h : R v d) : ∀ {vs : List V} {ds : List α}, Each R vs ds → Each R (vs ++ [v]) (ds ++ [d])
  | _, _, .nil => .cons h .nil
  | _, _, .cons g t => .cons g (t.snoc h)
/-- a tuple of ints -/
def TI (K : PySem.W.Frag) (H : Hp) (v : V) (ns : List Int) : Prop := ∃ a, v = .ref a ∧ SqT K H a (ns.map V.int)
/-- a tuple of such -/
def TII (K : PySem.W.Frag) (H : Hp) (v : V) (nss : List (List Int)) : Prop := ∃ a vs, v = .ref a ∧ SqT K H a vs ∧ Each (TI K H) vs nss
def THs (K : PySem.W.Frag) (H : Hp) (v : V) (hs : List (List (List Int))) : Prop := ∃ a vs, v = .ref a ∧ SqT K H a vs ∧ Each (TII K H) vs hs
/-- all tuples stand -/
def Tups (K : PySem.W.Frag) (H H' : Hp) : Prop := ∀ a xs, SqT K H a xs → SqT K H' a xs
theorem Same.tups {K : PySem.W.Frag} {H H' : Hp} (e : Same H H') : Tups K H H' := fun _ _ h => onT e h
theorem TI.on {K : PySem.W.Frag} {H H' : Hp} {v : V} {ns : List Int} (e : Tups K H H') (h : TI K H v ns) : TI K H' v ns := let ⟨a, h1, h2⟩ := h; ⟨a, h1, e _ _ h2⟩
theorem TII.on {K : PySem.W.Frag} {H H' : Hp} {v : V} {nss : List (List Int)} (e : Tups K H H') (h : TII K H v nss) : TII K H' v nss := let ⟨a, vs, h1, h2, h3⟩ := h; ⟨a, vs, h1, e _ _ h2, h3.imp fun _ _ z => z.on e⟩
theorem THs.on {K : PySem.W.Frag} {H H' : Hp} {v : V} {hs : List (List (List Int))} (e : Tups K H H') (h : THs K H v hs) : THs K H' v hs := let ⟨a, vs, h1, h2, h3⟩ := h; ⟨a, vs, h1, e _ _ h2, h3.imp fun _ _ z => z.on e⟩
theorem map_at {ns : List Int} {i : Nat} {x : V} (h : (ns.map V.int)[i]? = some x) : ∃ n, ns[i]? = some n ∧ x = .int n := by
  rw [List.getElem?_map] at h
  cases e : ns[i]? with
  | none =>
    rw [e] at h
    cases h
  | some n =>
    rw [e] at h
    exact ⟨n, rfl, (Option.some.inj h).symm⟩
theorem at_map {ns : List Int} {i : Nat} {n : Int} (h : ns[i]? = some n) : (ns.map V.int)[i]? = some (.int n) := by
  rw [List.getElem?_map, h]
  rfl
theorem all_snoc {α : Type} (f : α → Bool) {l : List α} {i : Nat} {x : α} (h : l[i]? = some x) : (l.take (i + 1)).map f = (l.take i).map f ++ [f x] := by
  rw [List.take_add_one, h, List.map_append]
  rfl
/-! ### lists of ints, compared -/
theorem dpAll_ints {K : PySem.W.Frag} {H : Hp} : ∀ ns : List Int, DpAll K H (ns.map V.int) (ns.map PyData.int)
  | [] => .nil
  | n :: ns => .cons (.int n) (dpAll_ints ns)
theorem dp_lst {K : PySem.W.Frag} {H : Hp} {a : Addr} {ns : List Int} (h : SqL K H a (ns.map V.int)) : Dp K H (.ref a) (.list (ns.map PyData.int)) := .lst h (dpAll_ints ns)
theorem dp_tup {K : PySem.W.Frag} {H : Hp} {a : Addr} {ns : List Int} (h : SqT K H a (ns.map V.int)) : Dp K H (.ref a) (.tuple (ns.map PyData.int)) := .tup h (dpAll_ints ns)
theorem eqv_lst (ns ms : List Int) : PyData.eqv (.list (ns.map PyData.int)) (.list (ms.map PyData.int)) = decide (ns = ms) := by
  rw [PyData.eqv]
  exact PySem.W.ked_eqvAll ns ms
def rg (n : Nat) : List Int := (List.range n).map fun i : Nat => (i : Int)
theorem rgV_rg (n : Nat) : rgV 0 (n : Int) = (rg n).map V.int := by
  unfold rgV rg
  rw [List.map_map, Int.sub_zero, Int.toNat_natCast]
  refine List.map_congr_left fun i _ => ?_
  show V.int (0 + (i : Int)) = V.int (i : Int)
  rw [Int.zero_add]
theorem rg_len (n : Nat) : (rg n).length = n := by
  unfold rg
  rw [List.length_map, List.length_range]
theorem rg_mem {n : Nat} {x : Int} : x ∈ rg n ↔ 0 ≤ x ∧ x < n := by
  unfold rg
  rw [List.mem_map]
  constructor
  · rintro ⟨i, h, rfl⟩
    have := List.mem_range.mp h
    omega
  · rintro ⟨h1, h2⟩
    exact ⟨x.toNat, List.mem_range.mpr (by omega), by omega⟩
theorem rg_at {n i : Nat} (h : i < n) : (rg n)[i]? = some (i : Int) := by
  unfold rg
  rw [List.getElem?_map, List.getElem?_range h]
  rfl
/-! ### walks over enumerate and zip of tuples -/
section
variable {K : PySem.W.Frag} {a b : Addr} {xs ys : List V}
theorem lc_enumT {g : TG} {tt : TT} {te : TE} {vs : List Nat} {σ : L2.St} {H1 : Hp} {D : Addr} {Qd : Hp → Prop} (Pv : Nat → Hp → Prop) (h0 : Pv 0 (upd H1 D (.lst []))) (hl : ∀ i H, Pv i H → SqT K H a xs)
    (hs : ∀ i x T H, xs[i]? = some x → Pv i H → H T = none → g (.ref T) (wipe σ vs) (upd H T (.tup [.int (i : Nat), x])) fun σ2 H2 => wipe σ2 vs = wipe σ vs ∧ tt σ2 H2 fun k H3 =>
      if k = true then te σ2 H3 fun y H4 => ∃ acc, H4 D = some (.lst acc) ∧ acc.length < sizeLine ∧ Pv (i + 1) (upd H4 D (.lst (acc ++ [y]))) else Pv (i + 1) H3) (hd : ∀ H, Pv xs.length H → Qd H) :
    ∃ W : Nat → Nat → Hp → Prop, (∃ m, W 0 m (upd H1 D (.lst []))) ∧ ∀ i m H, W i m H →
      ((IteT K a).stop i H ∧ Qd H) ∨ ((IteT K a).go i H ∧ ∃ Nx : Hp → Prop, (∀ H', Nx H' → ∃ m', m' < m ∧ W (i + 1) m' H') ∧ ∀ x H', (IteT K a).yld i H x H' → g x (wipe σ vs) H' fun σ2 H2 => wipe σ2 vs = wipe σ vs ∧ tt σ2 H2 fun k H3 =>
        if k = true then te σ2 H3 fun y H4 => ∃ acc, H4 D = some (.lst acc) ∧ acc.length < sizeLine ∧ Nx (upd H4 D (.lst (acc ++ [y]))) else Nx H3) := by
  refine ⟨fun i m H => m = xs.length - i ∧ i ≤ xs.length ∧ Pv i H, ⟨xs.length, rfl, Nat.zero_le _, h0⟩, ?_⟩
  rintro i m H ⟨rfl, hi, p⟩
  have q := hl i H p
  by_cases hlt : i < xs.length
  · have hx : xs[i]? = some xs[i] := List.getElem?_eq_getElem hlt
    refine .inr ⟨⟨xs, _, q, hx⟩, Pv (i + 1), fun H' p' => ⟨xs.length - (i + 1), by omega, rfl, hlt, p'⟩, fun v H' y => ?_⟩
    obtain ⟨T, x', rfl, hT, rfl, f1⟩ := y
    exact hs i x' T H (f1 xs q) p hT
  · have e : i = xs.length := by omega
    subst e
    exact .inl ⟨⟨xs, q, Nat.le_refl _⟩, hd H p⟩
theorem for_enumT {g : TG} {tb : TS} {D : Ends} {σ : L2.St} {H : Hp} (Pv : Nat → L2.St → Hp → Prop) (h0 : Pv 0 σ H) (hl : ∀ i σ H, Pv i σ H → SqT K H a xs)
    (hs : ∀ i x T σ H, xs[i]? = some x → Pv i σ H → H T = none → g (.ref T) σ (upd H T (.tup [.int (i : Nat), x])) fun σ2 H2 => tb { D with nx := Pv (i + 1), ct := Pv (i + 1), bk := D.nx } σ2 H2) (hd : ∀ σ H, Pv xs.length σ H → D.nx σ H) :
    ∃ W : Nat → Nat → L2.St → Hp → Prop, (∃ m, W 0 m σ H) ∧ ∀ i m σ H, W i m σ H →
      ((IteT K a).stop i H ∧ D.nx σ H) ∨ ((IteT K a).go i H ∧ ∃ N : L2.St → Hp → Prop, (∀ σ' H', N σ' H' → ∃ m', m' < m ∧ W (i + 1) m' σ' H') ∧ ∀ x H', (IteT K a).yld i H x H' → g x σ H' fun σ2 H2 => tb { D with nx := N, ct := N, bk := D.nx } σ2 H2) := by
  refine ⟨fun i m σ H => m = xs.length - i ∧ i ≤ xs.length ∧ Pv i σ H, ⟨xs.length, rfl, Nat.zero_le _, h0⟩, ?_⟩
  rintro i m σ H ⟨rfl, hi, p⟩
  have q := hl i σ H p
  by_cases hlt : i < xs.length
  · have hx : xs[i]? = some xs[i] := List.getElem?_eq_getElem hlt
    refine .inr ⟨⟨xs, _, q, hx⟩, Pv (i + 1), fun σ' H' p' => ⟨xs.length - (i + 1), by omega, rfl, hlt, p'⟩, fun v H' y => ?_⟩
    obtain ⟨T, x', rfl, hT, rfl, f1⟩ := y
    exact hs i x' T σ H (f1 xs q) p hT
  · have e : i = xs.length := by omega
    subst e
    exact .inl ⟨⟨xs, q, Nat.le_refl _⟩, hd σ H p⟩
end
end RH
set_option Elab.async false
set_option linter.all false
set_option maxRecDepth 100000
set_option maxHeartbeats 2000000
namespace RH
open PySem PySem.Spec PyProof.Rows L2
/-! ### the checks -/
section
variable {P : Program} {w : World} {K : PySem.W.Frag} {mg : Str → Option Value} {base : Heap}
/-- an int alone: its kind -/
def spIsInteger : Sp := fun vs H Q _ => ∃ i : Int, vs = [.int i] ∧ Q (.bl true) H
theorem ok_is_integer (F : Df K mg "is_integer" st_is_integer ["value"]) (B : Bu mg) : Cal P w K mg base 1 "is_integer" spIsInteger := by
  refine mkCal F sc_is_integer (fun vs H Q E h => ?_) (fun f cdv A outer s H vs Q E hr h => ?_)
  · obtain ⟨i, rfl, _⟩ := h
    rfl
  · obtain ⟨i, rfl, q⟩ := h
    refine ⟨_, pss_one (ps_ret (pe_and (pe_callB call_isi (by rfl) B.isi (by decide +kernel) (pa_cons (pv 0) (pa_cons (pe_bltn (v := .ty "int") (by rfl) B.int (by decide +kernel) rfl) pa_nil)))
      (pe_one (pe_not (pe_callB call_isi (by rfl) B.isi (by decide +kernel) (pa_cons (pv 0) (pa_cons (pe_bltn (v := .ty "bool") (by rfl) B.bool (by decide +kernel) rfl) pa_nil))))))), ?_⟩
    exact ⟨_, rfl, .int i, .ty "int", _, _, true, rfl, .ty "int", .base (.int i), kit_ty (by decide +kernel), true, rfl,
      _, rfl, .int i, .ty "bool", _, _, false, rfl, .ty "bool", .base (.int i), kit_ty (by decide +kernel), false, rfl, q⟩
def spIsNumber : Sp := fun vs H Q _ => ∃ i lo hi : Int, vs = [.int i, .int lo, .int hi] ∧ Q (.bl (decide (lo ≤ i) && decide (i ≤ hi))) H
theorem ok_is_number (F : Df K mg "is_number" st_is_number ["value", "low", "high"]) (C1 : Cal P w K mg base 1 "is_integer" spIsInteger) : Cal P w K mg base 2 "is_number" spIsNumber := by
  refine mkCal F sc_is_number (fun vs H Q E h => ?_) (fun f cdv A outer s H vs Q E hr h => ?_)
  · obtain ⟨i, lo, hi, rfl, _⟩ := h
    rfl
  · obtain ⟨i, lo, hi, rfl, q⟩ := h
    refine ⟨_, pss_one (ps_ret (pe_and (pc C1 hr (pa_cons (pv 0) pa_nil)) (pe_one (pe_chain op_le op_le (pv 1) (pv 0) (pv 2))))), ?_⟩
    refine ⟨_, rfl, i, rfl, true, rfl, _, rfl, _, rfl, lo, i, rfl, rfl, _, rfl, ite2 (fun e => ?_) (fun e => ?_)⟩
    · refine ⟨_, rfl, i, hi, rfl, rfl, ?_⟩
      rw [e, Bool.true_and] at q
      exact q
    · have e' : decide (lo ≤ i) = false := by simpa using e
      rw [e', Bool.false_and] at q
      exact q
end
end RH
set_option Elab.async false
set_option linter.all false
set_option maxRecDepth 100000
set_option maxHeartbeats 2000000
namespace RH
open PySem PySem.Spec PyProof.Rows L2
section
variable {P : Program} {w : World} {K : PySem.W.Frag} {mg : Str → Option Value} {base : Heap}
def spIsRow (K : PySem.W.Frag) : Sp := fun vs H Q _ => ∃ (a : Addr) (xs : List V) (lo hi : Int), vs = [.ref a, .int lo, .int hi] ∧ SqT K H a xs ∧ Q (.bl (decide (lo ≤ (xs.length : Int)) && decide ((xs.length : Int) ≤ hi))) H
theorem ok_is_row (F : Df K mg "is_row" st_is_row ["value", "low", "high"]) (B : Bu mg) : Cal P w K mg base 1 "is_row" (spIsRow K) := by
  refine mkCal F sc_is_row (fun vs H Q E h => ?_) (fun f cdv A outer s H vs Q E hr h => ?_)
  · obtain ⟨a, xs, lo, hi, rfl, _⟩ := h
    rfl
  · obtain ⟨a, xs, lo, hi, rfl, hS, q⟩ := h
    refine ⟨_, pss_one (ps_ret (pe_and (pe_callB call_isi (by rfl) B.isi (by decide +kernel) (pa_cons (pv 0) (pa_cons (pe_bltn (v := .ty "tuple") (by rfl) B.tuple (by decide +kernel) rfl) pa_nil)))
      (pe_one (pe_chain op_le op_le (pv 1) (pe_callB call_len_seq (by rfl) B.len PySem.boot_len (pa_cons (pv 0) pa_nil)) (pv 2))))), ?_⟩
    refine ⟨_, rfl, .ref a, .ty "tuple", _, _, true, rfl, .ty "tuple", ty_tup hS, kit_ty (by decide +kernel), true, rfl, _, rfl, _, rfl, a, xs, rfl, .inr hS, lo, (xs.length : Int), rfl, rfl, _, rfl, ite2 (fun e => ?_) (fun e => ?_)⟩
    · refine ⟨_, rfl, _, hi, rfl, rfl, ?_⟩
      rw [e, Bool.true_and] at q
      exact q
    · have e' : decide (lo ≤ (xs.length : Int)) = false := by simpa using e
      rw [e', Bool.false_and] at q
      exact q
def spIsPlace : Sp := fun vs H Q _ => ∃ i p : Int, vs = [.int i, .int p] ∧ Q (.bl (decide (0 ≤ i) && decide (i ≤ p - 1))) H
theorem ok_is_place (F : Df K mg "is_place" st_is_place ["value", "places"]) (C2 : Cal P w K mg base 2 "is_number" spIsNumber) : Cal P w K mg base 3 "is_place" spIsPlace := by
  refine mkCal F sc_is_place (fun vs H Q E h => ?_) (fun f cdv A outer s H vs Q E hr h => ?_)
  · obtain ⟨i, p, rfl, _⟩ := h
    rfl
  · obtain ⟨i, p, rfl, q⟩ := h
    refine ⟨_, pss_one (ps_ret (pc C2 hr (pa_cons (pv 0) (pa_cons pe_int (pa_cons (pe_op op_sub (pv 1) pe_int) pa_nil))))), ?_⟩
    exact ⟨_, rfl, _, rfl, p, 1, rfl, rfl, i, 0, p - 1, rfl, q⟩
/-- all are places -/
def inP (p : Int) (ns : List Int) : Bool := ns.all fun i => decide (0 ≤ i) && decide (i ≤ p - 1)
def spArePlaces (K : PySem.W.Frag) : Sp := fun vs H Q _ => ∃ (v : V) (ns : List Int) (p : Int), vs = [v, .int p] ∧ TI K H v ns ∧ ns.length ≤ 1000 ∧ ∀ H', Same H H' → Q (.bl (inP p ns)) H'
theorem ok_are_places (F : Df K mg "are_places" st_are_places ["value", "places"]) (B : Bu mg) (C3 : Cal P w K mg base 3 "is_place" spIsPlace) : Cal P w K mg base 4 "are_places" (spArePlaces K) := by
  refine mkCal F sc_are_places (fun vs H Q E h => ?_) (fun f cdv A outer s H vs Q E hr h => ?_)
  · obtain ⟨v, ns, p, rfl, _⟩ := h
    rfl
  · obtain ⟨v, ns, p, rfl, ⟨a, rfl, hS⟩, hlen, q⟩ := h
    refine ⟨_, pss_one (ps_ret (pe_and (pe_callB call_isi (by rfl) B.isi (by decide +kernel) (pa_cons (pv 0) (pa_cons (pe_bltn (v := .ty "tuple") (by rfl) B.tuple (by decide +kernel) rfl) pa_nil)))
      (pe_one (pe_callB (cr_all rfl) (by rfl) B.all (by decide +kernel) (pa_cons (pe_lc (own := [("place", 2)]) (g := gName 2) (tt := tYes) rfl sc_are_places.nd (pi_tup (pv 0)) (blkOk_by (N := ["value", "places", "place"]) (sc := defScope st_are_places) (by decide +kernel))
        (fun _ _ _ _ _ => pg_name (i := 2) sc_are_places.nd rfl (Or.inl rfl)) (fun _ _ _ _ _ => pts_nil) (fun _ _ _ _ _ => pc C3 hr (pa_cons (pv 2) (pa_cons (pv 1) pa_nil)))) pa_nil))))), ?_⟩
    refine ⟨_, rfl, .ref a, .ty "tuple", _, _, true, rfl, .ty "tuple", ty_tup hS, kit_ty (by decide +kernel), true, rfl, ?_⟩
    refine ⟨_, rfl, a, rfl, ⟨_, hS⟩, fun D hD => ?_⟩
    refine lc_tup (xs := ns.map V.int) (fun i H' => Same H H' ∧ H' D = some (.lst (((ns.take i).map fun i => decide (0 ≤ i) && decide (i ≤ p - 1)).map V.bl))) ⟨same_new hD, upd_same⟩ (fun i H' _ h' => onT h'.1 hS) (fun i x H' hx h' => ?_) (fun H' h' => ?_)
    · obtain ⟨n, hn, rfl⟩ := map_at hx
      obtain ⟨sm, eD⟩ := h'
      refine ⟨rfl, _, rfl, _, rfl, n, p, rfl, _, eD, ?_, ?_, ?_⟩
      · rw [List.length_map, List.length_map, List.length_take]
        exact small1000 (by omega)
      · intro b o e
        rw [upd_ne (ne_of_none e hD)]
        exact sm b o e
      · rw [upd_same, all_snoc _ hn, List.map_append]
        rfl
    · obtain ⟨sm, eD⟩ := h'
      rw [List.length_map, List.take_length] at eD
      refine ⟨D, _, rfl, lstAt eD, ?_⟩
      have e : ((ns.map fun i => decide (0 ≤ i) && decide (i ≤ p - 1)).all id) = inP p ns := by
        unfold inP
        rw [List.all_map]
        rfl
      rw [e]
      exact q H' sm
end
end RH
set_option Elab.async false
set_option linter.all false
set_option maxRecDepth 100000
set_option maxHeartbeats 2000000
namespace RH
open PySem PySem.Spec PyProof.Rows L2
/-! ### slices and constants -/
theorem cut_from (xs : List V) (k : Nat) : cutV xs (some (k : Int)) none = xs.drop k := by
  unfold cutV
  rw [HT.sIx_nat, HT.sIx_none]
  rcases Nat.le_total k xs.length with h | h
  · rw [Nat.min_eq_left h]
    exact List.take_of_length_le (by rw [List.length_drop]; exact Nat.le_refl _)
  · rw [Nat.min_eq_right h, Nat.sub_self, List.take_zero, List.drop_eq_nil_of_le h]
theorem cut_to (xs : List V) (k : Nat) : cutV xs none (some (k : Int)) = xs.take k := by
  unfold cutV
  rw [HT.sIx_nat, HT.sIx_none, List.drop_zero, Nat.sub_zero]
  rcases Nat.le_total k xs.length with h | h
  · rw [Nat.min_eq_left h]
  · rw [Nat.min_eq_right h, List.take_length, List.take_of_length_le h]
/-- t[k:], k written -/
theorem slT_from {K : PySem.W.Frag} {H : Hp} {a : Addr} {xs : List V} {Q : VK} (z : Int) (k : Nat) (hz : z = (k : Int)) (h : SqT K H a xs) (q : ∀ b H2, Same H H2 → SqT K H2 b (xs.drop k) → Q (.ref b) H2) : rSlA K (.ref a) (some z) none H Q := by
  subst hz
  refine ⟨a, xs, rfl, h, fun hf => q a H (Same.refl H) ?_, fun _ p hp => q p _ (same_new hp) (tupAt (by rw [upd_same, cut_from]))⟩
  have e := hf.1
  rw [HT.sIx_nat] at e
  rcases Nat.le_total k xs.length with h' | h'
  · rw [Nat.min_eq_left h'] at e
    rw [e, List.drop_zero]
    exact h
  · rw [Nat.min_eq_right h'] at e
    have e2 : xs = [] := List.eq_nil_of_length_eq_zero e
    subst e2
    rw [List.drop_nil]
    exact h
/-- a number that the module keeps -/
theorem pk {X : Cx} {x : Str} {i : Int} {pos : Pos} (h : ∃ t, X.mg x = some (.int i t)) (hg : Gl X x := by rfl) (hn : x ≠ "__name__" := by decide) (hd : (x == ("__debug__" : Str)) = false := by decide) : PE X (.Name x pos) (tC (.int i)) := by
  obtain ⟨t, h⟩ := h
  exact pe_glob (v := .int i) hg h ⟨_, rfl⟩ hd
/-! ### rules within a comprehension: the written part is told -/
def rLenK (K : PySem.W.Frag) : List V → Hp → VK → Prop := fun xs H Q => ∃ p ys, xs = [.ref p] ∧ (SqL K H p ys ∨ SqT K H p ys) ∧ Q (.int ys.length) H
theorem cl_len {X : Cx} (K : PySem.W.Frag) (h : X.K = K := by rfl) : CallR X (.builtin "len") (rLenK K) := by
  subst h
  exact call_len_seq
theorem ixT {X : Cx} (K : PySem.W.Frag) (h : X.K = K := by rfl) : IxR X (rIxT K) := by
  subst h
  exact ix_tup
theorem ixL {X : Cx} (K : PySem.W.Frag) (h : X.K = K := by rfl) : IxR X (rIxL K) := by
  subst h
  exact ix_list
/-! ### rising, a layout, a habit -/
def isLay (p : Nat) (ns : List Int) : Bool := ns.isPerm (rg p)
theorem inP_of {p : Nat} {ns : List Int} (h : ns.Perm (rg p)) : inP p ns = true := by
  unfold inP
  rw [List.all_eq_true]
  intro i hi
  have := rg_mem.mp (h.mem_iff.mp hi)
  rw [Bool.and_eq_true]
  exact ⟨decide_eq_true (by omega), decide_eq_true (by omega)⟩
theorem rg_le (p : Nat) : (rg p).Pairwise (· ≤ ·) := by
  unfold rg
  rw [List.pairwise_map]
  exact (List.pairwise_lt_range (n := p)).imp fun h => by omega
section
variable {P : Program} {w : World} {K : PySem.W.Frag} {mg : Str → Option Value} {base : Heap}
def spIsLayout (K : PySem.W.Frag) : Sp := fun vs H Q _ => ∃ (v : V) (ns : List Int) (p : Nat), vs = [v, .int p] ∧ TI K H v ns ∧ ns.length < 64 ∧ p ≤ 1000 ∧ ∀ H', Same H H' → Q (.bl (isLay p ns)) H'
theorem ok_is_layout (F : Df K mg "is_layout" st_is_layout ["value", "places"]) (B : Bu mg) (C4 : Cal P w K mg base 4 "are_places" (spArePlaces K)) : Cal P w K mg base 5 "is_layout" (spIsLayout K) := by
  refine mkCal F sc_is_layout (fun vs H Q E h => ?_) (fun f cdv A outer s H vs Q E hr h => ?_)
  · obtain ⟨v, ns, p, rfl, _⟩ := h
    rfl
  · obtain ⟨v, ns, p, rfl, ⟨a, rfl, hS⟩, hlen, hp, q⟩ := h
    refine ⟨_, pss_one (ps_ret (pe_and (pc C4 hr (pa_cons (pv 0) (pa_cons (pv 1) pa_nil)))
      (pe_one (pe_cmpR (op_eqD hr.units) (pe_callB cr_sortedTup (by rfl) B.sorted (by decide +kernel) (pa_cons (pv 0) pa_nil)) (pe_listRg rfl (by rfl) B.list (prg_1 (by rfl) B.range (pv 1))) (nomark _))))), ?_⟩
    refine ⟨_, rfl, _, rfl, .ref a, ns, p, rfl, ⟨a, rfl, hS⟩, by omega, fun H1 sm1 => ⟨_, rfl, ite2 (fun e => ?_) (fun e => ?_)⟩⟩
    · refine ⟨_, rfl, a, ns, rfl, onT sm1 hS, hlen, fun ns' pL hpm hpw nL => ⟨_, rfl, (p : Int), rfl, ⟨by omega, by omega, by omega, by omega, by omega⟩, fun q' nq => ?_⟩⟩
      have nqp : pL ≠ q' := ne_of_none upd_same nq
      refine ⟨_, _, dp_lst (ns := ns') (lstAt ?_), dp_lst (ns := rg p) (lstAt ?_), PySem.W.ke_shaped_ints _, PySem.W.ke_shaped_ints _, ?_⟩
      · rw [upd_ne nqp, upd_same]
      · rw [upd_same, rgV_rg]
      · have e2 : PyData.eqv (.list (ns'.map PyData.int)) (.list ((rg p).map PyData.int)) = isLay p ns := by
          rw [eqv_lst, Bool.eq_iff_iff, decide_eq_true_iff]
          unfold isLay
          rw [List.isPerm_iff]
          constructor
          · intro z
            rw [← z]
            exact hpm.symm
          · intro z
            exact PySem.W.ksm_same (hpm.trans z) hpw (rg_le p)
        rw [e2]
        exact q _ (sm1.trans ((same_new nL).trans (same_new nq)))
    · have e2 : isLay p ns = false := by
        cases z : isLay p ns with
        | false => rfl
        | true => exact absurd (inP_of (List.isPerm_iff.mp z)) e
      have e3 : inP (p : Int) ns = false := by simpa using e
      rw [e2] at q
      exact q _ sm1
end
end RH
set_option Elab.async false
set_option linter.all false
set_option maxRecDepth 100000
set_option maxHeartbeats 2000000
namespace RH
open PySem PySem.Spec PyProof.Rows L2
/-! ### the mathematics of marks -/
theorem ifT {c : Bool} {A B : Prop} (hc : c = true) (h : A) : if c = true then A else B := by
  rw [if_pos hc]
  exact h
theorem ifF {c : Bool} {A B : Prop} (hc : c = false) (h : B) : if c = true then A else B := by
  rw [hc, if_neg Bool.false_ne_true]
  exact h
/-- a habit of n places -/
structure Hb (n : Nat) (h : List (List Int)) : Prop where
  len : h.length = n
  perm : ∀ ns ∈ h, ns.Perm (rg n)
  lo : 2 ≤ n
  hi : n ≤ 5
theorem Hb.short {n : Nat} {h : List (List Int)} (q : Hb n h) {ns : List Int} (hm : ns ∈ h) : ns.length = n := by
  rw [(q.perm ns hm).length_eq, rg_len]
def mv (h : List (List Int)) (t s : Int) : Int := (h.getD t.toNat []).getD s.toNat 0
theorem Hb.at {n : Nat} {h : List (List Int)} (q : Hb n h) {t s : Int} (t0 : 0 ≤ t) (t1 : t < n) (s0 : 0 ≤ s) (s1 : s < n) :
    ∃ ns, h[t.toNat]? = some ns ∧ ns[s.toNat]? = some (mv h t s) ∧ 0 ≤ mv h t s ∧ mv h t s < n := by
  have h1 : t.toNat < h.length := by rw [q.len]; omega
  have e1 : h[t.toNat]? = some h[t.toNat] := List.getElem?_eq_getElem h1
  have hm : h[t.toNat] ∈ h := List.getElem_mem h1
  have h2 : s.toNat < h[t.toNat].length := by rw [q.short hm]; omega
  have e2 : h[t.toNat][s.toNat]? = some h[t.toNat][s.toNat] := List.getElem?_eq_getElem h2
  have e4 : h.getD t.toNat [] = h[t.toNat] := by
    rw [List.getD_eq_getElem?_getD, e1]
    rfl
  have e3 : mv h t s = h[t.toNat][s.toNat] := by
    unfold mv
    rw [e4, List.getD_eq_getElem?_getD, e2]
    rfl
  have h4 := rg_mem.mp ((q.perm _ hm).mem_iff.mp (List.getElem_mem h2))
  rw [← e3] at h4
  exact ⟨_, e1, by rw [e3]; exact e2, h4⟩
def InR (n : Nat) (i : Int) : Prop := 0 ≤ i ∧ i < n
theorem take_more {α : Type} {l : List α} {i : Nat} {x : α} (h : l[i]? = some x) : l.take (i + 1) = l.take i ++ [x] := by
  rw [List.take_add_one, h]
  rfl
/-- an item of an int's place -/
theorem at_int {α : Type} {xs : List α} {z : Int} {v : α} (h0 : 0 ≤ z) (h : xs[z.toNat]? = some v) : atI xs z = some v := by
  have e : z = ((z.toNat : Nat) : Int) := by omega
  rw [e]
  exact atI_nat h
section
variable {P : Program} {w : World} {K : PySem.W.Frag} {mg : Str → Option Value} {base : Heap}
theorem inP_in {p : Nat} {ns : List Int} (h : ∀ i ∈ ns, InR p i) : inP p ns = true := by
  unfold inP
  rw [List.all_eq_true]
  intro i hi
  obtain ⟨h1, h2⟩ := h i hi
  rw [Bool.and_eq_true]
  exact ⟨decide_eq_true h1, decide_eq_true (by omega)⟩
end
end RH
set_option Elab.async false
set_option linter.all false
set_option maxRecDepth 100000
set_option maxHeartbeats 2000000
namespace RH
open PySem PySem.Spec PyProof.Rows L2
theorem ix2 {K : PySem.W.Frag} {H : Hp} {xs : List V} {h : List (List Int)} {n : Nat} (hE : Each (TI K H) xs h) (q : Hb n h) {t s : Int} (ht : InR n t) (hs : InR n s) :
    ∃ (a' : Addr) (ns : List Int), atI xs t = some (.ref a') ∧ SqT K H a' (ns.map V.int) ∧ atI (ns.map V.int) s = some (.int (mv h t s)) := by
  obtain ⟨ns, e1, e2, _⟩ := q.at ht.1 ht.2 hs.1 hs.2
  obtain ⟨v, e3, a', rfl, hS⟩ := hE.of e1
  exact ⟨a', ns, at_int ht.1 e3, hS, at_int hs.1 (at_map e2)⟩
theorem V_int (a b : Int) : decide (V.int a = V.int b) = decide (a = b) := by
  rw [Bool.eq_iff_iff, decide_eq_true_iff, decide_eq_true_iff]
  exact ⟨fun h => V.int.inj h, fun h => by rw [h]⟩
end RH
set_option Elab.async false
set_option linter.all false
set_option maxRecDepth 100000
set_option maxHeartbeats 2000000
namespace RH
open PySem PySem.Spec PyProof.Rows L2
/-! ### the law's own row of draws -/
/-- all but what stands at p is as it was -/
def But (p : Addr) (H H' : Hp) : Prop := ∀ b o, H b = some o → b ≠ p → H' b = some o
theorem But.refl (p : Addr) (H : Hp) : But p H H := fun _ _ e _ => e
theorem But.trans {p : Addr} {H H1 H2 : Hp} (a : But p H H1) (b : But p H1 H2) : But p H H2 := fun c o e n => b c o (a c o e n) n
theorem But.same {p : Addr} {H H1 : Hp} (a : Same H H1) : But p H H1 := fun c o e _ => a c o e
theorem But.upd {p : Addr} {H H1 : Hp} {o : HO} (a : But p H H1) : But p H (upd H1 p o) := fun c u e n => by
  rw [upd_ne n]
  exact a c u e n
/-- all that is no list is as it was -/
def Fix (H H' : Hp) : Prop := ∀ b o, H b = some o → (∀ xs, o ≠ .lst xs) → H' b = some o
theorem Fix.refl (H : Hp) : Fix H H := fun _ _ e _ => e
theorem Fix.trans {H H1 H2 : Hp} (a : Fix H H1) (b : Fix H1 H2) : Fix H H2 := fun c o e n => b c o (a c o e n) n
theorem Fix.same {H H1 : Hp} (a : Same H H1) : Fix H H1 := fun c o e _ => a c o e
theorem Fix.lst {H : Hp} {p : Addr} {xs : List V} {o : HO} (h : H p = some (.lst xs)) : Fix H (L2.upd H p o) := fun b u e n => by
  by_cases z : b = p
  · subst z
    rw [h] at e
    cases e
    exact absurd rfl (n _)
  · rw [upd_ne z]
    exact e
theorem Fix.tups {K : PySem.W.Frag} {H H' : Hp} (b : Fix H H') : Tups K H H' := fun a xs hS => by
  rcases hS with (hS | ⟨u, hS⟩) | hS
  · exact .inl (.inl (b _ _ hS (fun _ z => nomatch z)))
  · exact .inl (.inr ⟨u, b _ _ hS (fun _ z => nomatch z)⟩)
  · exact .inr hS
theorem But.fix {H H' : Hp} {p : Addr} {xs : List V} (h : H p = some (.lst xs)) (b : But p H H') : Fix H H' := fun c o e n => b c o e fun z => by
  subst z
  rw [h] at e
  cases e
  exact n _ rfl
/-- a list that never changes -/
def Fz (K : PySem.W.Frag) (H : Hp) (a : Addr) (xs : List V) : Prop := (∃ o, H a = some (.frz o (.lst xs))) ∨ ∀ H', SqL K H' a xs
theorem Fz.seq {K : PySem.W.Frag} {H : Hp} {a : Addr} {xs : List V} (h : Fz K H a xs) : SqL K H a xs := by
  rcases h with ⟨o, h⟩ | h
  · exact .inl (.inr ⟨o, h⟩)
  · exact h H
theorem Fz.on {K : PySem.W.Frag} {H H' : Hp} {a : Addr} {xs : List V} (f : Fix H H') (h : Fz K H a xs) : Fz K H' a xs := by
  rcases h with ⟨o, h⟩ | h
  · exact .inl ⟨o, f _ _ h (fun _ z => nomatch z)⟩
  · exact .inr h
theorem Fz.of {K : PySem.W.Frag} {H : Hp} {a : Addr} {xs : List V} (o : Only H) (h : SqL K H a xs) : Fz K H a xs := by
  rcases h with (h | h) | h
  · rcases o a with e | ⟨u, ys, e⟩
    · rw [e] at h
      cases h
    · rw [e] at h
      cases h
  · exact .inl h
  · exact .inr fun H' => .inr h
/-- row: the script, how many of it are taken, the running number, what is left of a great one -/
structure RowA (K : PySem.W.Frag) (H : Hp) (p a : Addr) (ns : List Int) (i r c : Int) : Prop where
  at_ : H p = some (.lst [.ref a, .int i, .int r, .int c])
  fz : Fz K H a (ns.map V.int)
  pos : 0 ≤ i
theorem RowA.scr {K : PySem.W.Frag} {H : Hp} {p a : Addr} {ns : List Int} {i r c : Int} (h : RowA K H p a ns i r c) : SqL K H a (ns.map V.int) := h.fz.seq
def Row (K : PySem.W.Frag) (H : Hp) (p : Addr) : Prop := ∃ a ns i r c, RowA K H p a ns i r c
theorem RowA.put {K : PySem.W.Frag} {H : Hp} {p a : Addr} {ns : List Int} {i r c i' r' c' : Int} (h : RowA K H p a ns i r c) (hi : 0 ≤ i') :
    RowA K (upd H p (.lst [.ref a, .int i', .int r', .int c'])) p a ns i' r' c' :=
  ⟨upd_same, h.fz.on (Fix.lst h.at_), hi⟩
theorem RowA.row {K : PySem.W.Frag} {H : Hp} {p a : Addr} {ns : List Int} {i r c : Int} (h : RowA K H p a ns i r c) : Row K H p := ⟨_, _, _, _, _, h⟩
theorem Row.lst {K : PySem.W.Frag} {H : Hp} {p : Addr} (h : Row K H p) : ∃ xs, H p = some (.lst xs) := by
  obtain ⟨a, ns, i, r, c, h⟩ := h
  exact ⟨_, h.at_⟩
theorem Row.fix {K : PySem.W.Frag} {H H' : Hp} {p : Addr} (h : Row K H p) (b : But p H H') : Fix H H' := by
  obtain ⟨xs, e⟩ := h.lst
  exact But.fix e b
theorem Row.on {K : PySem.W.Frag} {H H' : Hp} {p : Addr} (h : Row K H p) (f : Fix H H') (e : H' p = H p) : Row K H' p := by
  obtain ⟨a, ns, i, r, c, h⟩ := h
  exact ⟨a, ns, i, r, c, e.trans h.at_, h.fz.on f, h.pos⟩
theorem Row.same {K : PySem.W.Frag} {H H' : Hp} {p : Addr} (h : Row K H p) (s : Same H H') : Row K H' p := by
  obtain ⟨xs, e⟩ := h.lst
  exact h.on (Fix.same s) ((s _ _ e).trans e.symm)
/-- another list is written -/
theorem Row.lst_upd {K : PySem.W.Frag} {H : Hp} {p q : Addr} {xs : List V} {o : HO} (h : Row K H p) (e : H q = some (.lst xs)) (n : p ≠ q) : Row K (upd H q o) p := h.on (Fix.lst e) (upd_ne n)
/-- a new object -/
theorem Row.new {K : PySem.W.Frag} {H : Hp} {p q : Addr} {o : HO} (h : Row K H p) (e : H q = none) : Row K (upd H q o) p := h.same (same_new e)
theorem Row.ne {K : PySem.W.Frag} {H : Hp} {p q : Addr} (h : Row K H p) (e : H q = none) : p ≠ q := by
  obtain ⟨xs, e'⟩ := h.lst
  exact ne_of_none e' e
section
variable {P : Program} {w : World} {K : PySem.W.Frag} {mg : Str → Option Value} {base : Heap}
def spTaken (K : PySem.W.Frag) : Sp := fun vs H Q _ => ∃ (p : Addr) (m : Int), vs = [.ref p, .int m] ∧ Row K H p ∧ 0 < m ∧ m < 1048576 ∧ ∀ k H', 0 ≤ k → k < m → But p H H' → Row K H' p → Q (.int k) H'
theorem ok_taken (F : Df K mg "_law_taken" st__law_taken ["row", "many"]) (B : Bu mg) : Cal P w K mg base 1 "_law_taken" (spTaken K) := by
  refine mkCal F sc__law_taken (fun vs H Q E h => ?_) (fun f cdv A outer s H vs Q E hr h => ?_)
  · obtain ⟨p, m, rfl, _⟩ := h
    rfl
  · obtain ⟨p, m, rfl, ⟨a, ns, i, r, c, hR⟩, m0, m1, q⟩ := h
    refine ⟨_, pss_cons (ps_if (pt_cmpR op_gt (pe_ix ix_list (pv 0) pe_int (fun _ _ => rfl)) pe_int (nomark _))
        (pss_cons (ps_set (i := 2) sc__law_taken.nd rfl (.inl rfl) (pe_op op_mod (pe_callTy call_int1 (by rfl) B.int (by decide +kernel) (pa_cons (pe_ix ix_list (pv 0) pe_int (fun _ _ => rfl)) pa_nil)) (pv 1)))
        (pss_cons (ps_asg (pe_op op_fdiv (pe_ix ix_list (pv 0) pe_int (fun _ _ => rfl)) (pv 1)) (pg_sub (pv 0) pe_int set_list))
        (pss_one (ps_ret (pv 2))))) pss_nil)
      (pss_cons (ps_asg (pe_op op_add (pe_ix ix_list (pv 0) pe_int (fun _ _ => rfl)) pe_int) (pg_sub (pv 0) pe_int set_list))
      (pss_cons (ps_if (pt_cmpR op_gt (pe_ix ix_list (pv 0) pe_int (fun _ _ => rfl)) (pe_callB (cl_len K) (by rfl) B.len PySem.boot_len (pa_cons (pe_ix ix_list (pv 0) pe_int (fun _ _ => rfl)) pa_nil)) (nomark _))
        (pss_cons (ps_asg (pe_op op_mod (pe_callTy call_int1 (by rfl) B.int (by decide +kernel) (pa_cons (pe_op op_add (pe_op op_mul (pe_ix ix_list (pv 0) pe_int (fun _ _ => rfl)) pe_int) pe_int) pa_nil)) pe_int) (pg_sub (pv 0) pe_int set_list))
        (pss_one (ps_ret (pe_op op_mod (pe_callTy call_int1 (by rfl) B.int (by decide +kernel) (pa_cons (pe_op op_fdiv (pe_ix ix_list (pv 0) pe_int (fun _ _ => rfl)) pe_int) pa_nil)) (pv 1))))) pss_nil)
      (pss_cons (ps_set (i := 3) sc__law_taken.nd rfl (.inl rfl) (pe_ix ix_list (pe_ix ix_list (pv 0) pe_int (fun _ _ => rfl)) (pe_op op_sub (pe_ix ix_list (pv 0) pe_int (fun _ _ => rfl)) pe_int) (fun _ _ => rfl)))
      (pss_cons (ps_asg (pe_op op_mod (pe_callTy call_int1 (by rfl) B.int (by decide +kernel) (pa_cons (pe_op op_add (pe_op op_add (pe_op op_mul (pe_ix ix_list (pv 0) pe_int (fun _ _ => rfl)) pe_int) (pv 3)) pe_int) pa_nil)) pe_int) (pg_sub (pv 0) pe_int set_list))
      (pss_cons (ps_if (pt_cmpR op_ge (pv 3) (pe_op op_pow pe_int pe_int) (nomark _))
        (pss_one (ps_asg (pe_op op_fdiv (pv 3) (pv 1)) (pg_sub (pv 0) pe_int set_list))) pss_nil)
      (pss_one (ps_ret (pe_op op_mod (pe_callTy call_int1 (by rfl) B.int (by decide +kernel) (pa_cons (pv 3) pa_nil)) (pv 1))))))))), ?_⟩
    have L := hR.at_
    refine ⟨_, rfl, p, _, 3, .int c, rfl, rfl, lstAt L, rfl, c, 0, rfl, rfl, _, rfl, ite2 (fun e => ?_) (fun e => ?_)⟩
    · refine ⟨_, rfl, p, _, 3, .int c, rfl, rfl, lstAt L, rfl, .inl ⟨c, rfl, _, rfl, c, m, rfl, rfl, m0, ?_⟩⟩
      refine ⟨_, rfl, p, _, 3, .int c, rfl, rfl, lstAt L, rfl, _, rfl, c, m, rfl, rfl, ⟨m0, by omega⟩, _, rfl, p, _, 3, 3, rfl, rfl, L, rfl, ?_⟩
      exact ⟨_, rfl, q (c % m) _ (Int.emod_nonneg _ (by omega)) (Int.emod_lt_of_pos _ m0) (But.upd (But.refl p H)) (hR.put hR.pos).row⟩
    · refine ⟨_, rfl, p, _, 1, .int i, rfl, rfl, lstAt L, rfl, i, 1, rfl, rfl, _, rfl, p, _, 1, 1, rfl, rfl, L, rfl, ?_⟩
      have R1 : RowA K (upd H p (.lst [.ref a, .int (i + 1), .int r, .int c])) p a ns (i + 1) r c := hR.put (by have := hR.pos; omega)
      have L1 := R1.at_
      refine ⟨_, rfl, p, _, 1, .int (i + 1), rfl, rfl, lstAt L1, rfl, _, rfl, p, _, 0, .ref a, rfl, rfl, lstAt L1, rfl, a, _, rfl, .inl R1.scr, _, _, rfl, rfl, _, rfl, ite2 (fun e1 => ?_) (fun e1 => ?_)⟩
      · refine ⟨_, rfl, p, _, 2, .int r, rfl, rfl, lstAt L1, rfl, r, 48271, rfl, rfl, .inr ⟨by decide, by decide⟩, _, 11, rfl, rfl, .inl ⟨_, rfl, _, _, rfl, rfl, (by show (0 : Int) < 2147483647; decide), _, rfl, p, _, 2, 2, rfl, rfl, L1, rfl, ?_⟩⟩
        have R2 : RowA K (upd (upd H p (.lst [.ref a, .int (i + 1), .int r, .int c])) p (.lst [.ref a, .int (i + 1), .int ((r * 48271 + 11) % 2147483647), .int c])) p a ns (i + 1) ((r * 48271 + 11) % 2147483647) c := R1.put R1.pos
        refine ⟨_, rfl, p, _, 2, _, rfl, rfl, lstAt R2.at_, rfl, _, 7, rfl, rfl, ⟨by decide, by decide⟩, .inl ⟨_, rfl, _, rfl, _, m, rfl, rfl, m0, ?_⟩⟩
        exact q _ _ (Int.emod_nonneg _ (by omega)) (Int.emod_lt_of_pos _ m0) (But.upd (But.upd (But.refl p H))) R2.row
      · have hi : i < (ns.length : Int) := by
          rw [List.length_map] at e1
          have e9 : i + 1 ≤ (ns.length : Int) := by simpa using e1
          omega
        have hi0 := hR.pos
        obtain ⟨z, hz⟩ : ∃ z, ns[i.toNat]? = some z := ⟨ns[i.toNat]'(by omega), List.getElem?_eq_getElem (by omega)⟩
        refine ⟨_, rfl, p, _, 0, .ref a, rfl, rfl, lstAt L1, rfl, _, rfl, p, _, 1, .int (i + 1), rfl, rfl, lstAt L1, rfl, _, 1, rfl, rfl, a, _, i + 1 - 1, .int z, rfl, rfl, R1.scr, at_int (by omega) (at_map (by rw [show (i + 1 - 1).toNat = i.toNat by omega]; exact hz)), ?_⟩
        refine ⟨_, rfl, p, _, 2, .int r, rfl, rfl, lstAt L1, rfl, r, 48271, rfl, rfl, .inr ⟨by decide, by decide⟩, _, rfl, _, z, rfl, rfl, _, 11, rfl, rfl, .inl ⟨_, rfl, _, _, rfl, rfl, (by show (0 : Int) < 2147483647; decide), _, rfl, p, _, 2, 2, rfl, rfl, L1, rfl, ?_⟩⟩
        have R2 : RowA K (upd (upd H p (.lst [.ref a, .int (i + 1), .int r, .int c])) p (.lst [.ref a, .int (i + 1), .int ((r * 48271 + z + 11) % 2147483647), .int c])) p a ns (i + 1) ((r * 48271 + z + 11) % 2147483647) c := R1.put R1.pos
        refine ⟨_, rfl, 10, 18, rfl, rfl, ⟨by decide, by decide, by decide⟩, z, _, rfl, rfl, _, rfl, ite2 (fun e2 => ?_) (fun e2 => ?_)⟩
        · refine ⟨_, rfl, _, rfl, z, m, rfl, rfl, ⟨m0, by omega⟩, _, rfl, p, _, 3, 3, rfl, rfl, R2.at_, rfl, ?_⟩
          refine ⟨_, rfl, .inl ⟨z, rfl, _, rfl, z, m, rfl, rfl, m0, ?_⟩⟩
          exact q _ _ (Int.emod_nonneg _ (by omega)) (Int.emod_lt_of_pos _ m0) (But.upd (But.upd (But.upd (But.refl p H)))) (R2.put R2.pos).row
        · refine ⟨_, rfl, .inl ⟨z, rfl, _, rfl, z, m, rfl, rfl, m0, ?_⟩⟩
          exact q _ _ (Int.emod_nonneg _ (by omega)) (Int.emod_lt_of_pos _ m0) (But.upd (But.upd (But.refl p H))) R2.row
end
end RH
set_option Elab.async false
set_option linter.all false
set_option maxRecDepth 100000
set_option maxHeartbeats 2000000
namespace RH
open PySem PySem.Spec PyProof.Rows L2
theorem ix_nat {n : Nat} {k : Int} (h0 : 0 ≤ k) (h1 : k < n) : seqIndex? k n = some k.toNat := by
  unfold seqIndex?
  have e : (if k < 0 then k + (n : Int) else k) = k := if_neg (by omega)
  simp only [e]
  rw [if_pos]
  simp [h0, h1]
theorem But.fresh {p l : Addr} {H H1 : Hp} {o : HO} (a : But p H H1) (e : H l = none) : But p H (L2.upd H1 l o) := fun c u h n => by
  rw [upd_ne (ne_of_none h e)]
  exact a c u h n
theorem map_erase (ns : List Int) (k : Nat) : (ns.map V.int).eraseIdx k = (ns.eraseIdx k).map V.int := by
  induction ns generalizing k with
  | nil => rfl
  | cons n ns ih =>
    cases k with
    | zero => rfl
    | succ k =>
      show V.int n :: (ns.map V.int).eraseIdx k = V.int n :: (ns.eraseIdx k).map V.int
      rw [ih]
theorem perm_erase : ∀ {ls : List Int} {k : Nat} {y : Int}, ls[k]? = some y → ls.Perm (y :: ls.eraseIdx k)
  | [], k, y, h => by simp at h
  | a :: ls, 0, y, h => by
    have e : a = y := Option.some.inj h
    subst e
    exact List.Perm.refl _
  | a :: ls, k + 1, y, h => by
    have ih := perm_erase (ls := ls) (k := k) (y := y) h
    exact (ih.cons a).trans (List.Perm.swap ..)
section
variable {P : Program} {w : World} {K : PySem.W.Frag} {mg : Str → Option Value} {base : Heap}
def spOrder (K : PySem.W.Frag) : Sp := fun vs H Q _ => ∃ (p : Addr) (n : Nat), vs = [.ref p, .int n] ∧ Row K H p ∧ n ≤ 1000 ∧ ∀ (H' : Hp) (q : Addr) (ns : List Int), ns.Perm (rg n) → But p H H' → Row K H' p → H q = none → FT H' q ns → Q (.ref q) H'
theorem ok_order (F : Df K mg "_law_order" st__law_order ["row", "many"]) (B : Bu mg) (CT : Cal P w K mg base 1 "_law_taken" (spTaken K)) : Cal P w K mg base 2 "_law_order" (spOrder K) := by
  refine mkCal F sc__law_order (fun vs H Q E h => ?_) (fun f cdv A outer s H vs Q E hr h => ?_)
  · obtain ⟨p, n, rfl, _⟩ := h
    rfl
  · obtain ⟨p, n, rfl, hR, hn, q⟩ := h
    refine ⟨_, pss_cons (ps_par (i := 2) (j := 3) rfl sc__law_order.nd rfl rfl (by decide) rfl rfl (pa_cons (pe_listRg rfl (by rfl) B.list (prg_1 (by rfl) B.range (pv 1))) (pa_cons (pe_lst pa_nil) pa_nil)) rfl)
      (pss_cons (ps_while PassesOwn.never (pt_cmpR (op_neD hr.units) (pv 2) (pe_lst pa_nil) (nomark _))
        (pss_one (ps_expr (pe_bm PySem.F.plainAttrs_list PySem.F.slot_list_append PySem.F.type_list_append mt_append (pv 3) (pa_cons (pe_bm PySem.F.plainAttrs_list PySem.F.slot_list_pop PySem.F.type_list_pop mt_popAt (pv 2)
          (pa_cons (pc CT hr (pa_cons (pv 0) (pa_cons (pe_callB (cl_len K) (by rfl) B.len PySem.boot_len (pa_cons (pv 2) pa_nil)) pa_nil))) pa_nil)) pa_nil)))))
      (pss_one (ps_ret (pe_tupleF (by rfl) B.tuple (pv 3))))), ?_⟩
    refine ⟨_, rfl, n, rfl, ⟨by omega, by omega, by omega, by omega, by omega⟩, fun l hl => ⟨Nat.zero_le _, fun g hg => ⟨_, _, rfl, ?_⟩⟩⟩
    have hlg : l ≠ g := ne_of_none upd_same hg
    have hgH : H g = none := by
      rw [upd_ne (Ne.symm hlg)] at hg
      exact hg
    have hpl : p ≠ l := hR.ne hl
    have hpg : p ≠ g := hR.ne hgH
    refine ⟨fun m σ H' => ∃ ls fs : List Int, m = ls.length ∧ σ = [some (.ref p), some (.int n), some (.ref l), some (.ref g)] ∧ But p H H' ∧ Row K H' p ∧ H' l = some (.lst (ls.map V.int)) ∧ H' g = some (.lst (fs.map V.int)) ∧ (fs ++ ls).Perm (rg n),
      ⟨(rg n).length, rg n, [], rfl, rfl, But.same (Same.trans (same_new hl) (same_new hg)), (hR.new hl).new hg, ?_, upd_same, List.Perm.refl _⟩, ?_⟩
    · rw [upd_ne hlg, upd_same, rgV_rg]
    rintro m σ H1 ⟨ls, fs, rfl, rfl, hB, hR1, e1, e2, hpm⟩
    refine ⟨_, rfl, Nat.zero_le _, fun z hz => ?_⟩
    have sz : Same H1 (upd H1 z (.lst [])) := same_new hz
    refine ⟨_, _, dp_lst (ns := ls) (lstAt (sz _ _ e1)), dp_lst (ns := []) (lstAt upd_same), PySem.W.ke_shaped_ints _, PySem.W.ke_shaped_ints _, _, rfl, ?_⟩
    rw [eqv_lst]
    have len1 : fs.length + ls.length = n := by
      have := hpm.length_eq
      rw [List.length_append, rg_len] at this
      exact this
    cases ls with
    | nil =>
      refine ifF rfl ⟨_, rfl, g, _, rfl, lstAt (sz _ _ e2), fun t ob ht hob => ?_⟩
      rw [List.append_nil] at hpm
      have st : Same H1 (upd (upd H1 z (.lst [])) t (.frz ob (.tup (fs.map V.int)))) := sz.trans (same_new ht)
      refine q _ t fs hpm (hB.trans (But.same st)) (hR1.same st) ?_ ⟨ob, upd_same, hob⟩
      cases e : H t with
      | none => rfl
      | some o =>
        exfalso
        by_cases zp : t = p
        · obtain ⟨xs, ep⟩ := hR1.lst
          rw [zp, sz _ _ ep] at ht
          cases ht
        · rw [sz _ _ (hB _ _ e zp)] at ht
          cases ht
    | cons y ls =>
      have hRz : Row K (upd H1 z (.lst [])) p := hR1.same sz
      have e1z := sz _ _ e1
      have e2z := sz _ _ e2
      refine ifT rfl ⟨fun σ' H' => ∃ m', m' < (y :: ls).length ∧ ∃ ls fs : List Int, m' = ls.length ∧ σ' = [some (.ref p), some (.int n), some (.ref l), some (.ref g)] ∧ But p H H' ∧ Row K H' p ∧ H' l = some (.lst (ls.map V.int)) ∧ H' g = some (.lst (fs.map V.int)) ∧ (fs ++ ls).Perm (rg n), fun _ _ h => h, ?_⟩
      refine ⟨_, rfl, .inl ⟨rfl, _, lstAt e2z⟩, _, rfl, .inl ⟨rfl, _, lstAt e1z⟩, _, rfl, _, rfl, l, _, rfl, .inl (lstAt e1z), p, _, rfl, hRz, ?_, ?_, fun k H3 k0 k1 hB3 hR3 => ?_⟩
      · rw [List.length_map, List.length_cons]
        omega
      · rw [List.length_map]
        omega
      rw [List.length_map] at k1
      have e1' := hB3 _ _ e1z (Ne.symm hpl)
      have e2' := hB3 _ _ e2z (Ne.symm hpg)
      have hk : k.toNat < (y :: ls).length := by omega
      obtain ⟨v, hv⟩ : ∃ v, (y :: ls)[k.toNat]? = some v := ⟨_, List.getElem?_eq_getElem hk⟩
      have e2u : (upd H3 l (.lst (((y :: ls).map V.int).eraseIdx k.toNat))) g = some (.lst (fs.map V.int)) := by
        rw [upd_ne (Ne.symm hlg)]
        exact e2'
      refine ⟨l, _, k, k.toNat, .int v, rfl, rfl, e1', by omega, by omega, ?_, at_map hv, g, _, .int v, rfl, rfl, e2u, ?_, ?_⟩
      · rw [List.length_map]
        exact ix_nat k0 k1
      · rw [List.length_map]
        exact small1000 (by have := List.length_cons (a := y) (as := ls); omega)
      · refine ⟨((y :: ls).eraseIdx k.toNat).length, ?_, (y :: ls).eraseIdx k.toNat, fs ++ [v], rfl, rfl, ?_, ?_, ?_, ?_, ?_⟩
        · rw [List.length_eraseIdx_of_lt hk]
          omega
        · exact (((hB.trans (But.same sz)).trans hB3).fresh hl).fresh hgH
        · exact (hR3.lst_upd e1' hpl).lst_upd e2u hpg
        · rw [upd_ne hlg, upd_same, map_erase]
        · rw [upd_same, List.map_append]
          rfl
        · have hp2 := perm_erase hv
          refine List.Perm.trans ?_ hpm
          rw [List.append_assoc]
          exact List.Perm.append_left fs hp2.symm
end
end RH
set_option Elab.async false
set_option linter.all false
set_option maxRecDepth 100000
set_option maxHeartbeats 2000000
namespace RH
open PySem PySem.Spec PyProof.Rows L2
/-! ### _law_alike of equal data -/
theorem Dp.on {K : PySem.W.Frag} {H H' : Hp} (s : Same H H') : ∀ (d : PyData) (v : V), Dp K H v d → Dp K H' v d
  | d, v, h => by
    refine Dp.rec (motive_1 := fun v d _ => Dp K H' v d) (motive_2 := fun vs ds _ => DpAll K H' vs ds) .non .bl .int .str ?_ ?_ .nil ?_ h
    · intro a xs ds h1 _ h2
      exact .lst (s.seq h1) h2
    · intro a xs ds h1 _ h2
      exact .tup (onT s h1) h2
    · intro v vs d ds _ _ h1 h2
      exact .cons h1 h2
theorem DpAll.len {K : PySem.W.Frag} {H : Hp} : ∀ {vs : List V} {ds : List PyData}, DpAll K H vs ds → vs.length = ds.length
  | _, _, .nil => rfl
  | _, _, .cons _ t => congrArg (· + 1) (DpAll.len t)
theorem DpAll.of {K : PySem.W.Frag} {H : Hp} : ∀ {vs : List V} {ds : List PyData} {i : Nat} {d : PyData}, DpAll K H vs ds → ds[i]? = some d → ∃ v, vs[i]? = some v ∧ Dp K H v d
  | _, _, _, _, .nil, e => by simp at e
  | _, _, 0, _, .cons h _, e => by
    have e' := Option.some.inj e
    subst e'
    exact ⟨_, rfl, h⟩
  | _, _, i + 1, _, .cons _ t, e => DpAll.of (i := i) t e
def okD : Nat → PyData → Prop
  | 0, .none => True
  | 0, .bool _ => True
  | 0, .int _ => True
  | 0, .str _ => True
  | 0, _ => False
  | _ + 1, .none => True
  | _ + 1, .bool _ => True
  | _ + 1, .int _ => True
  | _ + 1, .str _ => True
  | k + 1, .list ds => ds.length ≤ 1000 ∧ ∀ d ∈ ds, okD k d
  | k + 1, .tuple ds => ds.length ≤ 1000 ∧ ∀ d ∈ ds, okD k d
  | _ + 1, .dict _ => False
theorem kit2 {K : PySem.W.Frag} {t : String} {b1 b2 : Bool} (h1 : kitB t "tuple" = some b1) (h2 : kitB t "list" = some b2) : PySem.W.kitAny K (.type t) [.type "tuple", .type "list"] = some (b1 || b2) := by
  cases b1 with
  | true => exact kitAny_cons (kit_ty h1) (fun z => nomatch z) (fun _ => rfl)
  | false =>
    cases b2 with
    | true => exact kitAny_cons (kit_ty h1) (fun _ => kitAny_cons (kit_ty h2) (fun z => nomatch z) (fun _ => rfl)) (fun z => nomatch z)
    | false => exact kitAny_cons (kit_ty h1) (fun _ => kitAny_cons (kit_ty h2) (fun _ => kitAny_nil) (fun z => nomatch z)) (fun z => nomatch z)
theorem cls2 : Paired ClsV [V.ty "tuple", V.ty "list"] [Value.type "tuple", Value.type "list"] := .cons (.ty _) (.cons (.ty _) .nil)
theorem ixS {X : Cx} (K : PySem.W.Frag) (h : X.K = K := by rfl) : IxR X (rIx K) := by
  subst h
  exact ix_seq
/-- a list or a tuple -/
structure Sq2 (K : PySem.W.Frag) (H : Hp) (a : Addr) (xs : List V) (T : String) (b : Bool) : Prop where
  ty : TyX K H (.ref a) (.type T)
  sq : SqL K H a xs ∨ SqT K H a xs
  k1 : PySem.W.kitAny K (.type T) [.type "tuple", .type "list"] = some true
  k2 : PySem.W.kitOne K (.type T) (.type "list") = some b
  ix : ∀ (i : Nat) (x : V) (Q : VK), xs[i]? = some x → Q x H → rIx K (.ref a) (.int (i : Int)) H Q
theorem sq2T {K : PySem.W.Frag} {H : Hp} {a : Addr} {xs : List V} (h : SqT K H a xs) : Sq2 K H a xs "tuple" false :=
  ⟨ty_tup h, .inr h, kit2 (b1 := true) (b2 := false) (by decide +kernel) (by decide +kernel), kit_ty (by decide +kernel), fun i x Q e q => .inr (.inl ⟨a, xs, i, x, rfl, rfl, h, atI_nat e, q⟩)⟩
theorem ty_lst {K : PySem.W.Frag} {H : Hp} {a : Addr} {xs : List V} (h : SqL K H a xs) : TyX K H (.ref a) (.type "list") := by
  rcases h with (h | ⟨o, h⟩) | ⟨o, vz, n, h, c, _⟩
  · exact .base (.lst h)
  · exact .base (.frz h)
  · exact .kList h c
theorem sq2L {K : PySem.W.Frag} {H : Hp} {a : Addr} {xs : List V} (h : SqL K H a xs) : Sq2 K H a xs "list" true :=
  ⟨ty_lst h, .inl h, kit2 (b1 := false) (b2 := true) (by decide +kernel) (by decide +kernel), kit_ty (by decide +kernel), fun i x Q e q => .inl ⟨a, xs, i, x, rfl, rfl, h, atI_nat e, q⟩⟩
theorem pss_no {X : Cx} {sts : List Stmt} : PSs X sts (fun _ _ _ => False) := ⟨fun _ _ _ _ _ _ h => h.elim⟩
section
variable {P : Program} {w : World} {K : PySem.W.Frag} {mg : Str → Option Value} {base : Heap}
def spAlike (K : PySem.W.Frag) (k : Nat) : Sp := fun vs H Q _ => ∃ (v u : V) (d : PyData), vs = [v, u] ∧ Dp K H v d ∧ Dp K H u d ∧ okD k d ∧ ∀ H', Same H H' → Q (.bl true) H'
theorem ok_alike0 (F : Df K mg "_law_alike" st__law_alike ["found", "due"]) (B : Bu mg) : Cal P w K mg base 1 "_law_alike" (spAlike K 0) := by
  refine mkCal F sc__law_alike (fun vs H Q E h => ?_) (fun f cdv A outer s H vs Q E hr h => ?_)
  · obtain ⟨v, u, d, rfl, _⟩ := h
    rfl
  · obtain ⟨v, u, d, rfl, hv, hu, hk, q⟩ := h
    refine ⟨_, pss_cons (ps_if (pt_val (pe_callB call_isiT (by rfl) B.isi (by decide +kernel) (pa_cons (pv 1) (pa_cons (pe_tup (pa_cons (pe_bltn (v := .ty "tuple") (by rfl) B.tuple (by decide +kernel) rfl) (pa_cons (pe_bltn (v := .ty "list") (by rfl) B.list (by decide +kernel) rfl) pa_nil))) pa_nil)))) pss_no pss_nil)
      (pss_cons (ps_if (PW.pt (pw_or (pt_cmp (pc_isN (pv 1))) (pw_or1 (pt_val (pe_callB call_isi (by rfl) B.isi (by decide +kernel) (pa_cons (pv 1) (pa_cons (pe_bltn (v := .ty "str") (by rfl) B.str (by decide +kernel) rfl) pa_nil)))))))
        (pss_one (ps_ret (pe_and (pe_cmpR op_eq (pv 0) (pv 1) (nomark _)) (pe_one (pe_cmpR op_eq (pe_callB call_isi (by rfl) B.isi (by decide +kernel) (pa_cons (pv 0) (pa_cons (pe_bltn (v := .ty "str") (by rfl) B.str (by decide +kernel) rfl) pa_nil)))
          (pe_callB call_isi (by rfl) B.isi (by decide +kernel) (pa_cons (pv 1) (pa_cons (pe_bltn (v := .ty "str") (by rfl) B.str (by decide +kernel) rfl) pa_nil))) (nomark _)))))) pss_nil)
      (pss_one (ps_ret (pe_and (pe_callB call_isi (by rfl) B.isi (by decide +kernel) (pa_cons (pv 0) (pa_cons (pe_bltn (v := .ty "int") (by rfl) B.int (by decide +kernel) rfl) pa_nil)))
        (pe_and (pe_cmpR op_eq (pe_callB call_isi (by rfl) B.isi (by decide +kernel) (pa_cons (pv 0) (pa_cons (pe_bltn (v := .ty "bool") (by rfl) B.bool (by decide +kernel) rfl) pa_nil)))
          (pe_callB call_isi (by rfl) B.isi (by decide +kernel) (pa_cons (pv 1) (pa_cons (pe_bltn (v := .ty "bool") (by rfl) B.bool (by decide +kernel) rfl) pa_nil))) (nomark _)) (pe_one (pe_cmpR op_eq (pv 0) (pv 1) (nomark _)))))))), ?_⟩
    cases hv with
    | non =>
      cases hu
      refine ⟨_, rfl, (by show 2 ≤ sizeLine; decide), fun t ht => ⟨.non, t, _, _, _, false, rfl, upd_same, cls2, .base .non, kit2 (b1 := false) (b2 := false) (by decide +kernel) (by decide +kernel), _, rfl, ifF rfl ?_⟩⟩
      refine ⟨_, rfl, _, rfl, ifT (decide_eq_true rfl) (ifT rfl ?_)⟩
      exact ⟨_, rfl, _, rfl, rfl, _, rfl, ifT (decide_eq_true rfl) ⟨_, rfl, .non, .ty "str", _, _, false, rfl, .ty "str", .base .non, kit_ty (by decide +kernel), _, rfl, .non, .ty "str", _, _, false, rfl, .ty "str", .base .non, kit_ty (by decide +kernel), rfl, q _ (same_new ht)⟩⟩
    | bl b =>
      cases hu
      refine ⟨_, rfl, (by show 2 ≤ sizeLine; decide), fun t ht => ⟨.bl b, t, _, _, _, false, rfl, upd_same, cls2, .base (.bl b), kit2 (b1 := false) (b2 := false) (by decide +kernel) (by decide +kernel), _, rfl, ifF rfl ?_⟩⟩
      refine ⟨_, rfl, _, rfl, ifF (decide_eq_false (fun z => nomatch z)) ⟨_, rfl, .bl b, .ty "str", _, _, false, rfl, .ty "str", .base (.bl b), kit_ty (by decide +kernel), _, rfl, ifF rfl ?_⟩⟩
      refine ⟨_, rfl, .bl b, .ty "int", _, _, true, rfl, .ty "int", .base (.bl b), kit_ty (by decide +kernel), _, rfl, ifT rfl ?_⟩
      refine ⟨_, rfl, .bl b, .ty "bool", _, _, true, rfl, .ty "bool", .base (.bl b), kit_ty (by decide +kernel), _, rfl, .bl b, .ty "bool", _, _, true, rfl, .ty "bool", .base (.bl b), kit_ty (by decide +kernel), rfl, _, rfl, ifT (decide_eq_true rfl) ?_⟩
      refine ⟨_, rfl, _, rfl, rfl, ?_⟩
      rw [decide_eq_true (rfl : V.bl b = V.bl b)]
      exact q _ (same_new ht)
    | int i =>
      cases hu
      refine ⟨_, rfl, (by show 2 ≤ sizeLine; decide), fun t ht => ⟨.int i, t, _, _, _, false, rfl, upd_same, cls2, .base (.int i), kit2 (b1 := false) (b2 := false) (by decide +kernel) (by decide +kernel), _, rfl, ifF rfl ?_⟩⟩
      refine ⟨_, rfl, _, rfl, ifF (decide_eq_false (fun z => nomatch z)) ⟨_, rfl, .int i, .ty "str", _, _, false, rfl, .ty "str", .base (.int i), kit_ty (by decide +kernel), _, rfl, ifF rfl ?_⟩⟩
      refine ⟨_, rfl, .int i, .ty "int", _, _, true, rfl, .ty "int", .base (.int i), kit_ty (by decide +kernel), _, rfl, ifT rfl ?_⟩
      refine ⟨_, rfl, .int i, .ty "bool", _, _, false, rfl, .ty "bool", .base (.int i), kit_ty (by decide +kernel), _, rfl, .int i, .ty "bool", _, _, false, rfl, .ty "bool", .base (.int i), kit_ty (by decide +kernel), rfl, _, rfl, ifT (decide_eq_true rfl) ?_⟩
      refine ⟨_, rfl, _, rfl, rfl, ?_⟩
      rw [decide_eq_true (rfl : V.int i = V.int i)]
      exact q _ (same_new ht)
    | str x =>
      cases hu
      refine ⟨_, rfl, (by show 2 ≤ sizeLine; decide), fun t ht => ⟨.str x, t, _, _, _, false, rfl, upd_same, cls2, .base (.str x), kit2 (b1 := false) (b2 := false) (by decide +kernel) (by decide +kernel), _, rfl, ifF rfl ?_⟩⟩
      refine ⟨_, rfl, _, rfl, ifF (decide_eq_false (fun z => nomatch z)) ⟨_, rfl, .str x, .ty "str", _, _, true, rfl, .ty "str", .base (.str x), kit_ty (by decide +kernel), _, rfl, ifT rfl ?_⟩⟩
      exact ⟨_, rfl, _, rfl, rfl, _, rfl, ifT (decide_eq_true rfl) ⟨_, rfl, .str x, .ty "str", _, _, true, rfl, .ty "str", .base (.str x), kit_ty (by decide +kernel), _, rfl, .str x, .ty "str", _, _, true, rfl, .ty "str", .base (.str x), kit_ty (by decide +kernel), rfl, q _ (same_new ht)⟩⟩
    | lst _ _ => exact hk.elim
    | tup _ _ => exact hk.elim
end
end RH
set_option Elab.async false
set_option linter.all false
set_option maxRecDepth 100000
set_option maxHeartbeats 2000000
namespace RH
open PySem PySem.Spec PyProof.Rows L2
theorem alike_cases {K : PySem.W.Frag} {H : Hp} {k : Nat} {v u : V} {d : PyData} (hv : Dp K H v d) (hu : Dp K H u d) (hk : okD (k + 1) d) : okD 0 d ∨ ∃ (a b : Addr) (xs ys : List V) (ds : List PyData) (T : String) (bl : Bool), v = .ref a ∧ u = .ref b ∧
    (∀ H', Same H H' → Sq2 K H' a xs T bl) ∧ (∀ H', Same H H' → Sq2 K H' b ys T bl) ∧ DpAll K H xs ds ∧ DpAll K H ys ds ∧ ds.length ≤ 1000 ∧ ∀ d ∈ ds, okD k d := by
  cases hv with
  | non => exact .inl True.intro
  | bl _ => exact .inl True.intro
  | int _ => exact .inl True.intro
  | str _ => exact .inl True.intro
  | @lst a xs ds h1 h2 =>
    cases hu with
    | @lst b ys _ h3 h4 => exact .inr ⟨a, b, xs, ys, ds, "list", true, rfl, rfl, fun _ s => sq2L (s.seq h1), fun _ s => sq2L (s.seq h3), h2, h4, hk.1, hk.2⟩
  | @tup a xs ds h1 h2 =>
    cases hu with
    | @tup b ys _ h3 h4 => exact .inr ⟨a, b, xs, ys, ds, "tuple", false, rfl, rfl, fun _ s => sq2T (onT s h1), fun _ s => sq2T (onT s h3), h2, h4, hk.1, hk.2⟩
section
variable {P : Program} {w : World} {K : PySem.W.Frag} {mg : Str → Option Value} {base : Heap}
theorem ok_alikeS (k : Nat) (F : Df K mg "_law_alike" st__law_alike ["found", "due"]) (B : Bu mg) (C : Cal P w K mg base (k + 1) "_law_alike" (spAlike K k)) : Cal P w K mg base (k + 2) "_law_alike" (spAlike K (k + 1)) := by
  refine mkCal F sc__law_alike (fun vs H Q E h => ?_) (fun f cdv A outer s H vs Q E hr h => ?_)
  · obtain ⟨v, u, d, rfl, _⟩ := h
    rfl
  · obtain ⟨v, u, d, rfl, hv, hu, hk, q⟩ := h
    refine ⟨_, pss_cons (ps_if (pt_val (pe_callB call_isiT (by rfl) B.isi (by decide +kernel) (pa_cons (pv 1) (pa_cons (pe_tup (pa_cons (pe_bltn (v := .ty "tuple") (by rfl) B.tuple (by decide +kernel) rfl) (pa_cons (pe_bltn (v := .ty "list") (by rfl) B.list (by decide +kernel) rfl) pa_nil))) pa_nil))))
        (pss_cons (ps_if (PW.pt (pw_or (pt_not (pt_val (pe_callB call_isiT (by rfl) B.isi (by decide +kernel) (pa_cons (pv 0) (pa_cons (pe_tup (pa_cons (pe_bltn (v := .ty "tuple") (by rfl) B.tuple (by decide +kernel) rfl) (pa_cons (pe_bltn (v := .ty "list") (by rfl) B.list (by decide +kernel) rfl) pa_nil))) pa_nil)))))
            (pw_or1 (pt_cmpR op_ne (pe_callB call_isi (by rfl) B.isi (by decide +kernel) (pa_cons (pv 0) (pa_cons (pe_bltn (v := .ty "list") (by rfl) B.list (by decide +kernel) rfl) pa_nil)))
              (pe_callB call_isi (by rfl) B.isi (by decide +kernel) (pa_cons (pv 1) (pa_cons (pe_bltn (v := .ty "list") (by rfl) B.list (by decide +kernel) rfl) pa_nil))) (nomark _))))) (pss_one (ps_ret pe_bl)) pss_nil)
        (pss_cons (ps_if (pt_cmpR op_ne (pe_callB (cl_len K) (by rfl) B.len PySem.boot_len (pa_cons (pv 0) pa_nil)) (pe_callB (cl_len K) (by rfl) B.len PySem.boot_len (pa_cons (pv 1) pa_nil)) (nomark _)) (pss_one (ps_ret pe_bl)) pss_nil)
        (pss_one (ps_ret (pe_cmpR (op_eqD hr.units) (pe_lc (own := [("k", 2)]) (g := gName 2) rfl sc__law_alike.nd (pi_range1 (by rfl) B.range (pa_cons (pe_callB (cl_len K) (by rfl) B.len PySem.boot_len (pa_cons (pv 1) pa_nil)) pa_nil))
          (blkOk_by (N := ["found", "due", "k"]) (sc := defScope st__law_alike) (by decide +kernel)) (fun _ _ _ _ _ => pg_name (i := 2) sc__law_alike.nd rfl (Or.inl rfl))
          (fun _ _ _ _ _ => pts_one (pt_not (pt_val (pc C hr (pa_cons (pe_ix (ixS K) (pv 0) (pv 2) (fun _ _ => rfl)) (pa_cons (pe_ix (ixS K) (pv 1) (pv 2) (fun _ _ => rfl)) pa_nil)) (hk := Nat.le_refl _))))) (fun _ _ _ _ _ => pv 2)) (pe_lst pa_nil) (nomark _)))))) pss_nil)
      (pss_cons (ps_if (PW.pt (pw_or (pt_cmp (pc_isN (pv 1))) (pw_or1 (pt_val (pe_callB call_isi (by rfl) B.isi (by decide +kernel) (pa_cons (pv 1) (pa_cons (pe_bltn (v := .ty "str") (by rfl) B.str (by decide +kernel) rfl) pa_nil)))))))
        (pss_one (ps_ret (pe_and (pe_cmpR op_eq (pv 0) (pv 1) (nomark _)) (pe_one (pe_cmpR op_eq (pe_callB call_isi (by rfl) B.isi (by decide +kernel) (pa_cons (pv 0) (pa_cons (pe_bltn (v := .ty "str") (by rfl) B.str (by decide +kernel) rfl) pa_nil)))
          (pe_callB call_isi (by rfl) B.isi (by decide +kernel) (pa_cons (pv 1) (pa_cons (pe_bltn (v := .ty "str") (by rfl) B.str (by decide +kernel) rfl) pa_nil))) (nomark _)))))) pss_nil)
      (pss_one (ps_ret (pe_and (pe_callB call_isi (by rfl) B.isi (by decide +kernel) (pa_cons (pv 0) (pa_cons (pe_bltn (v := .ty "int") (by rfl) B.int (by decide +kernel) rfl) pa_nil)))
        (pe_and (pe_cmpR op_eq (pe_callB call_isi (by rfl) B.isi (by decide +kernel) (pa_cons (pv 0) (pa_cons (pe_bltn (v := .ty "bool") (by rfl) B.bool (by decide +kernel) rfl) pa_nil)))
          (pe_callB call_isi (by rfl) B.isi (by decide +kernel) (pa_cons (pv 1) (pa_cons (pe_bltn (v := .ty "bool") (by rfl) B.bool (by decide +kernel) rfl) pa_nil))) (nomark _)) (pe_one (pe_cmpR op_eq (pv 0) (pv 1) (nomark _)))))))), ?_⟩
    rcases alike_cases hv hu hk with hk0 | ⟨a, b, xs, ys, ds, T, bl, rfl, rfl, ha, hb, hx, hy, hl, hd⟩
    · clear hk
      cases hv with
      | non =>
        cases hu
        refine ⟨_, rfl, (by show 2 ≤ sizeLine; decide), fun t ht => ⟨.non, t, _, _, _, false, rfl, upd_same, cls2, .base .non, kit2 (b1 := false) (b2 := false) (by decide +kernel) (by decide +kernel), _, rfl, ifF rfl ?_⟩⟩
        refine ⟨_, rfl, _, rfl, ifT (decide_eq_true rfl) (ifT rfl ?_)⟩
        exact ⟨_, rfl, _, rfl, rfl, _, rfl, ifT (decide_eq_true rfl) ⟨_, rfl, .non, .ty "str", _, _, false, rfl, .ty "str", .base .non, kit_ty (by decide +kernel), _, rfl, .non, .ty "str", _, _, false, rfl, .ty "str", .base .non, kit_ty (by decide +kernel), rfl, q _ (same_new ht)⟩⟩
      | bl b =>
        cases hu
        refine ⟨_, rfl, (by show 2 ≤ sizeLine; decide), fun t ht => ⟨.bl b, t, _, _, _, false, rfl, upd_same, cls2, .base (.bl b), kit2 (b1 := false) (b2 := false) (by decide +kernel) (by decide +kernel), _, rfl, ifF rfl ?_⟩⟩
        refine ⟨_, rfl, _, rfl, ifF (decide_eq_false (fun z => nomatch z)) ⟨_, rfl, .bl b, .ty "str", _, _, false, rfl, .ty "str", .base (.bl b), kit_ty (by decide +kernel), _, rfl, ifF rfl ?_⟩⟩
        refine ⟨_, rfl, .bl b, .ty "int", _, _, true, rfl, .ty "int", .base (.bl b), kit_ty (by decide +kernel), _, rfl, ifT rfl ?_⟩
        refine ⟨_, rfl, .bl b, .ty "bool", _, _, true, rfl, .ty "bool", .base (.bl b), kit_ty (by decide +kernel), _, rfl, .bl b, .ty "bool", _, _, true, rfl, .ty "bool", .base (.bl b), kit_ty (by decide +kernel), rfl, _, rfl, ifT (decide_eq_true rfl) ?_⟩
        refine ⟨_, rfl, _, rfl, rfl, ?_⟩
        rw [decide_eq_true (rfl : V.bl b = V.bl b)]
        exact q _ (same_new ht)
      | int i =>
        cases hu
        refine ⟨_, rfl, (by show 2 ≤ sizeLine; decide), fun t ht => ⟨.int i, t, _, _, _, false, rfl, upd_same, cls2, .base (.int i), kit2 (b1 := false) (b2 := false) (by decide +kernel) (by decide +kernel), _, rfl, ifF rfl ?_⟩⟩
        refine ⟨_, rfl, _, rfl, ifF (decide_eq_false (fun z => nomatch z)) ⟨_, rfl, .int i, .ty "str", _, _, false, rfl, .ty "str", .base (.int i), kit_ty (by decide +kernel), _, rfl, ifF rfl ?_⟩⟩
        refine ⟨_, rfl, .int i, .ty "int", _, _, true, rfl, .ty "int", .base (.int i), kit_ty (by decide +kernel), _, rfl, ifT rfl ?_⟩
        refine ⟨_, rfl, .int i, .ty "bool", _, _, false, rfl, .ty "bool", .base (.int i), kit_ty (by decide +kernel), _, rfl, .int i, .ty "bool", _, _, false, rfl, .ty "bool", .base (.int i), kit_ty (by decide +kernel), rfl, _, rfl, ifT (decide_eq_true rfl) ?_⟩
        refine ⟨_, rfl, _, rfl, rfl, ?_⟩
        rw [decide_eq_true (rfl : V.int i = V.int i)]
        exact q _ (same_new ht)
      | str x =>
        cases hu
        refine ⟨_, rfl, (by show 2 ≤ sizeLine; decide), fun t ht => ⟨.str x, t, _, _, _, false, rfl, upd_same, cls2, .base (.str x), kit2 (b1 := false) (b2 := false) (by decide +kernel) (by decide +kernel), _, rfl, ifF rfl ?_⟩⟩
        refine ⟨_, rfl, _, rfl, ifF (decide_eq_false (fun z => nomatch z)) ⟨_, rfl, .str x, .ty "str", _, _, true, rfl, .ty "str", .base (.str x), kit_ty (by decide +kernel), _, rfl, ifT rfl ?_⟩⟩
        exact ⟨_, rfl, _, rfl, rfl, _, rfl, ifT (decide_eq_true rfl) ⟨_, rfl, .str x, .ty "str", _, _, true, rfl, .ty "str", .base (.str x), kit_ty (by decide +kernel), _, rfl, .str x, .ty "str", _, _, true, rfl, .ty "str", .base (.str x), kit_ty (by decide +kernel), rfl, q _ (same_new ht)⟩⟩
      | lst _ _ => exact hk0.elim
      | tup _ _ => exact hk0.elim
    · have lx : xs.length = ds.length := DpAll.len hx
      have ly : ys.length = ds.length := DpAll.len hy
      refine ⟨_, rfl, (by show 2 ≤ sizeLine; decide), fun t ht => ?_⟩
      have s1 : Same H (upd H t (.tup [.ty "tuple", .ty "list"])) := same_new ht
      have b1 := hb _ s1
      refine ⟨.ref b, t, _, _, _, true, rfl, upd_same, cls2, b1.ty, b1.k1, _, rfl, ifT rfl ?_⟩
      refine ⟨_, rfl, (by show 2 ≤ sizeLine; decide), fun t2 ht2 => ?_⟩
      have s2 := s1.trans (same_new (o := .tup [.ty "tuple", .ty "list"]) ht2)
      have a2 := ha _ s2
      have b2 := hb _ s2
      refine ⟨.ref a, t2, _, _, _, true, rfl, upd_same, cls2, a2.ty, a2.k1, _, rfl, ifF rfl ?_⟩
      refine ⟨_, rfl, .ref a, .ty "list", _, _, bl, rfl, .ty "list", a2.ty, a2.k2, _, rfl, .ref b, .ty "list", _, _, bl, rfl, .ty "list", b2.ty, b2.k2, rfl, _, rfl, ifF (by rw [decide_eq_true (rfl : V.bl bl = V.bl bl)]; rfl) ?_⟩
      refine ⟨_, rfl, a, xs, rfl, a2.sq, _, rfl, b, ys, rfl, b2.sq, rfl, _, rfl, ifF (by rw [lx, ly, decide_eq_true rfl]; rfl) ?_⟩
      refine ⟨_, rfl, b, ys, rfl, b2.sq, _, rfl, by omega, by omega, fun D hD => ?_⟩
      rw [Int.toNat_natCast]
      refine lc_range (lo := 0) (n := ys.length) (fun i H' => Same (upd (upd H t (.tup [.ty "tuple", .ty "list"])) t2 (.tup [.ty "tuple", .ty "list"])) H' ∧ H' D = some (.lst [])) ⟨same_new hD, upd_same⟩ (fun i H' hi h' => ?_) (fun H' h' => ?_)
      · obtain ⟨sm, eD⟩ := h'
        have s3 := s2.trans sm
        obtain ⟨d, hdi⟩ : ∃ d, ds[i]? = some d := ⟨_, List.getElem?_eq_getElem (by omega)⟩
        obtain ⟨x, hxi, hxd⟩ := DpAll.of hx hdi
        obtain ⟨y, hyi, hyd⟩ := DpAll.of hy hdi
        rw [Int.zero_add]
        refine ⟨rfl, _, rfl, _, rfl, ?_⟩
        refine (ha _ s3).ix i x _ hxi ⟨_, rfl, _, rfl, ?_⟩
        refine (hb _ s3).ix i y _ hyi ⟨x, y, d, rfl, Dp.on s3 d x hxd, Dp.on s3 d y hyd, hd d (List.mem_of_getElem? hdi), fun H4 s4 => ⟨_, rfl, ifF rfl ⟨?_, s4 _ _ eD⟩⟩⟩
        exact sm.trans s4
      · obtain ⟨sm, eD⟩ := h'
        refine ⟨Nat.zero_le _, fun z hz => ?_⟩
        refine ⟨_, _, dp_lst (ns := []) (lstAt (same_new hz _ _ eD)), dp_lst (ns := []) (lstAt upd_same), PySem.W.ke_shaped_ints _, PySem.W.ke_shaped_ints _, ?_⟩
        exact q _ (s2.trans (sm.trans (same_new hz)))
end
end RH
set_option Elab.async false
set_option linter.all false
set_option maxRecDepth 100000
set_option maxHeartbeats 2000000
namespace RH
open PySem PySem.Spec PyProof.Rows L2
/-! ### words, what they touch, and what a loss does -/
theorem rg_nd (n : Nat) : (rg n).Nodup := by
  unfold rg
  exact List.Pairwise.map _ (fun a b (e : a ≠ b) => fun z => e (by omega)) List.nodup_range
theorem idx_at {l : List Int} (nd : l.Nodup) {i : Nat} {x : Int} (h : l[i]? = some x) : l.idxOf x = i := by
  obtain ⟨hi, e⟩ := List.getElem?_eq_some_iff.mp h
  subst e
  exact nd.idxOf_getElem i hi
theorem perm_nd {n : Nat} {l : List Int} (h : l.Perm (rg n)) : l.Nodup := h.nodup_iff.mpr (rg_nd n)
theorem perm_len {n : Nat} {l : List Int} (h : l.Perm (rg n)) : l.length = n := by rw [h.length_eq, rg_len]
theorem perm_in {n : Nat} {l : List Int} (h : l.Perm (rg n)) {x : Int} (hx : x ∈ l) : InR n x := rg_mem.mp (h.mem_iff.mp hx)
theorem perm_mem {n : Nat} {l : List Int} (h : l.Perm (rg n)) {x : Int} (hx : InR n x) : x ∈ l := h.mem_iff.mpr (rg_mem.mpr hx)
def stp (h : List (List Int)) (p : Int) (L : List Int) : List Int := L.map (mv h p)
def mvs (h : List (List Int)) (L ws : List Int) : List Int := ws.foldl (fun L p => stp h p L) L
theorem mvs_app (h : List (List Int)) (L ws us : List Int) : mvs h L (ws ++ us) = mvs h (mvs h L ws) us := List.foldl_append ..
theorem mvs_snoc (h : List (List Int)) (L ws : List Int) (p : Int) : mvs h L (ws ++ [p]) = stp h p (mvs h L ws) := mvs_app h L ws [p]
theorem mvs_more {h : List (List Int)} {L ws : List Int} {i : Nat} {p : Int} (e : ws[i]? = some p) : mvs h L (ws.take (i + 1)) = stp h p (mvs h L (ws.take i)) := by
  rw [take_more e, mvs_snoc]
/-- the row of a place -/
theorem Hb.row {n : Nat} {h : List (List Int)} (q : Hb n h) {p : Int} (hp : InR n p) : h.getD p.toNat [] ∈ h := by
  have h1 : p.toNat < h.length := by rw [q.len]; have := hp.1; have := hp.2; omega
  rw [List.getD_eq_getElem?_getD, List.getElem?_eq_getElem h1]
  exact List.getElem_mem h1
theorem Hb.row_eq {n : Nat} {h : List (List Int)} (q : Hb n h) {p : Int} (hp : InR n p) : (rg n).map (mv h p) = h.getD p.toNat [] := by
  have hl := q.short (q.row hp)
  refine List.ext_getElem? fun i => ?_
  rw [List.getElem?_map]
  by_cases hi : i < n
  · rw [rg_at hi]
    show some (mv h p (i : Int)) = _
    unfold mv
    rw [Int.toNat_natCast, List.getD_eq_getElem?_getD (l := h.getD p.toNat []), List.getElem?_eq_getElem (by omega : i < (h.getD p.toNat []).length)]
    rfl
  · rw [List.getElem?_eq_none (by rw [rg_len]; omega), List.getElem?_eq_none (by omega)]
    rfl
theorem Hb.stp_perm {n : Nat} {h : List (List Int)} (q : Hb n h) {p : Int} (hp : InR n p) {L : List Int} (hL : L.Perm (rg n)) : (stp h p L).Perm (rg n) := by
  have h1 : (stp h p L).Perm ((rg n).map (mv h p)) := hL.map _
  rw [q.row_eq hp] at h1
  exact h1.trans (q.perm _ (q.row hp))
theorem Hb.mvs_perm {n : Nat} {h : List (List Int)} (q : Hb n h) : ∀ {ws L : List Int}, (∀ t ∈ ws, InR n t) → L.Perm (rg n) → (mvs h L ws).Perm (rg n)
  | [], _, _, hL => hL
  | p :: ws, L, hw, hL => q.mvs_perm (ws := ws) (L := stp h p L) (fun t ht => hw t (List.mem_cons_of_mem _ ht)) (q.stp_perm (hw p (List.mem_cons_self ..)) hL)
theorem Hb.mv_inj {n : Nat} {h : List (List Int)} (q : Hb n h) {p x y : Int} (hp : InR n p) (hx : InR n x) (hy : InR n y) (e : mv h p x = mv h p y) : x = y := by
  have nd := perm_nd (q.perm _ (q.row hp))
  have at_ : ∀ z, InR n z → (h.getD p.toNat [])[z.toNat]? = some (mv h p z) := fun z hz => by
    rw [← q.row_eq hp, List.getElem?_map, rg_at (by have := hz.1; have := hz.2; omega)]
    show some (mv h p ((z.toNat : Nat) : Int)) = _
    rw [Int.toNat_of_nonneg hz.1]
  have e1 := idx_at nd (at_ x hx)
  have e2 := idx_at nd (at_ y hy)
  rw [e, e2] at e1
  have := hx.1
  have := hy.1
  omega
theorem map_inj_on {f : Int → Int} : ∀ {A B : List Int}, (∀ x ∈ A, ∀ y ∈ B, f x = f y → x = y) → A.map f = B.map f → A = B
  | [], [], _, _ => rfl
  | [], _ :: _, _, e => by simp at e
  | _ :: _, [], _, e => by simp at e
  | a :: A, b :: B, h, e => by
    rw [List.map_cons, List.map_cons] at e
    injection e with e1 e2
    rw [h a (List.mem_cons_self ..) b (List.mem_cons_self ..) e1, map_inj_on (fun x hx y hy => h x (List.mem_cons_of_mem _ hx) y (List.mem_cons_of_mem _ hy)) e2]
theorem map_fix {f : Int → Int} : ∀ {A : List Int}, A.map f = A → ∀ x ∈ A, f x = x
  | [], _, x, hx => absurd hx (List.not_mem_nil)
  | a :: A, e, x, hx => by
    rw [List.map_cons] at e
    injection e with e1 e2
    rcases List.mem_cons.mp hx with z | z
    · rw [z]
      exact e1
    · exact map_fix e2 x z
theorem Hb.mvs_inj {n : Nat} {h : List (List Int)} (q : Hb n h) : ∀ {ws A B : List Int}, (∀ t ∈ ws, InR n t) → A.Perm (rg n) → B.Perm (rg n) → mvs h A ws = mvs h B ws → A = B
  | [], _, _, _, _, _, e => e
  | p :: ws, A, B, hw, hA, hB, e => by
    have hp := hw p (List.mem_cons_self ..)
    have e1 := q.mvs_inj (ws := ws) (A := stp h p A) (B := stp h p B) (fun t ht => hw t (List.mem_cons_of_mem _ ht)) (q.stp_perm hp hA) (q.stp_perm hp hB) e
    exact map_inj_on (fun x hx y hy => q.mv_inj hp (perm_in hA hx) (perm_in hB hy)) e1
/-- a place whose touch moves nothing -/
theorem Hb.still {n : Nat} {h : List (List Int)} (q : Hb n h) {p : Int} (hp : InR n p) {S : List Int} (hS : S.Perm (rg n)) : stp h p S = S ↔ h.getD p.toNat [] = rg n := by
  constructor
  · intro e
    rw [← q.row_eq hp]
    have f := map_fix e
    rw [List.map_congr_left (g := id) (fun x hx => f x (hS.mem_iff.mpr hx)), List.map_id]
  · intro e
    rw [← q.row_eq hp] at e
    have f := map_fix e
    unfold stp
    rw [List.map_congr_left (g := id) (fun x hx => f x (hS.mem_iff.mp hx)), List.map_id]
/-- the name that the i-th touch touches -/
def bkAt (h : List (List Int)) (L ws : List Int) (i : Nat) : Int := (((mvs h L (ws.take i)).idxOf (ws.getD i 0) : Nat) : Int)
def bksN (h : List (List Int)) (L ws : List Int) (m : Nat) : List Int := (List.range m).map (bkAt h L ws)
theorem bksN_more (h : List (List Int)) (L ws : List Int) (m : Nat) : bksN h L ws (m + 1) = bksN h L ws m ++ [bkAt h L ws m] := by
  unfold bksN
  rw [List.range_succ, List.map_append]
  rfl
theorem bksN_len (h : List (List Int)) (L ws : List Int) (m : Nat) : (bksN h L ws m).length = m := by
  unfold bksN
  rw [List.length_map, List.length_range]
theorem bksN_at {h : List (List Int)} {L ws : List Int} {m i : Nat} (e : i < m) : (bksN h L ws m)[i]? = some (bkAt h L ws i) := by
  unfold bksN
  rw [List.getElem?_map, List.getElem?_range e]
  rfl
theorem bkAt_app (h : List (List Int)) (L A B : List Int) (i : Nat) : bkAt h L (A ++ B) (A.length + i) = bkAt h (mvs h L A) B i := by
  unfold bkAt
  rw [List.take_length_add_append, mvs_app, List.getD_eq_getElem?_getD, List.getElem?_append_right (Nat.le_add_right ..), Nat.add_sub_cancel_left, ← List.getD_eq_getElem?_getD]
theorem bkAt_cons (h : List (List Int)) (L : List Int) (p : Int) (r : List Int) (i : Nat) : bkAt h L (p :: r) (i + 1) = bkAt h (stp h p L) r i := rfl
/-- whether the i-th touch of r shows the loss -/
def dif (h : List (List Int)) (S T r : List Int) (i : Nat) : Bool := !decide (bkAt h S r i = bkAt h T r i)
def lost (h : List (List Int)) (S T r : List Int) : Option Nat := (List.range r.length).find? (dif h S T r)
theorem find_rg {f : Nat → Bool} {m i : Nat} (hi : i < m) (h : f i = true) (hj : ∀ j, j < i → f j = false) : (List.range m).find? f = some i := by
  rw [List.find?_range_eq_some]
  exact ⟨h, List.mem_range.mpr hi, fun j h2 => by rw [hj j h2]; rfl⟩
theorem find_no {f : Nat → Bool} {m : Nat} (hj : ∀ j, j < m → f j = false) : (List.range m).find? f = none := by
  rw [List.find?_eq_none]
  intro x hx
  rw [hj x (List.mem_range.mp hx)]
  exact Bool.false_ne_true
theorem filter_head {α : Type} (f : α → Bool) : ∀ l : List α, (l.filter f).head? = l.find? f
  | [] => rfl
  | a :: l => by
    by_cases h : f a = true
    · rw [List.filter_cons_of_pos h, List.find?_cons_of_pos h]
      rfl
    · rw [List.filter_cons_of_neg h, List.find?_cons_of_neg h]
      exact filter_head f l
/-- the touches that show the loss, by the law -/
def badN (h : List (List Int)) (S T r : List Int) (s m : Nat) : List Int := ((List.range m).filter (dif h S T r)).map fun i : Nat => ((s + i : Nat) : Int)
theorem badN_more (h : List (List Int)) (S T r : List Int) (s m : Nat) : badN h S T r s (m + 1) = badN h S T r s m ++ (if dif h S T r m = true then [((s + m : Nat) : Int)] else []) := by
  unfold badN
  rw [List.range_succ, List.filter_append, List.map_append]
  congr 1
  by_cases z : dif h S T r m = true
  · rw [if_pos z, List.filter_cons_of_pos z]
    rfl
  · rw [if_neg z, List.filter_cons_of_neg z]
    rfl
theorem badN_len (h : List (List Int)) (S T r : List Int) (s m : Nat) : (badN h S T r s m).length ≤ m := by
  unfold badN
  rw [List.length_map]
  exact Nat.le_trans (List.length_filter_le ..) (Nat.le_of_eq List.length_range)
theorem badN_head (h : List (List Int)) (S T r : List Int) (s : Nat) : (badN h S T r s r.length)[0]? = (lost h S T r).map fun i : Nat => ((s + i : Nat) : Int) := by
  unfold badN lost
  rw [List.getElem?_map, ← filter_head, List.head?_eq_getElem?]
theorem cut_out {h : List (List Int)} {L ws : List Int} {s : Nat} {p : Int} (e : ws[s]? = some p) (i : Nat) :
    bkAt h L (ws.take s ++ ws.drop (s + 1)) (s + i) = bkAt h (mvs h L (ws.take s)) (ws.drop (s + 1)) i ∧ bkAt h L ws (s + i + 1) = bkAt h (stp h p (mvs h L (ws.take s))) (ws.drop (s + 1)) i := by
  obtain ⟨hs, e'⟩ := List.getElem?_eq_some_iff.mp e
  have hl : (ws.take s).length = s := by rw [List.length_take]; omega
  have ew : ws = ws.take s ++ p :: ws.drop (s + 1) := by
    rw [← e', ← List.drop_eq_getElem_cons hs, List.take_append_drop]
  constructor
  · have := bkAt_app h L (ws.take s) (ws.drop (s + 1)) i
    rw [hl] at this
    exact this
  · have := bkAt_app h L (ws.take s) (p :: ws.drop (s + 1)) (i + 1)
    rw [hl, ← ew, bkAt_cons] at this
    exact this
theorem ends_out {h : List (List Int)} {L ws : List Int} {s : Nat} {p : Int} (e : ws[s]? = some p) : mvs h L ws = mvs h (stp h p (mvs h L (ws.take s))) (ws.drop (s + 1)) := by
  obtain ⟨hs, e'⟩ := List.getElem?_eq_some_iff.mp e
  have ew : ws = ws.take s ++ p :: ws.drop (s + 1) := by
    rw [← e', ← List.drop_eq_getElem_cons hs, List.take_append_drop]
  have := mvs_app h L (ws.take s) (p :: ws.drop (s + 1))
  rw [← ew] at this
  exact this
/-- a loss that never shows, and behind which all stands as it should -/
def hid (n : Nat) (h : List (List Int)) (ws : List Int) (s : Nat) : Bool := decide (h.getD (ws.getD s 0).toNat [] = rg n)
theorem Hb.hid {n : Nat} {h : List (List Int)} (q : Hb n h) {L ws : List Int} {s : Nat} {p : Int} (e : ws[s]? = some p) (hw : ∀ t ∈ ws, InR n t) (hL : L.Perm (rg n)) :
    (lost h (mvs h L (ws.take s)) (stp h p (mvs h L (ws.take s))) (ws.drop (s + 1)) = none ∧ mvs h L (ws.take s ++ ws.drop (s + 1)) = mvs h L ws) ↔ RH.hid n h ws s = true := by
  have hp : InR n p := hw p (List.mem_of_getElem? e)
  have hS : (mvs h L (ws.take s)).Perm (rg n) := q.mvs_perm (fun t ht => hw t (List.mem_of_mem_take ht)) hL
  have hd : ∀ t ∈ ws.drop (s + 1), InR n t := fun t ht => hw t (List.mem_of_mem_drop ht)
  have eg : ws.getD s 0 = p := by
    rw [List.getD_eq_getElem?_getD, e]
    rfl
  unfold RH.hid
  rw [decide_eq_true_iff, eg, ← q.still hp hS, mvs_app, ends_out e]
  constructor
  · intro z
    exact (q.mvs_inj hd hS (q.stp_perm hp hS) z.2).symm
  · intro z
    rw [z]
    refine ⟨find_no fun j _ => ?_, rfl⟩
    unfold dif
    rw [decide_eq_true rfl]
    rfl
def hidN (n : Nat) (h : List (List Int)) (ws : List Int) (m : Nat) : List Int := ((List.range m).filter (hid n h ws)).map fun i : Nat => (i : Int)
theorem hidN_more (n : Nat) (h : List (List Int)) (ws : List Int) (m : Nat) : hidN n h ws (m + 1) = hidN n h ws m ++ (if hid n h ws m = true then [(m : Int)] else []) := by
  unfold hidN
  rw [List.range_succ, List.filter_append, List.map_append]
  congr 1
  by_cases z : hid n h ws m = true
  · rw [if_pos z, List.filter_cons_of_pos z]
    rfl
  · rw [if_neg z, List.filter_cons_of_neg z]
    rfl
theorem hidN_len (n : Nat) (h : List (List Int)) (ws : List Int) (m : Nat) : (hidN n h ws m).length ≤ m := by
  unfold hidN
  rw [List.length_map]
  exact Nat.le_trans (List.length_filter_le ..) (Nat.le_of_eq List.length_range)
end RH
set_option Elab.async false
set_option linter.all false
set_option maxRecDepth 100000
set_option maxHeartbeats 2000000
namespace RH
open PySem PySem.Spec PyProof.Rows L2
theorem ixN_int {n : Nat} {k : Int} (h0 : 0 ≤ k) (h1 : k < n) : ixN n k = some k.toNat := by
  unfold ixN
  rw [if_pos h0, if_pos h1]
def tF (n pl : Nat) : List Int := (List.range n).map fun s : Nat => ((s : Int) + (pl : Int)) % (n : Int)
def mF (n pl : Nat) : List Int := (List.range n).map fun s : Nat => (s : Int) + (if decide ((s : Int) < (pl : Int)) = true then 1 else 0)
def fF (n pl : Nat) : List Int := (mF n pl).take pl ++ [0] ++ (mF n pl).drop (pl + 1)
def sF (n pl : Nat) : List Int := ((rg n).set pl ((pl - 1 : Nat) : Int)).set (pl - 1) (pl : Int)
theorem perm_all : ∀ n, n < 6 → ∀ pl, pl < n → (tF n pl).isPerm (rg n) = true ∧ (fF n pl).isPerm (rg n) = true ∧ (sF n pl).isPerm (rg n) = true := by decide +kernel
theorem mF_len (n pl : Nat) : (mF n pl).length = n := by
  unfold mF
  rw [List.length_map, List.length_range]
theorem range_more {f : Nat → Int} (i : Nat) : ((List.range (i + 1)).map f).map V.int = ((List.range i).map f).map V.int ++ [V.int (f i)] := by
  rw [List.range_succ, List.map_append, List.map_append]
  rfl
/-- the permutations found so far -/
def HI (K : PySem.W.Frag) (p g : Addr) (H : Hp) (n i : Nat) (H' : Hp) : Prop := ∃ (xs : List V) (hs : List (List Int)), But p H H' ∧ Row K H' p ∧ H' g = some (.lst xs) ∧ Each (TI K H') xs hs ∧ hs.length = i ∧ ∀ ns ∈ hs, ns.Perm (rg n)
theorem HI.step {K : PySem.W.Frag} {p g : Addr} {H H1 H5 : Hp} {n i : Nat} (h : HI K p g H n i H1) (hg : H g = none) (hpg : p ≠ g) (b : But p H1 H5) (r : Row K H5 p) :
    ∃ xs, H5 g = some (.lst xs) ∧ xs.length = i ∧ ∀ (q : Addr) (ns : List Int) (H6 : Hp), Same H5 H6 → SqT K H6 q (ns.map V.int) → ns.Perm (rg n) → HI K p g H n (i + 1) (upd H6 g (.lst (xs ++ [.ref q]))) := by
  obtain ⟨xs, hs, hB, hR, e, hE, hl, hp⟩ := h
  have e5 := b _ _ e (Ne.symm hpg)
  refine ⟨xs, e5, hE.len.trans hl, fun q ns H6 s6 hq hpm => ⟨xs ++ [.ref q], hs ++ [ns], ?_, ?_, upd_same, ?_, ?_, ?_⟩⟩
  · exact ((hB.trans b).trans (But.same s6)).fresh hg
  · exact (r.same s6).lst_upd (s6 _ _ e5) hpg
  · have f1 : Fix H1 (upd H6 g (.lst (xs ++ [.ref q]))) := (hR.fix b).trans ((Fix.same s6).trans (Fix.lst (s6 _ _ e5)))
    exact Each.snoc ⟨q, rfl, Fix.tups (Fix.lst (s6 _ _ e5)) _ _ hq⟩ (hE.imp fun _ _ z => z.on f1.tups)
  · rw [List.length_append, hl]
    rfl
  · intro ns' hm
    rcases List.mem_append.mp hm with h1 | h1
    · exact hp _ h1
    · rw [List.mem_singleton.mp h1]
      exact hpm
section
variable {P : Program} {w : World} {K : PySem.W.Frag} {mg : Str → Option Value} {base : Heap}
def spHabit (K : PySem.W.Frag) : Sp := fun vs H Q _ => ∃ (p : Addr) (n : Nat), vs = [.ref p, .int n] ∧ Row K H p ∧ 2 ≤ n ∧ n ≤ 5 ∧ ∀ (H' : Hp) (v : V) (h : List (List Int)), Hb n h → But p H H' → Row K H' p → TII K H' v h → Q v H'
theorem ok_habit (F : Df K mg "_law_habit" st__law_habit ["row", "places"]) (B : Bu mg) (CT : Cal P w K mg base 1 "_law_taken" (spTaken K)) (CO : Cal P w K mg base 2 "_law_order" (spOrder K)) : Cal P w K mg base 3 "_law_habit" (spHabit K) := by
  refine mkCal F sc__law_habit (fun vs H Q E h => ?_) (fun f cdv A outer s H vs Q E hr h => ?_)
  · obtain ⟨p, n, rfl, _⟩ := h
    rfl
  · obtain ⟨p, n, rfl, hR, n2, n5, q⟩ := h
    refine ⟨_, pss_cons (ps_par (i := 2) (j := 3) rfl sc__law_habit.nd rfl rfl (by decide) rfl rfl (pa_cons (pc CT hr (pa_cons (pv 0) (pa_cons pe_int pa_nil))) (pa_cons (pe_lst pa_nil) pa_nil)) rfl)
      (pss_cons (ps_for PassesOwn.never rfl (pi_range1 (by rfl) B.range (pa_cons (pv 1) pa_nil)) (pg_name (i := 4) sc__law_habit.nd rfl (Or.inr rfl))
        (pss_one (ps_if (pt_cmpR op_eq (pv 2) pe_int (nomark _))
          (pss_one (ps_expr (pe_bm PySem.F.plainAttrs_list PySem.F.slot_list_append PySem.F.type_list_append mt_append (pv 3) (pa_cons (pe_tupleOf (by rfl) B.tuple (pe_lc (own := [("spot", 7)]) (g := gName 7) (tt := tYes) rfl sc__law_habit.nd
            (pi_range1 (by rfl) B.range (pa_cons (pv 1) pa_nil)) (blkOk_by (N := ["row", "places", "way", "found", "place", "moved", "other", "spot"]) (sc := defScope st__law_habit) (by decide +kernel)) (fun _ _ _ _ _ => pg_name (i := 7) sc__law_habit.nd rfl (Or.inl rfl))
            (fun _ _ _ _ _ => pts_nil) (fun _ _ _ _ _ => pe_op op_mod (pe_op op_add (pv 7) (pv 4)) (pv 1)))) pa_nil))))
        (pss_one (ps_if (pt_cmpR op_eq (pv 2) pe_int (nomark _))
          (pss_cons (ps_setLc (i := 5) (own := [("spot", 7)]) (g := gName 7) (tt := tYes) rfl sc__law_habit.nd rfl rfl (sw_true rfl rfl rfl (by decide +kernel)) (pi_range1 (by rfl) B.range (pa_cons (pv 1) pa_nil))
            (blkOk_by (N := ["row", "places", "way", "found", "place", "moved", "other", "spot"]) (sc := defScope st__law_habit) (by decide +kernel)) (fun _ _ _ _ _ => pg_name (i := 7) sc__law_habit.nd rfl (Or.inl rfl))
            (fun _ _ _ _ _ => pts_nil) (fun _ _ _ _ _ => pe_op op_add (pv 7) (pe_callTy call_int1 (by rfl) B.int (by decide +kernel) (pa_cons (pe_cmpR op_lt (pv 7) (pv 4) (nomark _)) pa_nil))))
          (pss_one (ps_expr (pe_bm PySem.F.plainAttrs_list PySem.F.slot_list_append PySem.F.type_list_append mt_append (pv 3) (pa_cons (pe_tupleOf (by rfl) B.tuple (pe_op op_cat (pe_op op_cat (pe_slice sl_list (pv 5) po_none (po_some (pv 4))) (pe_lst (pa_cons pe_int pa_nil)))
            (pe_slice sl_list (pv 5) (po_some (pe_op op_add (pv 4) pe_int)) po_none))) pa_nil)))))
        (pss_one (ps_if (pt_cmpR op_eq (pv 2) pe_int (nomark _))
          (pss_cons (ps_set (i := 6) sc__law_habit.nd rfl (.inl rfl) (pe_callB (call_max2 rfl) (by rfl) B.max (by decide +kernel) (pa_cons pe_int (pa_cons (pe_op op_sub (pv 4) pe_int) pa_nil))))
          (pss_cons (ps_set (i := 5) sc__law_habit.nd rfl (.inl rfl) (pe_listRg rfl (by rfl) B.list (prg_1 (by rfl) B.range (pv 1))))
          (pss_cons (ps_asg (pe_tup (pa_cons (pv 6) (pa_cons (pv 4) pa_nil))) (pg_tup rfl (pgs_cons (pg_sub (pv 5) (pv 4) set_list) (pgs_cons (pg_sub (pv 5) (pv 6) set_list) pgs_nil))))
          (pss_one (ps_expr (pe_bm PySem.F.plainAttrs_list PySem.F.slot_list_append PySem.F.type_list_append mt_append (pv 3) (pa_cons (pe_tupleOf (by rfl) B.tuple (pv 5)) pa_nil)))))))
        (pss_one (ps_if (PW.pt (pw_and (pt_cmpR op_eq (pv 2) pe_int (nomark _)) (pw_and1 (pt_cmpR op_eq (pc CT hr (pa_cons (pv 0) (pa_cons pe_int pa_nil))) pe_int (nomark _)))))
          (pss_one (ps_expr (pe_bm PySem.F.plainAttrs_list PySem.F.slot_list_append PySem.F.type_list_append mt_append (pv 3) (pa_cons (pe_tupRg rfl (by rfl) B.tuple (prg_1 (by rfl) B.range (pv 1))) pa_nil))))
          (pss_one (ps_expr (pe_bm PySem.F.plainAttrs_list PySem.F.slot_list_append PySem.F.type_list_append mt_append (pv 3) (pa_cons (pc CO hr (pa_cons (pv 0) (pa_cons (pv 1) pa_nil))) pa_nil))))))))))))) 
      (pss_one (ps_ret (pe_tupleOf (by rfl) B.tuple (pv 3))))), ?_⟩
    refine ⟨_, rfl, p, 5, rfl, hR, by decide, by decide, fun wy H0 w0 w1 hB0 hR0 => ⟨Nat.zero_le _, fun g hg0 => ⟨_, _, rfl, ?_⟩⟩⟩
    have hpg : p ≠ g := hR0.ne hg0
    have hg : H g = none := by
      cases e : H g with
      | none => rfl
      | some o =>
        rw [hB0 _ _ e (Ne.symm hpg)] at hg0
        cases hg0
    refine ⟨_, rfl, n, rfl, by omega, by omega, ?_⟩
    rw [Int.toNat_natCast]
    refine for_range (lo := 0) (n := n) (fun i σ H' => HI K p g H n i H' ∧ ∃ y4 y5 y6 y7, σ = [some (.ref p), some (.int n), some (.int wy), some (.ref g), y4, y5, y6, y7])
      ⟨⟨[], [], hB0.fresh hg, hR0.new hg0, upd_same, .nil, rfl, fun _ hm => absurd hm (List.not_mem_nil)⟩, none, none, none, none, rfl⟩ (fun i σ H1 hi h' => ?_) (fun σ H' h' => ?_)
    · obtain ⟨hI, y4, y5, y6, y7, rfl⟩ := h'
      obtain ⟨pT, pF, pS⟩ := perm_all n (by omega) i hi
      have hR1 : Row K H1 p := hI.choose_spec.choose_spec.2.1
      rw [Int.zero_add]
      refine ⟨_, rfl, rfl, _, rfl, ite2 (fun _ => ?_) (fun _ => ?_)⟩
      · -- turned round
        obtain ⟨xs, e1, xl, st⟩ := hI.step hg hpg (But.refl p H1) hR1
        refine ⟨_, rfl, .inl ⟨rfl, _, lstAt e1⟩, _, rfl, n, rfl, by omega, by omega, fun D hD => ?_⟩
        rw [Int.toNat_natCast]
        refine lc_range (lo := 0) (n := n) (fun j H' => Same H1 H' ∧ H' D = some (.lst (((List.range j).map fun s : Nat => ((s : Int) + (i : Int)) % (n : Int)).map V.int))) ⟨same_new hD, upd_same⟩ (fun j H' hj h' => ?_) (fun H' h' => ?_)
        · obtain ⟨sm, eD⟩ := h'
          refine ⟨rfl, _, rfl, _, rfl, _, _, rfl, rfl, _, rfl, _, n, rfl, rfl, by omega, _, eD, ?_, ?_, ?_⟩
          · rw [List.length_map, List.length_map, List.length_range]
            exact small1000 (by omega)
          · intro b o e
            rw [upd_ne (ne_of_none e hD)]
            exact sm b o e
          · rw [upd_same, range_more, Int.zero_add]
        · obtain ⟨sm, eD⟩ := h'
          refine .inl ⟨D, _, rfl, lstAt eD, fun t ht => ?_⟩
          have sT := sm.trans (same_new (o := .tup ((tF n i).map V.int)) ht)
          refine ⟨g, xs, .ref t, rfl, rfl, sT _ _ e1, small1000 (by omega), st t (tF n i) _ sT (tupAt upd_same) (List.isPerm_iff.mp pT), _, _, _, _, rfl⟩
      · refine ⟨_, rfl, rfl, _, rfl, ite2 (fun _ => ?_) (fun _ => ?_)⟩
        · -- to the front
          refine ⟨_, rfl, n, rfl, by omega, by omega, fun D hD => ?_⟩
          rw [Int.toNat_natCast]
          refine lc_range (lo := 0) (n := n) (fun j H' => Same H1 H' ∧ H' D = some (.lst (((List.range j).map fun s : Nat => (s : Int) + (if decide ((s : Int) < (i : Int)) = true then 1 else 0)).map V.int))) ⟨same_new hD, upd_same⟩ (fun j H' hj h' => ?_) (fun H' h' => ?_)
          · obtain ⟨sm, eD⟩ := h'
            refine ⟨rfl, _, rfl, _, rfl, _, rfl, _, _, rfl, rfl, .inr ⟨_, rfl, _, _, rfl, rfl, _, eD, ?_, ?_, ?_⟩⟩
            · rw [List.length_map, List.length_map, List.length_range]
              exact small1000 (by omega)
            · intro b o e
              rw [upd_ne (ne_of_none e hD)]
              exact sm b o e
            · rw [upd_same, range_more, Int.zero_add]
          · obtain ⟨sm, eD⟩ := h'
            have hR2 := hR1.same sm
            obtain ⟨xs, e1, xl, st⟩ := hI.step hg hpg (But.same sm) hR2
            have hDl : ((List.range n).map fun s : Nat => (s : Int) + (if decide ((s : Int) < (i : Int)) = true then 1 else 0)) = mF n i := rfl
            rw [hDl] at eD
            refine ⟨_, rfl, .inl ⟨rfl, _, lstAt e1⟩, _, rfl, _, rfl, (i : Int), rfl, D, _, rfl, lstAt eD, fun a1 ha1 => ⟨by show 1 ≤ sizeLine; decide, fun a2 ha2 => ?_⟩⟩
            rw [cut_to] at *
            have q1 := same_new (o := .lst (((mF n i).map V.int).take i)) ha1
            have q2 := same_new (o := .lst [.int 0]) ha2
            refine ⟨a1, a2, ((mF n i).map V.int).take i, [.int 0], rfl, rfl, q2 _ _ upd_same, upd_same, ?_, fun a3 ha3 => ?_⟩
            · rw [List.length_take, List.length_map, mF_len]
              exact Nat.le_of_lt (small1000 (by show min i n + 1 ≤ 1000; omega))
            have q3 := same_new (o := .lst (((mF n i).map V.int).take i ++ [.int 0])) ha3
            refine ⟨_, rfl, _, rfl, (i : Int), 1, rfl, rfl, (i : Int) + 1, rfl, D, _, rfl, lstAt (q3 _ _ (q2 _ _ (q1 _ _ eD))), fun a4 ha4 => ?_⟩
            have q4 := same_new (o := .lst (cutV ((mF n i).map V.int) (some ((i : Int) + 1)) none)) ha4
            have ec : cutV ((mF n i).map V.int) (some ((i : Int) + 1)) none = ((mF n i).map V.int).drop (i + 1) := cut_from _ (i + 1)
            refine ⟨a3, a4, _, _, rfl, rfl, q4 _ _ upd_same, upd_same, ?_, fun a5 ha5 => ?_⟩
            · rw [ec, List.length_append, List.length_take, List.length_drop, List.length_map, mF_len]
              exact Nat.le_of_lt (small1000 (by show min i n + 1 + (n - (i + 1)) ≤ 1000; omega))
            have q5 := same_new (o := .lst ((((mF n i).map V.int).take i ++ [.int 0]) ++ cutV ((mF n i).map V.int) (some ((i : Int) + 1)) none)) ha5
            refine .inl ⟨a5, _, rfl, lstAt upd_same, fun t ht => ?_⟩
            have q6 := same_new (o := .tup ((((mF n i).map V.int).take i ++ [.int 0]) ++ cutV ((mF n i).map V.int) (some ((i : Int) + 1)) none)) ht
            have qq := q1.trans (q2.trans (q3.trans (q4.trans (q5.trans q6))))
            have et : ((((mF n i).map V.int).take i ++ [.int 0]) ++ cutV ((mF n i).map V.int) (some ((i : Int) + 1)) none) = (fF n i).map V.int := by
              rw [ec]
              unfold fF
              rw [List.map_append, List.map_append, List.map_take, List.map_drop]
              rfl
            exact ⟨g, xs, .ref t, rfl, rfl, qq _ _ e1, small1000 (by omega), st t (fF n i) _ qq (tupAt (by rw [upd_same, et])) (List.isPerm_iff.mp pF), _, _, _, _, rfl⟩
        · refine ⟨_, rfl, rfl, _, rfl, ite2 (fun _ => ?_) (fun _ => ?_)⟩
          · -- neighbours
            refine ⟨_, rfl, (i : Int), 1, rfl, rfl, 0, (i : Int) - 1, rfl, ?_⟩
            have eo : (if (i : Int) - 1 > 0 then (i : Int) - 1 else 0) = ((i - 1 : Nat) : Int) := by
              split <;> omega
            rw [eo]
            refine ⟨_, rfl, n, rfl, ⟨by omega, by omega, by omega, by omega, by omega⟩, fun m hm => ?_⟩
            rw [rgV_rg] at *
            have hpm : p ≠ m := hR1.ne hm
            have s1 := same_new (o := .lst ((rg n).map V.int)) hm
            refine ⟨_, rfl, _, rfl, by show 2 ≤ sizeLine; decide, fun t ht => ?_⟩
            have s2 := same_new (o := .tup [.int ((i - 1 : Nat) : Int), .int (i : Int)]) ht
            have em := s2 _ _ (upd_same (H := H1) (a := m) (o := .lst ((rg n).map V.int)))
            have ll : ((rg n).map V.int).length = n := by rw [List.length_map, rg_len]
            refine ⟨t, _, rfl, tupAt upd_same, rfl, _, _, rfl, _, rfl, _, rfl, m, _, (i : Int), i, rfl, rfl, em, ?_, ?_⟩
            · have := ixN_int (n := ((rg n).map V.int).length) (k := (i : Int)) (by omega) (by omega)
              exact this
            refine ⟨_, _, rfl, _, rfl, _, rfl, m, _, ((i - 1 : Nat) : Int), i - 1, rfl, rfl, upd_same, ?_, rfl, ?_⟩
            · have := ixN_int (n := (((rg n).map V.int).set i (.int ((i - 1 : Nat) : Int))).length) (k := ((i - 1 : Nat) : Int)) (by omega) (by rw [List.length_set]; omega)
              exact this
            have et : (((rg n).map V.int).set i (.int ((i - 1 : Nat) : Int))).set (i - 1) (.int (i : Int)) = (sF n i).map V.int := by
              unfold sF
              rw [List.map_set, List.map_set]
            rw [et]
            have hR5 := ((hR1.same (s1.trans s2)).lst_upd (o := .lst (((rg n).map V.int).set i (.int ((i - 1 : Nat) : Int)))) em hpm).lst_upd (o := .lst ((sF n i).map V.int)) upd_same hpm
            obtain ⟨xs, e1, xl, st⟩ := hI.step hg hpg (((But.same (s1.trans s2)).fresh (o := .lst (((rg n).map V.int).set i (.int ((i - 1 : Nat) : Int)))) hm).fresh (o := .lst ((sF n i).map V.int)) hm) hR5
            refine ⟨_, rfl, .inl ⟨rfl, _, lstAt e1⟩, _, rfl, .inl ⟨m, _, rfl, lstAt upd_same, fun t2 ht2 => ?_⟩⟩
            have s6 := same_new (o := .tup ((sF n i).map V.int)) ht2
            exact ⟨g, xs, .ref t2, rfl, rfl, s6 _ _ e1, small1000 (by omega), st t2 (sF n i) _ s6 (tupAt upd_same) (List.isPerm_iff.mp pS), _, _, _, _, rfl⟩
          · have any : ∀ H3, But p H1 H3 → Row K H3 p → ∃ xs, H3 g = some (.lst xs) ∧ xs.length = i ∧ ∀ (q : Addr) (ns : List Int) (H6 : Hp), Same H3 H6 → SqT K H6 q (ns.map V.int) → ns.Perm (rg n) → HI K p g H n (i + 1) (upd H6 g (.lst (xs ++ [.ref q]))) := fun H3 b3 r3 => hI.step hg hpg b3 r3
            refine ⟨_, rfl, rfl, _, rfl, ite2 (fun _ => ?_) (fun _ => ?_)⟩
            · refine ⟨_, rfl, p, 2, rfl, hR1, by decide, by decide, fun k H3 k0 k1 hB3 hR3 => ⟨rfl, _, rfl, ite2 (fun _ => ?_) (fun _ => ?_)⟩⟩
              · obtain ⟨xs, e1, xl, st⟩ := any H3 hB3 hR3
                refine ⟨_, rfl, .inl ⟨rfl, _, lstAt e1⟩, _, rfl, n, rfl, ⟨by omega, by omega, by omega, by omega, by omega⟩, fun t ht => ?_⟩
                rw [rgV_rg] at *
                have s6 := same_new (o := .tup ((rg n).map V.int)) ht
                exact ⟨g, xs, .ref t, rfl, rfl, s6 _ _ e1, small1000 (by omega), st t (rg n) _ s6 (tupAt upd_same) (List.Perm.refl _), _, _, _, _, rfl⟩
              · obtain ⟨xs, e1, xl, st⟩ := any H3 hB3 hR3
                refine ⟨_, rfl, .inl ⟨rfl, _, lstAt e1⟩, _, rfl, _, rfl, p, n, rfl, hR3, by omega, fun H4 t ns pm b4 r4 _ e4 => ?_⟩
                obtain ⟨xs', e1', xl', st'⟩ := any H4 (hB3.trans b4) r4
                exact ⟨g, xs', .ref t, rfl, rfl, e1', small1000 (by omega), st' t ns _ (Same.refl H4) (.inl (FT.kx e4)) pm, _, _, _, _, rfl⟩
            · obtain ⟨xs, e1, xl, st⟩ := any H1 (But.refl p H1) hR1
              refine iteF ⟨_, rfl, .inl ⟨rfl, _, lstAt e1⟩, _, rfl, _, rfl, p, n, rfl, hR1, by omega, fun H4 t ns pm b4 r4 _ e4 => ?_⟩
              obtain ⟨xs', e1', xl', st'⟩ := any H4 b4 r4
              exact ⟨g, xs', .ref t, rfl, rfl, e1', small1000 (by omega), st' t ns _ (Same.refl H4) (.inl (FT.kx e4)) pm, _, _, _, _, rfl⟩
    · obtain ⟨⟨xs, hs, hB, hR', e, hE, hl, hp⟩, y4, y5, y6, y7, rfl⟩ := h'
      refine ⟨_, rfl, .inl ⟨g, xs, rfl, lstAt e, fun t ht => q _ _ hs ⟨hl, hp, n2, n5⟩ (hB.trans (But.same (same_new ht))) (hR'.new ht) ⟨t, xs, rfl, tupAt upd_same, hE.imp fun _ _ z => z.on (Same.tups (same_new ht))⟩⟩⟩
end
end RH
set_option Elab.async false
set_option linter.all false
set_option maxRecDepth 100000
set_option maxHeartbeats 2000000
namespace RH
open PySem PySem.Spec PyProof.Rows L2
/-! ### the checks of one shelf, a touch -/
section
variable {P : Program} {w : World} {K : PySem.W.Frag} {mg : Str → Option Value} {base : Heap}
def spCheckNumber : Sp := fun vs H Q _ => ∃ i lo hi : Int, vs = [.int i, .int lo, .int hi] ∧ lo ≤ i ∧ i ≤ hi ∧ Q .non H
theorem ok_check_number (F : Df K mg "check_number" st_check_number ["value", "low", "high"]) (C2 : Cal P w K mg base 2 "is_number" spIsNumber) : Cal P w K mg base 3 "check_number" spCheckNumber := by
  refine mkCal F sc_check_number (fun vs H Q E h => ?_) (fun f cdv A outer s H vs Q E hr h => ?_)
  · obtain ⟨i, lo, hi, rfl, _⟩ := h
    rfl
  · obtain ⟨i, lo, hi, rfl, h1, h2, q⟩ := h
    refine ⟨_, pss_one (ps_if (pt_not (pt_val (pc C2 hr (pa_cons (pv 0) (pa_cons (pv 1) (pa_cons (pv 2) pa_nil)))))) (pss_one ps_no) pss_nil), ?_⟩
    exact ⟨_, rfl, _, rfl, _, rfl, i, lo, hi, rfl, _, rfl, ifF (by rw [decide_eq_true h1, decide_eq_true h2]; rfl) q⟩
theorem lay_yes {n : Nat} {L : List Int} (h : L.Perm (rg n)) : isLay n L = true := by
  unfold isLay
  exact List.isPerm_iff.mpr h
def spCheckHabit (K : PySem.W.Frag) : Sp := fun vs H Q _ => ∃ (v : V) (h : List (List Int)) (n : Nat), vs = [v] ∧ TII K H v h ∧ Hb n h ∧ ∀ H', Same H H' → Q .non H'
theorem ok_check_habit (F : Df K mg "check_habit" st_check_habit ["habit"]) (B : Bu mg) (c2 : ∃ t, mg "FEWEST_PLACES" = some (.int 2 t)) (c5 : ∃ t, mg "MOST_PLACES" = some (.int 5 t))
    (C1 : Cal P w K mg base 1 "is_row" (spIsRow K)) (C5 : Cal P w K mg base 5 "is_layout" (spIsLayout K)) : Cal P w K mg base 6 "check_habit" (spCheckHabit K) := by
  refine mkCal F sc_check_habit (fun vs H Q E h => ?_) (fun f cdv A outer s H vs Q E hr h => ?_)
  · obtain ⟨v, h, n, rfl, _⟩ := h
    rfl
  · obtain ⟨v, h, n, rfl, ⟨a, xs, rfl, hS, hE⟩, hb, q⟩ := h
    have hxl : xs.length = n := hE.len.trans hb.len
    have n2 := hb.lo
    have n5 := hb.hi
    refine ⟨_, pss_cons (ps_if (pt_not (pt_val (pc C1 hr (pa_cons (pv 0) (pa_cons (pk c2) (pa_cons (pk c5) pa_nil)))))) (pss_one ps_no) pss_nil)
      (pss_one (ps_for PassesOwn.never rfl (pi_enumT (by rfl) B.enumerate (pa_cons (pv 0) pa_nil)) (pg_tup rfl (pgs_cons (pg_name (i := 1) sc_check_habit.nd rfl (.inl rfl)) (pgs_cons (pg_name (i := 2) sc_check_habit.nd rfl (.inl rfl)) pgs_nil)))
        (pss_one (ps_if (pt_not (pt_val (pc C5 hr (pa_cons (pv 2) (pa_cons (pe_callB (cl_len K) (by rfl) B.len PySem.boot_len (pa_cons (pv 0) pa_nil)) pa_nil))))) (pss_one ps_no) pss_nil)))), ?_⟩
    refine ⟨_, rfl, a, xs, 2, 5, rfl, hS, _, rfl, ifF ?_ ?_⟩
    · rw [hxl, decide_eq_true (by omega), decide_eq_true (by omega)]
      rfl
    refine ⟨_, rfl, a, xs, rfl, hS, ?_⟩
    refine for_enumT (xs := xs) (fun i σ H' => Same H H' ∧ ∃ y1 y2, σ = [some (.ref a), y1, y2]) ⟨Same.refl H, none, none, rfl⟩ (fun i σ H' h' => onT h'.1 hS) (fun i x T σ H' hx h' hT => ?_) (fun σ H' h' => q H' h'.1)
    obtain ⟨sm, y1, y2, rfl⟩ := h'
    obtain ⟨ns, hn, hTx⟩ := hE.at hx
    have hpm := hb.perm ns (List.mem_of_getElem? hn)
    have sT : Same H (upd H' T (.tup [.int (i : Nat), x])) := sm.trans (same_new hT)
    refine ⟨T, _, rfl, tupAt upd_same, rfl, _, _, rfl, _, _, rfl, rfl, _, rfl, _, rfl, a, xs, rfl, .inr (onT sT hS), x, ns, n, by rw [hxl]; rfl, hTx.on (fun _ _ z => onT sT z), by rw [perm_len hpm]; omega, by omega, fun H3 sm3 => ⟨_, rfl, ifF (by rw [lay_yes hpm]; rfl) ⟨sT.trans sm3, _, _, rfl⟩⟩⟩
def spCheckLayout (K : PySem.W.Frag) : Sp := fun vs H Q _ => ∃ (v : V) (L : List Int) (n : Nat), vs = [v, .int n] ∧ TI K H v L ∧ L.Perm (rg n) ∧ n ≤ 5 ∧ ∀ H', Same H H' → Q .non H'
theorem ok_check_layout (F : Df K mg "check_layout" st_check_layout ["layout", "places"]) (C5 : Cal P w K mg base 5 "is_layout" (spIsLayout K)) : Cal P w K mg base 6 "check_layout" (spCheckLayout K) := by
  refine mkCal F sc_check_layout (fun vs H Q E h => ?_) (fun f cdv A outer s H vs Q E hr h => ?_)
  · obtain ⟨v, L, n, rfl, _⟩ := h
    rfl
  · obtain ⟨v, L, n, rfl, hT, hp, n5, q⟩ := h
    refine ⟨_, pss_one (ps_if (pt_not (pt_val (pc C5 hr (pa_cons (pv 0) (pa_cons (pv 1) pa_nil))))) (pss_one ps_no) pss_nil), ?_⟩
    exact ⟨_, rfl, _, rfl, v, L, n, rfl, hT, by rw [perm_len hp]; omega, by omega, fun H1 sm => ⟨_, rfl, ifF (by rw [lay_yes hp]; rfl) (q H1 sm)⟩⟩
def spCheckPlace : Sp := fun vs H Q _ => ∃ (i : Int) (n : Nat), vs = [.int i, .int n] ∧ InR n i ∧ Q .non H
theorem ok_check_place (F : Df K mg "check_place" st_check_place ["place", "places"]) (C3 : Cal P w K mg base 3 "is_place" spIsPlace) : Cal P w K mg base 4 "check_place" spCheckPlace := by
  refine mkCal F sc_check_place (fun vs H Q E h => ?_) (fun f cdv A outer s H vs Q E hr h => ?_)
  · obtain ⟨i, n, rfl, _⟩ := h
    rfl
  · obtain ⟨i, n, rfl, hi, q⟩ := h
    refine ⟨_, pss_one (ps_if (pt_not (pt_val (pc C3 hr (pa_cons (pv 0) (pa_cons (pv 1) pa_nil))))) (pss_one ps_no) pss_nil), ?_⟩
    exact ⟨_, rfl, _, rfl, i, n, rfl, _, rfl, ifF (by rw [decide_eq_true hi.1, decide_eq_true (by have := hi.2; omega)]; rfl) q⟩
def spPlacesOf (K : PySem.W.Frag) : Sp := fun vs H Q _ => ∃ (v : V) (h : List (List Int)) (n : Nat), vs = [v] ∧ TII K H v h ∧ Hb n h ∧ ∀ q, H q = none → Q (.ref q) (upd H q (.tup ((rg n).map V.int)))
theorem ok_places_of (F : Df K mg "places_of_habit" st_places_of_habit ["habit"]) (B : Bu mg) : Cal P w K mg base 1 "places_of_habit" (spPlacesOf K) := by
  refine mkCal F sc_places_of_habit (fun vs H Q E h => ?_) (fun f cdv A outer s H vs Q E hr h => ?_)
  · obtain ⟨v, h, n, rfl, _⟩ := h
    rfl
  · obtain ⟨v, h, n, rfl, ⟨a, xs, rfl, hS, hE⟩, hb, q⟩ := h
    have hxl : xs.length = n := hE.len.trans hb.len
    have n5 := hb.hi
    refine ⟨_, pss_one (ps_ret (pe_tupRg rfl (by rfl) B.tuple (prg_1 (by rfl) B.range (pe_callB (cl_len K) (by rfl) B.len PySem.boot_len (pa_cons (pv 0) pa_nil))))), ?_⟩
    refine ⟨_, rfl, a, xs, rfl, .inr hS, (xs.length : Int), rfl, ?_⟩
    rw [hxl]
    refine ⟨⟨by omega, by omega, by omega, by omega, by omega⟩, fun t ht => ?_⟩
    rw [rgV_rg]
    exact q t ht
def spMove (K : PySem.W.Frag) : Sp := fun vs H Q _ => ∃ (v : V) (h : List (List Int)) (n : Nat) (a : Addr) (L : List Int) (p : Int), vs = [v, .ref a, .int p] ∧ TII K H v h ∧ Hb n h ∧ SqT K H a (L.map V.int) ∧ (∀ i ∈ L, InR n i) ∧ L.length ≤ 1000 ∧ InR n p ∧
  ∀ H' q, Same H H' → H q = none → FT H' q (stp h p L) → Q (.ref q) H'
theorem ok_move (F : Df K mg "move" st_move ["habit", "layout", "place"]) (B : Bu mg) : Cal P w K mg base 1 "move" (spMove K) := by
  refine mkCal F sc_move (fun vs H Q E h => ?_) (fun f cdv A outer s H vs Q E hr h => ?_)
  · obtain ⟨v, h, n, a, L, p, rfl, _⟩ := h
    rfl
  · obtain ⟨v, h, n, a, L, p, rfl, ⟨ah, xs, rfl, hS, hE⟩, hb, hL, hin, hlen, hp, q⟩ := h
    refine ⟨_, pss_cons (ps_set (i := 3) sc_move.nd rfl (.inr rfl) (pe_ix ix_tup (pv 0) (pv 2) (fun _ _ => rfl)))
      (pss_one (ps_ret (pe_tupleF (by rfl) B.tuple (pe_lc (own := [("stood", 4)]) (g := gName 4) (tt := tYes) rfl sc_move.nd (pi_tup (pv 1)) (blkOk_by (N := ["habit", "layout", "place", "moves", "stood"]) (sc := defScope st_move) (by decide +kernel))
        (fun _ _ _ _ _ => pg_name (i := 4) sc_move.nd rfl (Or.inl rfl)) (fun _ _ _ _ _ => pts_nil) (fun _ _ _ _ _ => pe_ix (ixT K) (pv 3) (pv 4) (fun _ _ => rfl)))))), ?_⟩
    obtain ⟨a1, ns1, e1, s1, _⟩ := ix2 hE hb hp hp
    refine ⟨_, rfl, _, rfl, ah, xs, p, _, rfl, rfl, hS, e1, ?_⟩
    refine ⟨_, rfl, a, rfl, ⟨_, hL⟩, fun D hD => ?_⟩
    refine lc_tup (xs := L.map V.int) (fun i H' => Same H H' ∧ H' D = some (.lst (((L.take i).map (mv h p)).map V.int))) ⟨same_new hD, upd_same⟩ (fun i H' _ h' => onT h'.1 hL) (fun i x H' hx h' => ?_) (fun H' h' => ?_)
    · obtain ⟨st, hst, rfl⟩ := map_at hx
      obtain ⟨sm, eD⟩ := h'
      obtain ⟨a2, ns2, e2, s2, e3⟩ := ix2 hE hb hp (hin st (List.mem_of_getElem? hst))
      rw [e1] at e2
      cases e2
      refine ⟨rfl, _, rfl, _, rfl, a1, _, st, _, rfl, rfl, onT sm s2, e3, _, eD, ?_, ?_, ?_⟩
      · rw [List.length_map, List.length_map, List.length_take]
        exact small1000 (by omega)
      · intro b o e
        rw [upd_ne (ne_of_none e hD)]
        exact sm b o e
      · rw [upd_same, take_more hst, List.map_append, List.map_append]
        rfl
    · obtain ⟨sm, eD⟩ := h'
      rw [List.length_map, List.take_length] at eD
      refine ⟨D, _, rfl, lstAt eD, fun t ob ht hob => q _ t (sm.trans (same_new ht)) ?_ ⟨ob, upd_same, hob⟩⟩
      cases e : H t with
      | none => rfl
      | some o =>
        rw [sm _ _ e] at ht
        cases ht
end
end RH
set_option Elab.async false
set_option linter.all false
set_option maxRecDepth 100000
set_option maxHeartbeats 2000000
namespace RH
open PySem PySem.Spec PyProof.Rows L2
/-! ### what the program tells of words -/
theorem sameU {H H' : Hp} {p : Addr} {o : HO} (a : Same H H') (h : H p = none) : Same H (upd H' p o) := fun b u e => by
  rw [upd_ne (ne_of_none e h)]
  exact a b u e
theorem none_of {H H' : Hp} {p : Addr} (a : Same H H') (h : H' p = none) : H p = none := by
  cases e : H p with
  | none => rfl
  | some o =>
    rw [a _ _ e] at h
    cases h
theorem FT.same {H H' : Hp} {b : Addr} {s : List Int} (e : Same H H') (h : FT H b s) : FT H' b s := let ⟨ob, h1, h2⟩ := h; ⟨ob, e _ _ h1, h2⟩
theorem FT.fix {H H' : Hp} {b : Addr} {s : List Int} (f : Fix H H') (h : FT H b s) : FT H' b s := let ⟨ob, h1, h2⟩ := h; ⟨ob, f _ _ h1 (fun xs z => nomatch z), h2⟩
theorem FT.sq {K : PySem.W.Frag} {H : Hp} {b : Addr} {s : List Int} (h : FT H b s) : SqT K H b (s.map V.int) := .inl h.kx
theorem shaped_tup (ns : List Int) : SeqAt.shaped (.tuple (ns.map PyData.int)) = true := by
  simp [SeqAt.shaped, PyData.canLay0, PyData.depth, PySem.W.ke_canLayAll0, PySem.W.ke_depthAll]
theorem eqv_tup (ns ms : List Int) : PyData.eqv (.tuple (ns.map PyData.int)) (.tuple (ms.map PyData.int)) = decide (ns = ms) := by
  rw [PyData.eqv]
  exact PySem.W.ked_eqvAll ns ms
theorem opEqD {X : Cx} (K : PySem.W.Frag) (hu : X.A.units + 64 < cLine) (h : X.K = K := by rfl) : OpR X (compareOp .Eq) (rEqD K) := by
  subst h
  exact op_eqD hu
theorem slT_to {K : PySem.W.Frag} {H : Hp} {a : Addr} {xs : List V} {Q : VK} (z : Int) (k : Nat) (hz : z = (k : Int)) (h : SqT K H a xs) (q : ∀ b H2, Same H H2 → SqT K H2 b (xs.take k) → Q (.ref b) H2) : rSlA K (.ref a) none (some z) H Q := by
  subst hz
  refine ⟨a, xs, rfl, h, fun hf => q a H (Same.refl H) ?_, fun _ p hp => q p _ (same_new hp) (tupAt (by rw [upd_same, cut_to]))⟩
  have e := hf.2
  rw [HT.sIx_nat] at e
  rw [List.take_of_length_le (by omega)]
  exact h
theorem ixRow {K : PySem.W.Frag} {H : Hp} {xs : List V} {h : List (List Int)} {n : Nat} (hE : Each (TI K H) xs h) (q : Hb n h) {t : Int} (ht : InR n t) : ∃ a' : Addr, atI xs t = some (.ref a') ∧ SqT K H a' ((h.getD t.toNat []).map V.int) := by
  obtain ⟨ns, e1, _⟩ := q.at ht.1 ht.2 ht.1 ht.2
  obtain ⟨v, e3, a', rfl, hS⟩ := hE.of e1
  refine ⟨a', at_int ht.1 e3, ?_⟩
  rw [List.getD_eq_getElem?_getD, e1]
  exact hS
section
variable {P : Program} {w : World} {K : PySem.W.Frag} {mg : Str → Option Value} {base : Heap}
def spIsWord (K : PySem.W.Frag) : Sp := fun vs H Q _ => ∃ (v : V) (ws : List Int) (p : Nat), vs = [v, .int p] ∧ TI K H v ws ∧ ws.length ≤ 400 ∧ (∀ t ∈ ws, InR p t) ∧ ∀ H', Same H H' → Q (.bl true) H'
theorem ok_is_word (F : Df K mg "is_word" st_is_word ["value", "places"]) (c400 : ∃ t, mg "MOST_TOUCHES" = some (.int 400 t)) (C1 : Cal P w K mg base 1 "is_row" (spIsRow K)) (C4 : Cal P w K mg base 4 "are_places" (spArePlaces K)) :
    Cal P w K mg base 5 "is_word" (spIsWord K) := by
  refine mkCal F sc_is_word (fun vs H Q E h => ?_) (fun f cdv A outer s H vs Q E hr h => ?_)
  · obtain ⟨v, ws, p, rfl, _⟩ := h
    rfl
  · obtain ⟨v, ws, p, rfl, ⟨a, rfl, hS⟩, hl, hin, q⟩ := h
    refine ⟨_, pss_one (ps_ret (pe_and (pc C1 hr (pa_cons (pv 0) (pa_cons pe_int (pa_cons (pk c400) pa_nil)))) (pe_one (pc C4 hr (pa_cons (pv 0) (pa_cons (pv 1) pa_nil)))))), ?_⟩
    refine ⟨_, rfl, a, ws.map V.int, 0, 400, rfl, hS, _, rfl, ifT ?_ ⟨_, rfl, _, rfl, .ref a, ws, p, rfl, ⟨a, rfl, hS⟩, by omega, fun H1 s1 => ?_⟩⟩
    · rw [List.length_map, decide_eq_true (by omega), decide_eq_true (by omega)]
      rfl
    · rw [inP_in hin]
      exact q H1 s1
def spCheckWord (K : PySem.W.Frag) : Sp := fun vs H Q _ => ∃ (v : V) (ws : List Int) (p : Nat), vs = [v, .int p] ∧ TI K H v ws ∧ ws.length ≤ 400 ∧ (∀ t ∈ ws, InR p t) ∧ ∀ H', Same H H' → Q .non H'
theorem ok_check_word (F : Df K mg "check_word" st_check_word ["word", "places"]) (C5 : Cal P w K mg base 5 "is_word" (spIsWord K)) : Cal P w K mg base 6 "check_word" (spCheckWord K) := by
  refine mkCal F sc_check_word (fun vs H Q E h => ?_) (fun f cdv A outer s H vs Q E hr h => ?_)
  · obtain ⟨v, ws, p, rfl, _⟩ := h
    rfl
  · obtain ⟨v, ws, p, rfl, hT, hl, hin, q⟩ := h
    refine ⟨_, pss_one (ps_if (pt_not (pt_val (pc C5 hr (pa_cons (pv 0) (pa_cons (pv 1) pa_nil))))) (pss_one ps_no) pss_nil), ?_⟩
    exact ⟨_, rfl, _, rfl, v, ws, p, rfl, hT, hl, hin, fun H1 sm => ⟨_, rfl, ifF rfl (q H1 sm)⟩⟩
/-- a habit, a layout and a word of n places -/
structure HLW (K : PySem.W.Frag) (H : Hp) (v : V) (h : List (List Int)) (n : Nat) (a : Addr) (L : List Int) (wv : V) (ws : List Int) : Prop where
  hT : TII K H v h
  hb : Hb n h
  fL : FT H a L
  hL : L.Perm (rg n)
  hW : TI K H wv ws
  hw : ∀ t ∈ ws, InR n t
  len : ws.length ≤ 400
theorem HLW.same {K : PySem.W.Frag} {H H' : Hp} {v : V} {h : List (List Int)} {n : Nat} {a : Addr} {L : List Int} {wv : V} {ws : List Int} (g : HLW K H v h n a L wv ws) (s : Same H H') : HLW K H' v h n a L wv ws :=
  ⟨g.hT.on (Same.tups s), g.hb, g.fL.same s, g.hL, g.hW.on (Same.tups s), g.hw, g.len⟩
theorem HLW.fix {K : PySem.W.Frag} {H H' : Hp} {v : V} {h : List (List Int)} {n : Nat} {a : Addr} {L : List Int} {wv : V} {ws : List Int} (g : HLW K H v h n a L wv ws) (s : Fix H H') : HLW K H' v h n a L wv ws :=
  ⟨g.hT.on s.tups, g.hb, g.fL.fix s, g.hL, g.hW.on s.tups, g.hw, g.len⟩
def spCheckWos (K : PySem.W.Frag) : Sp := fun vs H Q _ => ∃ (v : V) (h : List (List Int)) (n : Nat) (a : Addr) (L : List Int) (wv : V) (ws : List Int), vs = [v, .ref a, wv] ∧ HLW K H v h n a L wv ws ∧ ∀ H', Same H H' → Q .non H'
theorem ok_check_wos (F : Df K mg "check_word_on_shelf" st_check_word_on_shelf ["habit", "layout", "word"]) (B : Bu mg) (CH : Cal P w K mg base 6 "check_habit" (spCheckHabit K)) (CL : Cal P w K mg base 6 "check_layout" (spCheckLayout K)) (CW : Cal P w K mg base 6 "check_word" (spCheckWord K)) :
    Cal P w K mg base 7 "check_word_on_shelf" (spCheckWos K) := by
  refine mkCal F sc_check_word_on_shelf (fun vs H Q E h => ?_) (fun f cdv A outer s H vs Q E hr h => ?_)
  · obtain ⟨v, h, n, a, L, wv, ws, rfl, _⟩ := h
    rfl
  · obtain ⟨v, h, n, a, L, wv, ws, rfl, g, q⟩ := h
    obtain ⟨ah, xs, rfl, hS, hE⟩ := id g.hT
    have hxl : xs.length = n := hE.len.trans g.hb.len
    have n5 := g.hb.hi
    refine ⟨_, pss_cons (ps_expr (pc CH hr (pa_cons (pv 0) pa_nil)))
      (pss_cons (ps_expr (pc CL hr (pa_cons (pv 1) (pa_cons (pe_callB (cl_len K) (by rfl) B.len PySem.boot_len (pa_cons (pv 0) pa_nil)) pa_nil))))
      (pss_one (ps_expr (pc CW hr (pa_cons (pv 2) (pa_cons (pe_callB (cl_len K) (by rfl) B.len PySem.boot_len (pa_cons (pv 0) pa_nil)) pa_nil)))))), ?_⟩
    refine ⟨_, rfl, _, h, n, rfl, g.hT, g.hb, fun H1 s1 => ?_⟩
    refine ⟨_, rfl, _, rfl, ah, xs, rfl, .inr (onT s1 hS), _, L, n, by rw [hxl]; rfl, ⟨a, rfl, (g.same s1).fL.sq⟩, g.hL, n5, fun H2 s2 => ?_⟩
    have s12 := s1.trans s2
    refine ⟨_, rfl, _, rfl, ah, xs, rfl, .inr (onT s12 hS), wv, ws, n, by rw [hxl]; rfl, (g.same s12).hW, g.len, g.hw, fun H3 s3 => q H3 (s12.trans s3)⟩
def spMoveAlong (K : PySem.W.Frag) : Sp := fun vs H Q _ => ∃ (v : V) (h : List (List Int)) (n : Nat) (a : Addr) (L : List Int) (wv : V) (ws : List Int), vs = [v, .ref a, wv] ∧ HLW K H v h n a L wv ws ∧ ∀ H' q, Same H H' → FT H' q (mvs h L ws) → Q (.ref q) H'
theorem ok_move_along (F : Df K mg "move_along" st_move_along ["habit", "layout", "word"]) (CM : Cal P w K mg base 1 "move" (spMove K)) : Cal P w K mg base 2 "move_along" (spMoveAlong K) := by
  refine mkCal F sc_move_along (fun vs H Q E h => ?_) (fun f cdv A outer s H vs Q E hr h => ?_)
  · obtain ⟨v, h, n, a, L, wv, ws, rfl, _⟩ := h
    rfl
  · obtain ⟨v, h, n, a, L, wv, ws, rfl, g, q⟩ := h
    obtain ⟨aw, rfl, hW⟩ := id g.hW
    refine ⟨_, pss_cons (ps_for PassesOwn.never rfl (pi_tup (pv 2)) (pg_name (i := 3) sc_move_along.nd rfl (.inl rfl)) (pss_one (ps_set (i := 1) sc_move_along.nd rfl (.inl rfl) (pc CM hr (pa_cons (pv 0) (pa_cons (pv 1) (pa_cons (pv 3) pa_nil)))))))
      (pss_one (ps_ret (pv 1))), ?_⟩
    refine ⟨_, rfl, aw, rfl, ⟨_, hW⟩, ?_⟩
    refine for_tup (xs := ws.map V.int) (fun i σ H' => Same H H' ∧ ∃ q1 y, σ = [some v, some (.ref q1), some (.ref aw), y] ∧ FT H' q1 (mvs h L (ws.take i))) ⟨Same.refl H, a, none, rfl, g.fL⟩ (fun i σ H' _ h' => onT h'.1 hW) (fun i x σ H' hx h' => ?_) (fun σ H' h' => ?_)
    · obtain ⟨t, ht, rfl⟩ := map_at hx
      obtain ⟨sm, q1, y, rfl, f1⟩ := h'
      have hp1 := g.hb.mvs_perm (ws := ws.take i) (fun u hu => g.hw u (List.mem_of_mem_take hu)) g.hL
      have n5 := g.hb.hi
      refine ⟨_, rfl, _, rfl, _, rfl, v, h, n, q1, _, t, rfl, (g.same sm).hT, g.hb, f1.sq, fun u hu => perm_in hp1 hu, by rw [perm_len hp1]; omega, g.hw t (List.mem_of_getElem? ht), fun H2 q2 s2 _ f2 => ⟨sm.trans s2, q2, _, rfl, ?_⟩⟩
      rw [mvs_more ht]
      exact f2
    · obtain ⟨sm, q1, y, rfl, f1⟩ := h'
      rw [List.length_map, List.take_length] at f1
      exact ⟨_, rfl, q H' q1 sm f1⟩
def spBookAt (K : PySem.W.Frag) : Sp := fun vs H Q _ => ∃ (v : V) (h : List (List Int)) (n : Nat) (a : Addr) (L : List Int) (wv : V) (ws : List Int) (pl : Int), vs = [v, .ref a, wv, .int pl] ∧ HLW K H v h n a L wv ws ∧ InR n pl ∧ ∀ H', Same H H' → Q (.int ((mvs h L ws).idxOf pl : Nat)) H'
theorem ok_book_at (F : Df K mg "book_at" st_book_at ["habit", "layout", "word", "place"]) (B : Bu mg) (CW : Cal P w K mg base 7 "check_word_on_shelf" (spCheckWos K)) (CP : Cal P w K mg base 4 "check_place" spCheckPlace) (CA : Cal P w K mg base 2 "move_along" (spMoveAlong K)) :
    Cal P w K mg base 8 "book_at" (spBookAt K) := by
  refine mkCal F sc_book_at (fun vs H Q E h => ?_) (fun f cdv A outer s H vs Q E hr h => ?_)
  · obtain ⟨v, h, n, a, L, wv, ws, pl, rfl, _⟩ := h
    rfl
  · obtain ⟨v, h, n, a, L, wv, ws, pl, rfl, g, hpl, q⟩ := h
    obtain ⟨ah, xs, rfl, hS, hE⟩ := id g.hT
    have hxl : xs.length = n := hE.len.trans g.hb.len
    refine ⟨_, pss_cons (ps_expr (pc CW hr (pa_cons (pv 0) (pa_cons (pv 1) (pa_cons (pv 2) pa_nil)))))
      (pss_cons (ps_expr (pc CP hr (pa_cons (pv 3) (pa_cons (pe_callB (cl_len K) (by rfl) B.len PySem.boot_len (pa_cons (pv 0) pa_nil)) pa_nil))))
      (pss_one (ps_ret (pe_tidxF (pc CA hr (pa_cons (pv 0) (pa_cons (pv 1) (pa_cons (pv 2) pa_nil)))) (pv 3))))), ?_⟩
    refine ⟨_, rfl, _, rfl, _, rfl, _, h, n, a, L, wv, ws, rfl, g, fun H1 s1 => ?_⟩
    refine ⟨_, rfl, _, rfl, ah, xs, rfl, .inr (onT s1 hS), pl, n, by rw [hxl]; rfl, hpl, ?_⟩
    refine ⟨_, rfl, _, rfl, _, rfl, _, h, n, a, L, wv, ws, rfl, g.same s1, fun H2 q2 s2 f2 => ?_⟩
    have hp2 := g.hb.mvs_perm g.hw g.hL
    exact ⟨q2, _, rfl, f2, _, rfl, pl, rfl, f2, perm_mem hp2 hpl, q H2 (s1.trans s2)⟩
def spBooksOf (K : PySem.W.Frag) : Sp := fun vs H Q _ => ∃ (v : V) (h : List (List Int)) (n : Nat) (a : Addr) (L : List Int) (wv : V) (ws : List Int), vs = [v, .ref a, wv] ∧ HLW K H v h n a L wv ws ∧ ∀ H' q, Same H H' → H' q = some (.tup ((bksN h L ws ws.length).map V.int)) → Q (.ref q) H'
theorem ok_books_of (F : Df K mg "books_of" st_books_of ["habit", "layout", "word"]) (B : Bu mg) (CW : Cal P w K mg base 7 "check_word_on_shelf" (spCheckWos K)) (CM : Cal P w K mg base 1 "move" (spMove K)) :
    Cal P w K mg base 8 "books_of" (spBooksOf K) := by
  refine mkCal F sc_books_of (fun vs H Q E h => ?_) (fun f cdv A outer s H vs Q E hr h => ?_)
  · obtain ⟨v, h, n, a, L, wv, ws, rfl, _⟩ := h
    rfl
  · obtain ⟨v, h, n, a, L, wv, ws, rfl, g0, q⟩ := h
    refine ⟨_, pss_cons (ps_expr (pc CW hr (pa_cons (pv 0) (pa_cons (pv 1) (pa_cons (pv 2) pa_nil)))))
      (pss_cons (ps_set (i := 3) sc_books_of.nd rfl (.inl rfl) (pe_lst pa_nil))
      (pss_cons (ps_for PassesOwn.never rfl (pi_tup (pv 2)) (pg_name (i := 4) sc_books_of.nd rfl (.inl rfl))
        (pss_cons (ps_expr (pe_bm PySem.F.plainAttrs_list PySem.F.slot_list_append PySem.F.type_list_append mt_append (pv 3) (pa_cons (pe_tidxF (pv 1) (pv 4)) pa_nil)))
        (pss_one (ps_set (i := 1) sc_books_of.nd rfl (.inl rfl) (pc CM hr (pa_cons (pv 0) (pa_cons (pv 1) (pa_cons (pv 4) pa_nil))))))))
      (pss_one (ps_ret (pe_tupleOf (by rfl) B.tuple (pv 3)))))), ?_⟩
    refine ⟨_, rfl, _, rfl, _, rfl, _, h, n, a, L, wv, ws, rfl, g0, fun H1 s1 => ⟨Nat.zero_le _, fun b hb1 => ?_⟩⟩
    have g := g0.same (s1.trans (same_new (o := .lst []) hb1))
    obtain ⟨aw, rfl, hW⟩ := id g.hW
    have eb : (upd H1 b (.lst [])) b = some (.lst []) := upd_same
    have sb : ∀ H' o, Same H1 H' → Same H1 (upd H' b o) := fun H' o z => sameU z hb1
    refine ⟨_, rfl, aw, rfl, ⟨_, hW⟩, ?_⟩
    refine for_tup (xs := ws.map V.int) (fun i σ H' => Fix (upd H1 b (.lst [])) H' ∧ Same H1 H' ∧ H' b = some (.lst ((bksN h L ws i).map V.int)) ∧ i ≤ ws.length ∧ ∃ q1 y, σ = [some v, some (.ref q1), some (.ref aw), some (.ref b), y] ∧ FT H' q1 (mvs h L (ws.take i)))
      ⟨Fix.refl _, same_new hb1, eb, Nat.zero_le _, a, none, rfl, g.fL⟩ (fun i σ H' _ h' => h'.1.tups _ _ hW) (fun i x σ H' hx h' => ?_) (fun σ H' h' => ?_)
    · obtain ⟨t, ht, rfl⟩ := map_at hx
      obtain ⟨fx, sm, e, hi, q1, y, rfl, f1⟩ := h'
      have hil : i < ws.length := (List.getElem?_eq_some_iff.mp ht).1
      have hp1 := g.hb.mvs_perm (ws := ws.take i) (fun u hu => g.hw u (List.mem_of_mem_take hu)) g.hL
      have n5 := g.hb.hi
      have htr := g.hw t (List.mem_of_getElem? ht)
      refine ⟨_, rfl, .inl ⟨rfl, _, lstAt e⟩, _, rfl, q1, _, rfl, f1, _, rfl, t, rfl, f1, perm_mem hp1 htr, b, _, _, rfl, rfl, e, ?_, ?_⟩
      · rw [List.length_map, bksN_len]
        exact small1000 (by have := g.len; omega)
      have f2 : Fix H' (upd H' b (.lst ((bksN h L ws i).map V.int ++ [.int ((mvs h L (ws.take i)).idxOf t : Nat)]))) := Fix.lst e
      refine ⟨_, rfl, _, rfl, _, rfl, v, h, n, q1, _, t, rfl, (g.fix (fx.trans f2)).hT, g.hb, (f1.fix f2).sq, fun u hu => perm_in hp1 hu, by rw [perm_len hp1]; omega, htr, fun H3 q3 s3 _ f3 => ⟨fx.trans (f2.trans (Fix.same s3)), (sb _ _ sm).trans s3, ?_, hil, q3, _, rfl, ?_⟩⟩
      · rw [s3 _ _ upd_same, bksN_more, List.map_append]
        unfold bkAt
        rw [List.getD_eq_getElem?_getD, ht]
        rfl
      · rw [mvs_more ht]
        exact f3
    · obtain ⟨fx, sm, e, hi, q1, y, rfl, f1⟩ := h'
      rw [List.length_map] at e
      exact ⟨_, rfl, .inl ⟨b, _, rfl, lstAt e, fun p hp => q _ p (s1.trans (sm.trans (same_new hp))) upd_same⟩⟩
def lostV (h : List (List Int)) (S T r : List Int) (s : Nat) : V := match lost h S T r with
  | some i => .int ((s + i + 1 : Nat) : Int)
  | none => .non
def spLossShown (K : PySem.W.Frag) : Sp := fun vs H Q _ => ∃ (v : V) (h : List (List Int)) (n : Nat) (a : Addr) (L : List Int) (wv : V) (ws : List Int) (sp : Nat) (p : Int), vs = [v, .ref a, wv, .int sp] ∧ HLW K H v h n a L wv ws ∧ ws[sp]? = some p ∧
  ∀ H', Same H H' → Q (lostV h (mvs h L (ws.take sp)) (stp h p (mvs h L (ws.take sp))) (ws.drop (sp + 1)) sp) H'
theorem ok_loss_shown (F : Df K mg "loss_shown" st_loss_shown ["habit", "layout", "word", "spot"]) (B : Bu mg) (CW : Cal P w K mg base 7 "check_word_on_shelf" (spCheckWos K)) (CN : Cal P w K mg base 3 "check_number" spCheckNumber) (CA : Cal P w K mg base 2 "move_along" (spMoveAlong K)) (CM : Cal P w K mg base 1 "move" (spMove K)) :
    Cal P w K mg base 8 "loss_shown" (spLossShown K) := by
  refine mkCal F sc_loss_shown (fun vs H Q E h => ?_) (fun f cdv A outer s H vs Q E hr h => ?_)
  · obtain ⟨v, h, n, a, L, wv, ws, sp, p, rfl, _⟩ := h
    rfl
  · obtain ⟨v, h, n, a, L, wv, ws, sp, p, rfl, g, hp, q⟩ := h
    obtain ⟨aw, rfl, hW⟩ := id g.hW
    obtain ⟨hlt, _⟩ := List.getElem?_eq_some_iff.mp hp
    refine ⟨_, pss_cons (ps_expr (pc CW hr (pa_cons (pv 0) (pa_cons (pv 1) (pa_cons (pv 2) pa_nil)))))
      (pss_cons (ps_expr (pc CN hr (pa_cons (pv 3) (pa_cons pe_int (pa_cons (pe_op op_sub (pe_callB (cl_len K) (by rfl) B.len PySem.boot_len (pa_cons (pv 2) pa_nil)) pe_int) pa_nil)))))
      (pss_cons (ps_set (i := 4) sc_loss_shown.nd rfl (.inl rfl) (pc CA hr (pa_cons (pv 0) (pa_cons (pv 1) (pa_cons (pe_slice sl_tupA (pv 2) po_none (po_some (pv 3))) pa_nil)))))
      (pss_cons (ps_set (i := 5) sc_loss_shown.nd rfl (.inl rfl) (pc CM hr (pa_cons (pv 0) (pa_cons (pv 4) (pa_cons (pe_ix (ixT K) (pv 2) (pv 3) (fun _ _ => rfl)) pa_nil)))))
      (pss_cons (ps_for PassesOwn.never rfl (pi_range2 (by rfl) B.range (pa_cons (pe_op op_add (pv 3) pe_int) (pa_cons (pe_callB (cl_len K) (by rfl) B.len PySem.boot_len (pa_cons (pv 2) pa_nil)) pa_nil))) (pg_name (i := 6) sc_loss_shown.nd rfl (.inl rfl))
        (pss_cons (ps_set (i := 7) sc_loss_shown.nd rfl (.inl rfl) (pe_ix (ixT K) (pv 2) (pv 6) (fun _ _ => rfl)))
        (pss_cons (ps_if (pt_cmpR op_ne (pe_tidxF (pv 4) (pv 7)) (pe_tidxF (pv 5) (pv 7)) (nomark _)) (pss_one (ps_ret (pv 6))) pss_nil)
        (pss_cons (ps_set (i := 4) sc_loss_shown.nd rfl (.inl rfl) (pc CM hr (pa_cons (pv 0) (pa_cons (pv 4) (pa_cons (pv 7) pa_nil)))))
        (pss_one (ps_set (i := 5) sc_loss_shown.nd rfl (.inl rfl) (pc CM hr (pa_cons (pv 0) (pa_cons (pv 5) (pa_cons (pv 7) pa_nil))))))))))
      (pss_one (ps_ret pe_non)))))), ?_⟩
    refine ⟨_, rfl, _, rfl, _, rfl, v, h, n, a, L, .ref aw, ws, rfl, g, fun H1 s1 => ?_⟩
    have lw : (ws.map V.int).length = ws.length := List.length_map ..
    refine ⟨_, rfl, _, rfl, aw, _, rfl, .inr (onT s1 hW), _, 1, rfl, rfl, (sp : Int), 0, _, rfl, by omega, by omega, ?_⟩
    refine ⟨_, rfl, _, rfl, _, rfl, _, rfl, (sp : Int), rfl, slT_to (sp : Int) sp rfl (onT s1 hW) fun bw H2 s2 hbw => ?_⟩
    rw [← List.map_take] at hbw
    have s12 := s1.trans s2
    have g2 := g.same s12
    refine ⟨v, h, n, a, L, .ref bw, ws.take sp, rfl, ⟨g2.hT, g2.hb, g2.fL, g2.hL, ⟨bw, rfl, hbw⟩, fun t ht => g.hw t (List.mem_of_mem_take ht), by rw [List.length_take]; have := g.len; omega⟩, fun H3 q3 s3 f3 => ?_⟩
    have s13 := s12.trans s3
    have hS : (mvs h L (ws.take sp)).Perm (rg n) := g.hb.mvs_perm (fun t ht => g.hw t (List.mem_of_mem_take ht)) g.hL
    have hpn : InR n p := g.hw p (List.mem_of_getElem? hp)
    have hT : (stp h p (mvs h L (ws.take sp))).Perm (rg n) := g.hb.stp_perm hpn hS
    have hd : ∀ t ∈ ws.drop (sp + 1), InR n t := fun t ht => g.hw t (List.mem_of_mem_drop ht)
    have n5 := g.hb.hi
    generalize hSS : mvs h L (ws.take sp) = S at *
    refine ⟨_, rfl, _, rfl, _, rfl, _, rfl, aw, _, (sp : Int), .int p, rfl, rfl, onT s13 hW, atI_nat (at_map hp), v, h, n, q3, S, p, rfl, (g.same s13).hT, g.hb, f3.sq, fun u hu => perm_in hS hu, by rw [perm_len hS]; omega, hpn, fun H4 q4 s4 _ f4 => ?_⟩
    have s14 := s13.trans s4
    refine ⟨_, rfl, (sp : Int), 1, rfl, rfl, _, rfl, aw, _, rfl, .inr (onT s14 hW), (sp : Int) + 1, _, rfl, ⟨by have := g.len; omega, by have := g.len; omega, by omega, by have := g.len; rw [lw]; omega⟩, ?_⟩
    have er : ((((ws.map V.int).length : Nat) : Int) - ((sp : Int) + 1)).toNat = (ws.drop (sp + 1)).length := by
      rw [List.length_drop, lw]
      omega
    rw [er]
    generalize hRR : ws.drop (sp + 1) = r at *
    refine for_range (lo := (sp : Int) + 1) (n := r.length) (fun i σ H' => Same H H' ∧ (∀ j, j < i → dif h S (stp h p S) r j = false) ∧ ∃ q5 q6 y6 y7, σ = [some v, some (.ref a), some (.ref aw), some (.int sp), some (.ref q5), some (.ref q6), y6, y7] ∧ FT H' q5 (mvs h S (r.take i)) ∧ FT H' q6 (mvs h (stp h p S) (r.take i)))
      ⟨s14, fun j hj => absurd hj (Nat.not_lt_zero _), q3, q4, none, none, rfl, f3.same s4, f4⟩ (fun i σ H' hi h' => ?_) (fun σ H' h' => ?_)
    · obtain ⟨sm, hj, q5, q6, y6, y7, rfl, f5, f6⟩ := h'
      obtain ⟨t, ht⟩ : ∃ t, r[i]? = some t := ⟨r[i], List.getElem?_eq_getElem hi⟩
      have ht2 : ws[sp + 1 + i]? = some t := by
        rw [← hRR, List.getElem?_drop] at ht
        exact ht
      have htn : InR n t := hd t (List.mem_of_getElem? ht)
      have p5 : (mvs h S (r.take i)).Perm (rg n) := g.hb.mvs_perm (fun u hu => hd u (List.mem_of_mem_take hu)) hS
      have p6 : (mvs h (stp h p S) (r.take i)).Perm (rg n) := g.hb.mvs_perm (fun u hu => hd u (List.mem_of_mem_take hu)) hT
      have ei : (sp : Int) + 1 + (i : Int) = ((sp + 1 + i : Nat) : Int) := by omega
      rw [ei]
      refine ⟨_, rfl, _, rfl, aw, _, ((sp + 1 + i : Nat) : Int), .int t, rfl, rfl, onT sm hW, atI_nat (at_map ht2), ?_⟩
      refine ⟨_, rfl, q5, _, rfl, f5, _, rfl, t, rfl, f5, perm_mem p5 htn, _, rfl, q6, _, rfl, f6, _, rfl, t, rfl, f6, perm_mem p6 htn, rfl, _, rfl, ?_⟩
      have ev : (!decide (V.int (((mvs h S (r.take i)).idxOf t : Nat) : Int) = V.int (((mvs h (stp h p S) (r.take i)).idxOf t : Nat) : Int))) = dif h S (stp h p S) r i := by
        unfold dif bkAt
        rw [V_int, List.getD_eq_getElem?_getD, ht]
        rfl
      rw [ev]
      refine ite2 (fun e => ?_) (fun e => ?_)
      · have fl : lost h S (stp h p S) r = some i := find_rg hi e hj
        have eq : lostV h S (stp h p S) r sp = .int ((sp + 1 + i : Nat) : Int) := by
          unfold lostV
          rw [fl]
          show V.int ((sp + i + 1 : Nat) : Int) = _
          rw [show sp + i + 1 = sp + 1 + i from by omega]
        rw [← eq]
        exact ⟨_, rfl, by rw [eq]; rw [eq] at q; exact q H' sm⟩
      · refine ⟨_, rfl, _, rfl, _, rfl, v, h, n, q5, _, t, rfl, (g.same sm).hT, g.hb, f5.sq, fun u hu => perm_in p5 hu, by rw [perm_len p5]; omega, htn, fun H6 q7 s6 _ f7 => ?_⟩
        refine ⟨_, rfl, _, rfl, _, rfl, v, h, n, q6, _, t, rfl, (g.same (sm.trans s6)).hT, g.hb, (f6.same s6).sq, fun u hu => perm_in p6 hu, by rw [perm_len p6]; omega, htn, fun H7 q8 s7 _ f8 => ⟨sm.trans (s6.trans s7), fun j hj2 => ?_, q7, q8, _, _, rfl, ?_, ?_⟩⟩
        · rcases Nat.lt_succ_iff_lt_or_eq.mp hj2 with z | z
          · exact hj j z
          · rw [z]
            simpa using e
        · rw [mvs_more ht]
          exact f7.same s7
        · rw [mvs_more ht]
          exact f8
    · obtain ⟨sm, hj, q5, q6, y6, y7, rfl, f5, f6⟩ := h'
      have fl : lost h S (stp h p S) r = none := find_no hj
      have eq : lostV h S (stp h p S) r sp = .non := by
        unfold lostV
        rw [fl]
      rw [eq] at q
      exact q H' sm
def spHidden (K : PySem.W.Frag) : Sp := fun vs H Q _ => ∃ (v : V) (h : List (List Int)) (n : Nat) (a : Addr) (L : List Int) (wv : V) (ws : List Int), vs = [v, .ref a, wv] ∧ HLW K H v h n a L wv ws ∧ ∀ H' q, Same H H' → H' q = some (.tup ((hidN n h ws ws.length).map V.int)) → Q (.ref q) H'
theorem ok_hidden (F : Df K mg "hidden_losses" st_hidden_losses ["habit", "layout", "word"]) (B : Bu mg) (CW : Cal P w K mg base 7 "check_word_on_shelf" (spCheckWos K)) (CO : Cal P w K mg base 1 "places_of_habit" (spPlacesOf K)) :
    Cal P w K mg base 8 "hidden_losses" (spHidden K) := by
  refine mkCal F sc_hidden_losses (fun vs H Q E h => ?_) (fun f cdv A outer s H vs Q E hr h => ?_)
  · obtain ⟨v, h, n, a, L, wv, ws, rfl, _⟩ := h
    rfl
  · obtain ⟨v, h, n, a, L, wv, ws, rfl, g, q⟩ := h
    obtain ⟨ah, xs, rfl, hS, hE⟩ := id g.hT
    obtain ⟨aw, rfl, hW⟩ := id g.hW
    refine ⟨_, pss_cons (ps_expr (pc CW hr (pa_cons (pv 0) (pa_cons (pv 1) (pa_cons (pv 2) pa_nil)))))
      (pss_cons (ps_set (i := 3) sc_hidden_losses.nd rfl (.inr rfl) (pc CO hr (pa_cons (pv 0) pa_nil)))
      (pss_one (ps_ret (pe_tupleOf (by rfl) B.tuple (pe_lc (own := [("spot", 4), ("place", 5)]) (g := gTup K 2 (gCons (gName 4) (gCons (gName 5) gNil))) rfl sc_hidden_losses.nd (pi_enumT (by rfl) B.enumerate (pa_cons (pv 2) pa_nil))
        (blkOk_by (N := ["habit", "layout", "word", "nothing_moves", "spot", "place"]) (sc := defScope st_hidden_losses) (by decide +kernel))
        (fun _ _ _ _ _ => pg_tup rfl (pgs_cons (pg_name (i := 4) sc_hidden_losses.nd rfl (Or.inl rfl)) (pgs_cons (pg_name (i := 5) sc_hidden_losses.nd rfl (Or.inl rfl)) pgs_nil)))
        (fun _ _ _ _ _ => pts_one (pt_cmpR (opEqD K hr.units) (pe_ix (ixT K) (pv 0) (pv 5) (fun _ _ => rfl)) (pv 3) (nomark _))) (fun _ _ _ _ _ => pv 4)))))), ?_⟩
    refine ⟨_, rfl, _, rfl, _, rfl, _, h, n, a, L, _, ws, rfl, g, fun H1 s1 => ?_⟩
    refine ⟨_, rfl, _, h, n, rfl, (g.same s1).hT, g.hb, fun b hb1 => ?_⟩
    have s2 := s1.trans (same_new (o := .tup ((rg n).map V.int)) hb1)
    have eb : (upd H1 b (.tup ((rg n).map V.int))) b = some (.tup ((rg n).map V.int)) := upd_same
    generalize (upd H1 b (.tup ((rg n).map V.int))) = H2 at *
    refine ⟨_, rfl, aw, ws.map V.int, rfl, onT s2 hW, fun D hD => ?_⟩
    refine lc_enumT (xs := ws.map V.int) (fun i H' => Same H2 H' ∧ H' D = some (.lst ((hidN n h ws i).map V.int)) ∧ i ≤ ws.length) ⟨same_new hD, upd_same, Nat.zero_le _⟩ (fun i H' h' => onT h'.1 (onT s2 hW)) (fun i x T H' hx h' hT => ?_) (fun H' h' => ?_)
    · obtain ⟨t, ht, rfl⟩ := map_at hx
      obtain ⟨sm, eD, hi⟩ := h'
      have hil : i < ws.length := (List.getElem?_eq_some_iff.mp ht).1
      have htn := g.hw t (List.mem_of_getElem? ht)
      have sT : Same H2 (upd H' T (.tup [.int (i : Nat), .int t])) := sm.trans (same_new hT)
      obtain ⟨a1, e1, h1⟩ := ixRow hE g.hb htn
      have eDT : (upd H' T (.tup [.int (i : Nat), .int t])) D = some (.lst ((hidN n h ws i).map V.int)) := by
        rw [upd_ne (ne_of_none eD hT)]
        exact eD
      have ev : decide (h.getD t.toNat [] = rg n) = hid n h ws i := by
        unfold hid
        rw [List.getD_eq_getElem?_getD (l := ws), ht]
        rfl
      refine ⟨T, _, rfl, tupAt upd_same, rfl, _, _, rfl, _, _, rfl, rfl, rfl, _, rfl, _, rfl, ah, xs, t, _, rfl, rfl, onT sT (onT s2 hS), e1, _, rfl, _, _, dp_tup (ns := h.getD t.toNat []) (onT sT (onT s2 h1)), dp_tup (ns := rg n) (tupAt (sT _ _ eb)), shaped_tup _, shaped_tup _, _, rfl, ?_⟩
      rw [eqv_tup, ev]
      refine ite2 (fun e => ⟨_, rfl, _, eDT, ?_, sameU sT hD, ?_, hil⟩) (fun e => ⟨sT, ?_, hil⟩)
      · rw [List.length_map]
        exact small1000 (by have := hidN_len n h ws i; have := g.len; omega)
      · rw [upd_same, hidN_more, if_pos e, List.map_append]
        rfl
      · rw [eDT, hidN_more, if_neg e, List.append_nil]
    · obtain ⟨sm, eD, _⟩ := h'
      rw [List.length_map] at eD
      refine .inl ⟨D, _, rfl, lstAt eD, fun p hp => q _ p (s2.trans (sm.trans (same_new hp))) upd_same⟩
end
end RH
set_option Elab.async false
set_option linter.all false
set_option maxRecDepth 100000
set_option maxHeartbeats 2000000
namespace RH
open PySem PySem.Spec PyProof.Rows L2
/-! ### the law's own touches and books -/
theorem catT_ok {K : PySem.W.Frag} {H : Hp} {a b : Addr} {xs ys : List V} {Q : VK} (ha : SqT K H a xs) (hb : SqT K H b ys) (hl : xs.length + ys.length ≤ 1000) (q : ∀ r H', Same H H' → SqT K H' r (xs ++ ys) → Q (.ref r) H') : rCatA K (.ref a) (.ref b) H Q := by
  refine ⟨a, b, xs, ys, rfl, rfl, ha, hb, Nat.le_of_lt (small1000 hl), fun e => ?_, fun _ e => ?_, fun _ _ p hp => q p _ (same_new hp) (tupAt upd_same)⟩
  · subst e
    exact q b H (Same.refl H) hb
  · subst e
    exact q a H (Same.refl H) (by rw [List.append_nil]; exact ha)
theorem okD_ints (ns : List Int) (h : ns.length ≤ 1000) : okD 1 (.tuple (ns.map PyData.int)) := by
  refine ⟨by rw [List.length_map]; exact h, fun d hd => ?_⟩
  obtain ⟨i, _, rfl⟩ := List.mem_map.mp hd
  exact True.intro
section
variable {P : Program} {w : World} {K : PySem.W.Frag} {mg : Str → Option Value} {base : Heap}
theorem ok_ltouch (F : Df K mg "_law_touch" st__law_touch ["habit", "layout", "place"]) (B : Bu mg) : Cal P w K mg base 1 "_law_touch" (spMove K) := by
  refine mkCal F sc__law_touch (fun vs H Q E h => ?_) (fun f cdv A outer s H vs Q E hr h => ?_)
  · obtain ⟨v, h, n, a, L, p, rfl, _⟩ := h
    rfl
  · obtain ⟨v, h, n, a, L, p, rfl, ⟨ah, xs, rfl, hS, hE⟩, hb, hL, hin, hlen, hp, q⟩ := h
    refine ⟨_, pss_one (ps_ret (pe_tupleF (by rfl) B.tuple (pe_lc (own := [("spot", 3)]) (g := gName 3) (tt := tYes) rfl sc__law_touch.nd (pi_tup (pv 1)) (blkOk_by (N := ["habit", "layout", "place", "spot"]) (sc := defScope st__law_touch) (by decide +kernel))
        (fun _ _ _ _ _ => pg_name (i := 3) sc__law_touch.nd rfl (Or.inl rfl)) (fun _ _ _ _ _ => pts_nil) (fun _ _ _ _ _ => pe_ix (ixT K) (pe_ix (ixT K) (pv 0) (pv 2) (fun _ _ => rfl)) (pv 3) (fun _ _ => rfl))))), ?_⟩
    refine ⟨_, rfl, a, rfl, ⟨_, hL⟩, fun D hD => ?_⟩
    refine lc_tup (xs := L.map V.int) (fun i H' => Same H H' ∧ H' D = some (.lst (((L.take i).map (mv h p)).map V.int))) ⟨same_new hD, upd_same⟩ (fun i H' _ h' => onT h'.1 hL) (fun i x H' hx h' => ?_) (fun H' h' => ?_)
    · obtain ⟨st, hst, rfl⟩ := map_at hx
      obtain ⟨sm, eD⟩ := h'
      obtain ⟨a2, ns2, e2, s2, e3⟩ := ix2 hE hb hp (hin st (List.mem_of_getElem? hst))
      refine ⟨rfl, _, rfl, _, rfl, ah, xs, p, _, rfl, rfl, onT sm hS, e2, _, rfl, a2, _, st, _, rfl, rfl, onT sm s2, e3, _, eD, ?_, ?_, ?_⟩
      · rw [List.length_map, List.length_map, List.length_take]
        exact small1000 (by omega)
      · exact sameU sm hD
      · rw [upd_same, take_more hst, List.map_append, List.map_append]
        rfl
    · obtain ⟨sm, eD⟩ := h'
      rw [List.length_map, List.take_length] at eD
      exact ⟨D, _, rfl, lstAt eD, fun t ob ht hob => q _ t (sm.trans (same_new ht)) (none_of sm ht) ⟨ob, upd_same, hob⟩⟩
def spBooks (K : PySem.W.Frag) : Sp := fun vs H Q _ => ∃ (v : V) (h : List (List Int)) (n : Nat) (a : Addr) (L : List Int) (wv : V) (ws : List Int), vs = [v, .ref a, wv] ∧ HLW K H v h n a L wv ws ∧
  ∀ H' t b q1, Same H H' → H' t = some (.tup [.ref b, .ref q1]) → H' b = some (.lst ((bksN h L ws ws.length).map V.int)) → FT H' q1 (mvs h L ws) → Q (.ref t) H'
theorem ok_lbooks (F : Df K mg "_law_books" st__law_books ["habit", "layout", "word"]) (B : Bu mg) (CM : Cal P w K mg base 1 "_law_touch" (spMove K)) : Cal P w K mg base 2 "_law_books" (spBooks K) := by
  refine mkCal F sc__law_books (fun vs H Q E h => ?_) (fun f cdv A outer s H vs Q E hr h => ?_)
  · obtain ⟨v, h, n, a, L, wv, ws, rfl, _⟩ := h
    rfl
  · obtain ⟨v, h, n, a, L, wv, ws, rfl, g0, q⟩ := h
    refine ⟨_, pss_cons (ps_set (i := 3) sc__law_books.nd rfl (.inl rfl) (pe_lst pa_nil))
      (pss_cons (ps_for PassesOwn.never rfl (pi_tup (pv 2)) (pg_name (i := 4) sc__law_books.nd rfl (.inl rfl))
        (pss_cons (ps_expr (pe_bm PySem.F.plainAttrs_list PySem.F.slot_list_append PySem.F.type_list_append mt_append (pv 3) (pa_cons (pe_tidxF (pv 1) (pv 4)) pa_nil)))
        (pss_one (ps_set (i := 1) sc__law_books.nd rfl (.inl rfl) (pc CM hr (pa_cons (pv 0) (pa_cons (pv 1) (pa_cons (pv 4) pa_nil))))))))
      (pss_one (ps_ret (pe_tup (pa_cons (pv 3) (pa_cons (pv 1) pa_nil)))))), ?_⟩
    refine ⟨Nat.zero_le _, fun b hb1 => ?_⟩
    have g := g0.same (same_new (o := .lst []) hb1)
    obtain ⟨aw, rfl, hW⟩ := id g.hW
    have eb : (upd H b (.lst [])) b = some (.lst []) := upd_same
    have sb : ∀ H' o, Same H H' → Same H (upd H' b o) := fun H' o z => sameU z hb1
    refine ⟨_, rfl, aw, rfl, ⟨_, hW⟩, ?_⟩
    refine for_tup (xs := ws.map V.int) (fun i σ H' => Fix (upd H b (.lst [])) H' ∧ Same H H' ∧ H' b = some (.lst ((bksN h L ws i).map V.int)) ∧ i ≤ ws.length ∧ ∃ q1 y, σ = [some v, some (.ref q1), some (.ref aw), some (.ref b), y] ∧ FT H' q1 (mvs h L (ws.take i)))
      ⟨Fix.refl _, same_new hb1, eb, Nat.zero_le _, a, none, rfl, g.fL⟩ (fun i σ H' _ h' => h'.1.tups _ _ hW) (fun i x σ H' hx h' => ?_) (fun σ H' h' => ?_)
    · obtain ⟨t, ht, rfl⟩ := map_at hx
      obtain ⟨fx, sm, e, hi, q1, y, rfl, f1⟩ := h'
      have hil : i < ws.length := (List.getElem?_eq_some_iff.mp ht).1
      have hp1 := g.hb.mvs_perm (ws := ws.take i) (fun u hu => g.hw u (List.mem_of_mem_take hu)) g.hL
      have n5 := g.hb.hi
      have htr := g.hw t (List.mem_of_getElem? ht)
      refine ⟨_, rfl, .inl ⟨rfl, _, lstAt e⟩, _, rfl, q1, _, rfl, f1, _, rfl, t, rfl, f1, perm_mem hp1 htr, b, _, _, rfl, rfl, e, ?_, ?_⟩
      · rw [List.length_map, bksN_len]
        exact small1000 (by have := g.len; omega)
      have f2 : Fix H' (upd H' b (.lst ((bksN h L ws i).map V.int ++ [.int ((mvs h L (ws.take i)).idxOf t : Nat)]))) := Fix.lst e
      refine ⟨_, rfl, _, rfl, _, rfl, v, h, n, q1, _, t, rfl, (g.fix (fx.trans f2)).hT, g.hb, (f1.fix f2).sq, fun u hu => perm_in hp1 hu, by rw [perm_len hp1]; omega, htr, fun H3 q3 s3 _ f3 => ⟨fx.trans (f2.trans (Fix.same s3)), (sb _ _ sm).trans s3, ?_, hil, q3, _, rfl, ?_⟩⟩
      · rw [s3 _ _ upd_same, bksN_more, List.map_append]
        unfold bkAt
        rw [List.getD_eq_getElem?_getD, ht]
        rfl
      · rw [mvs_more ht]
        exact f3
    · obtain ⟨fx, sm, e, hi, q1, y, rfl, f1⟩ := h'
      rw [List.length_map] at e f1
      rw [List.take_length] at f1
      refine ⟨_, rfl, _, rfl, by show 2 ≤ sizeLine; decide, fun t ht => ?_⟩
      have s2 := same_new (o := .tup [.ref b, .ref q1]) ht
      exact q _ t b q1 (sm.trans s2) upd_same (s2 _ _ e) (f1.same s2)
end
end RH
set_option Elab.async false
set_option linter.all false
set_option maxRecDepth 100000
set_option maxHeartbeats 2000000
namespace RH
open PySem PySem.Spec PyProof.Rows L2
/-! ### the law -/
section
variable {P : Program} {w : World} {K : PySem.W.Frag} {mg : Str → Option Value} {base : Heap}
def spLaw (K : PySem.W.Frag) : Sp := fun vs H Q _ => ∃ (a : Addr) (ns : List Int), vs = [.ref a] ∧ Fz K H a (ns.map V.int) ∧ ∀ H', Q (.bl true) H'
abbrev NL : List Str := ["script", "row", "places", "habit", "layout", "word", "books", "end", "place", "hidden", "spot", "others", "stands", "bad", "due", "turn", "at"]
theorem ok_law {f : Addr} {fd : FuncData} (F : Fun K "law" "law" st_law f fd) (B : Bu mg) (CT : Cal P w K mg base 1 "_law_taken" (spTaken K)) (CH : Cal P w K mg base 3 "_law_habit" (spHabit K)) (CO : Cal P w K mg base 2 "_law_order" (spOrder K)) (CB : Cal P w K mg base 2 "_law_books" (spBooks K))
    (CA : Cal P w K mg base 2 "_law_alike" (spAlike K 1)) (CBO : Cal P w K mg base 8 "books_of" (spBooksOf K)) (CBA : Cal P w K mg base 8 "book_at" (spBookAt K)) (CLS : Cal P w K mg base 8 "loss_shown" (spLossShown K)) (CHL : Cal P w K mg base 8 "hidden_losses" (spHidden K)) : FnOk P w K mg base CX0 9 f fd ["script"] (spLaw K) := by
  refine F.ok sc_law (fun vs H Q E h => ?_) (fun cdv A outer s H vs Q E hr h => ?_)
  · obtain ⟨a, ns, rfl, _⟩ := h
    rfl
  · obtain ⟨a, scr, rfl, hZ, q⟩ := h
    refine ⟨_, pss_cons (ps_set (i := 1) sc_law.nd rfl (.inr rfl) (pe_lst (pa_cons (pv 0) (pa_cons pe_int (pa_cons pe_int (pa_cons pe_int pa_nil))))))
      (pss_cons (ps_set (i := 2) sc_law.nd rfl (.inr rfl) (pe_op op_add pe_int (pc CT hr (pa_cons (pv 1) (pa_cons pe_int pa_nil)))))
      (pss_cons (ps_par (i := 3) (j := 4) rfl sc_law.nd rfl rfl (by decide) rfl rfl (pa_cons (pc CH hr (pa_cons (pv 1) (pa_cons (pv 2) pa_nil))) (pa_cons (pc CO hr (pa_cons (pv 1) (pa_cons (pv 2) pa_nil))) pa_nil)) rfl)
      (pss_cons (ps_set (i := 5) sc_law.nd rfl (.inl rfl) (pe_tupleOf (by rfl) B.tuple (pe_lc (own := [("turn", 15)]) (g := gName 15) (tt := tYes) rfl sc_law.nd (pi_range1 (by rfl) B.range (pa_cons (pc CT hr (pa_cons (pv 1) (pa_cons pe_int pa_nil))) pa_nil))
        (blkOk_by (N := NL) (sc := defScope st_law) (by decide +kernel)) (fun _ _ _ _ _ => pg_name (i := 15) sc_law.nd rfl (Or.inl rfl)) (fun _ _ _ _ _ => pts_nil) (fun _ _ _ _ _ => pc CT hr (pa_cons (pv 1) (pa_cons (pv 2) pa_nil))))))
      (pss_cons (ps_asg (pc CB hr (pa_cons (pv 3) (pa_cons (pv 4) (pa_cons (pv 5) pa_nil)))) (pg_tup rfl (pgs_cons (pg_name (i := 6) sc_law.nd rfl (.inr rfl)) (pgs_cons (pg_name (i := 7) sc_law.nd rfl (.inl rfl)) pgs_nil))))
      (pss_cons (ps_if (pt_not (pt_val (pc CA hr (pa_cons (pc CBO hr (pa_cons (pv 3) (pa_cons (pv 4) (pa_cons (pv 5) pa_nil))) (hk := Nat.le_refl _)) (pa_cons (pe_tupleOf (by rfl) B.tuple (pv 6)) pa_nil))))) (pss_one (ps_ret pe_bl)) pss_nil)
      (pss_cons (ps_for PassesOwn.never rfl (pi_range1 (by rfl) B.range (pa_cons (pv 2) pa_nil)) (pg_name (i := 8) sc_law.nd rfl (.inl rfl))
        (pss_one (ps_if (pt_not (pt_val (pc CA hr (pa_cons (pc CBA hr (pa_cons (pv 3) (pa_cons (pv 4) (pa_cons (pv 5) (pa_cons (pv 8) pa_nil)))) (hk := Nat.le_refl _)) (pa_cons (pe_tidxF (pv 7) (pv 8)) pa_nil))))) (pss_one (ps_ret pe_bl)) pss_nil)))
      (pss_cons (ps_set (i := 9) sc_law.nd rfl (.inl rfl) (pe_lst pa_nil))
      (pss_cons (ps_for PassesOwn.never rfl (pi_range1 (by rfl) B.range (pa_cons (pe_callB (cl_len K) (by rfl) B.len PySem.boot_len (pa_cons (pv 5) pa_nil)) pa_nil)) (pg_name (i := 10) sc_law.nd rfl (.inl rfl))
        (pss_cons (ps_asg (pc CB hr (pa_cons (pv 3) (pa_cons (pv 4) (pa_cons (pe_op op_catA (pe_slice sl_tupA (pv 5) po_none (po_some (pv 10))) (pe_slice sl_tupA (pv 5) (po_some (pe_op op_add (pv 10) pe_int)) po_none)) pa_nil))))
          (pg_tup rfl (pgs_cons (pg_name (i := 11) sc_law.nd rfl (.inr rfl)) (pgs_cons (pg_name (i := 12) sc_law.nd rfl (.inl rfl)) pgs_nil))))
        (pss_cons (ps_setLc (i := 13) (own := [("at", 16)]) (g := gName 16) rfl sc_law.nd rfl rfl (sw_true rfl rfl rfl (by decide +kernel)) (pi_range2 (by rfl) B.range (pa_cons (pv 10) (pa_cons (pe_callB (cl_len K) (by rfl) B.len PySem.boot_len (pa_cons (pv 11) pa_nil)) pa_nil)))
          (blkOk_by (N := NL) (sc := defScope st_law) (by decide +kernel)) (fun _ _ _ _ _ => pg_name (i := 16) sc_law.nd rfl (Or.inl rfl))
          (fun _ _ _ _ _ => pts_one (pt_cmpR op_ne (pe_ix (ixL K) (pv 11) (pv 16) (fun _ _ => rfl)) (pe_ix (ixL K) (pv 6) (pe_op op_add (pv 16) pe_int) (fun _ _ => rfl)) (nomark _))) (fun _ _ _ _ _ => pv 16))
        (pss_cons (ps_set (i := 14) sc_law.nd rfl (.inl rfl) (pe_ifExp (pt_cmpR (op_neD hr.units) (pv 13) (pe_lst pa_nil) (nomark _)) (pe_op op_add (pe_ix ix_list (pv 13) pe_int (fun _ _ => rfl)) pe_int) pe_non))
        (pss_cons (ps_if (pt_not (pt_val (pc CA hr (pa_cons (pc CLS hr (pa_cons (pv 3) (pa_cons (pv 4) (pa_cons (pv 5) (pa_cons (pv 10) pa_nil)))) (hk := Nat.le_refl _)) (pa_cons (pv 14) pa_nil))))) (pss_one (ps_ret pe_bl)) pss_nil)
        (pss_one (ps_if (PW.pt (pw_and (pt_cmp (pc_isN (pv 14))) (pw_and1 (pt_cmpR (op_eqD hr.units) (pv 12) (pv 7) (nomark _)))))
          (pss_one (ps_expr (pe_bm PySem.F.plainAttrs_list PySem.F.slot_list_append PySem.F.type_list_append mt_append (pv 9) (pa_cons (pv 10) pa_nil)))) pss_nil)))))))
      (pss_one (ps_ret (pc CA hr (pa_cons (pc CHL hr (pa_cons (pv 3) (pa_cons (pv 4) (pa_cons (pv 5) pa_nil))) (hk := Nat.le_refl _)) (pa_cons (pe_tupleOf (by rfl) B.tuple (pv 9)) pa_nil))))))))))))), ?_⟩
    -- row, places
    refine ⟨_, rfl, by show 4 ≤ sizeLine; decide, fun p hp => ?_⟩
    have hR1 : Row K (upd H p (.lst [.ref a, .int 0, .int 5017, .int 0])) p := ⟨a, scr, 0, 5017, 0, upd_same, hZ.on (Fix.same (same_new hp)), Int.le_refl _⟩
    refine ⟨_, rfl, p, 4, rfl, hR1, by decide, by decide, fun k H2 k0 k1 hB2 hR2 => ⟨2, k, rfl, rfl, ?_⟩⟩
    obtain ⟨n, hn⟩ : ∃ n : Nat, 2 + k = (n : Int) := ⟨(2 + k).toNat, by omega⟩
    show gName 2 (V.int (2 + k)) _ _ _
    rw [hn]
    have n2 : 2 ≤ n := by omega
    have n5 : n ≤ 5 := by omega
    -- habit, layout
    refine ⟨_, rfl, _, rfl, p, n, rfl, hR2, n2, n5, fun H3 vH h hb hB3 hR3 hT3 => ?_⟩
    refine ⟨_, rfl, _, rfl, p, n, rfl, hR3, by omega, fun H4 qL L hL hB4 hR4 _ fL4 => ⟨_, _, rfl, ?_⟩⟩
    have hT4 : TII K H4 vH h := hT3.on (hR3.fix hB4).tups
    -- word
    refine ⟨_, rfl, p, 14, rfl, hR4, by decide, by decide, fun kw H5 kw0 kw1 hB5 hR5 => ⟨kw, rfl, by omega, by omega, fun D hD => ?_⟩⟩
    have f5 := hR4.fix hB5
    have hT5 : TII K H5 vH h := hT4.on f5.tups
    have fL5 := fL4.fix f5
    have hpD : p ≠ D := hR5.ne hD
    refine lc_range (lo := 0) (n := kw.toNat) (fun i H' => ∃ ws : List Int, But p H5 H' ∧ Row K H' p ∧ H' D = some (.lst (ws.map V.int)) ∧ ws.length = i ∧ ∀ t ∈ ws, InR n t)
      ⟨[], But.same (same_new hD), hR5.new hD, upd_same, rfl, fun _ hm => absurd hm (List.not_mem_nil)⟩ (fun j H' hj h' => ?_) (fun H6 h6 => ?_)
    · obtain ⟨ws, hB, hR', eD, hl', hws⟩ := h'
      refine ⟨rfl, _, rfl, _, rfl, p, n, rfl, hR', by omega, by omega, fun k H11 k0 k1 hB11 hR11 => ?_⟩
      have eD11 := hB11 _ _ eD (Ne.symm hpD)
      refine ⟨_, eD11, ?_, ws ++ [k], (hB.trans hB11).fresh hD, hR11.lst_upd eD11 hpD, ?_, ?_, ?_⟩
      · rw [List.length_map]
        exact small1000 (by omega)
      · rw [upd_same, List.map_append]
        rfl
      · rw [List.length_append, hl']
        rfl
      · intro t hm
        rcases List.mem_append.mp hm with h1 | h1
        · exact hws _ h1
        · rw [List.mem_singleton.mp h1]
          exact ⟨k0, k1⟩
    obtain ⟨ws, hB6, hR6, eD6, lw, hws⟩ := h6
    refine .inl ⟨D, _, rfl, lstAt eD6, fun aw haw => ?_⟩
    have s7 := same_new (o := .tup (ws.map V.int)) haw
    have f7 := (hR5.fix hB6).trans (Fix.same s7)
    have g7 : HLW K (upd H6 aw (.tup (ws.map V.int))) vH h n qL L (.ref aw) ws := ⟨hT5.on f7.tups, hb, fL5.fix f7, hL, ⟨aw, rfl, tupAt upd_same⟩, hws, by omega⟩
    generalize (upd H6 aw (.tup (ws.map V.int))) = H7 at *
    -- books, end
    refine ⟨_, rfl, _, rfl, _, rfl, vH, h, n, qL, L, .ref aw, ws, rfl, g7, fun H8 t8 bk qe s8 et eb8 fe8 => ?_⟩
    refine ⟨t8, _, rfl, tupAt et, rfl, _, _, rfl, _, _, rfl, rfl, ?_⟩
    have g8 := g7.same s8
    -- the books of the word
    refine ⟨_, rfl, _, rfl, _, rfl, vH, h, n, qL, L, .ref aw, ws, rfl, g8, fun H9 qb s9 e9 => ?_⟩
    refine ⟨_, rfl, .inl ⟨bk, _, rfl, lstAt (s9 _ _ eb8), fun tb htb => ?_⟩⟩
    have s10 := same_new (o := .tup ((bksN h L ws ws.length).map V.int)) htb
    refine ⟨_, _, _, rfl, dp_tup (tupAt (s10 _ _ e9)), dp_tup (tupAt upd_same), okD_ints _ (by rw [bksN_len]; have := g8.len; omega), fun H11 s11 => ⟨_, rfl, ifF rfl ?_⟩⟩
    have sA := s9.trans (s10.trans s11)
    have gA := g8.same sA
    have eA := sA _ _ eb8
    have fA := fe8.same sA
    have hE := hb.mvs_perm hws hL
    -- each book
    refine ⟨_, rfl, n, rfl, by omega, by omega, ?_⟩
    rw [Int.toNat_natCast]
    refine for_range (lo := 0) (n := n) (fun i σ H' => Same H11 H' ∧ ∃ y8, σ = [some (.ref a), some (.ref p), some (.int n), some vH, some (.ref qL), some (.ref aw), some (.ref bk), some (.ref qe), y8, none, none, none, none, none, none, none, none]) ⟨Same.refl _, none, rfl⟩ (fun i σ H' hi h' => ?_) (fun σ HB h' => ?_)
    · obtain ⟨sm, y8, rfl⟩ := h'
      rw [Int.zero_add]
      have hin : InR n (i : Int) := ⟨by omega, by omega⟩
      refine ⟨_, rfl, _, rfl, _, rfl, _, rfl, vH, h, n, qL, L, .ref aw, ws, (i : Int), rfl, gA.same sm, hin, fun H12 s12 => ?_⟩
      have fB := fA.same (sm.trans s12)
      refine ⟨_, rfl, qe, _, rfl, fB, _, rfl, (i : Int), rfl, fB, perm_mem hE hin, _, _, _, rfl, .int _, .int _, True.intro, fun H13 s13 => ⟨_, rfl, ifF rfl ⟨sm.trans (s12.trans s13), _, rfl⟩⟩⟩
    obtain ⟨smB, y8, rfl⟩ := h'
    have gB := gA.same smB
    have eB := smB _ _ eA
    have fB := fA.same smB
    -- hidden
    refine ⟨Nat.zero_le _, fun hd hhd => ?_⟩
    have s14 := same_new (o := .lst []) hhd
    have e14 : (upd HB hd (.lst [])) hd = some (.lst []) := upd_same
    obtain ⟨_, e', hW⟩ := id gB.hW
    cases e'
    have lm : (ws.map V.int).length = ws.length := List.length_map ..
    have l400 := gB.len
    refine ⟨_, rfl, aw, _, rfl, .inr (onT s14 hW), _, rfl, by omega, by rw [lm]; omega, ?_⟩
    rw [Int.toNat_natCast, lm]
    refine for_range (lo := 0) (n := ws.length) (fun i σ H' => Same HB H' ∧ H' hd = some (.lst ((hidN n h ws i).map V.int)) ∧ ∃ y10 y11 y12 y13 y14, σ = [some (.ref a), some (.ref p), some (.int n), some vH, some (.ref qL), some (.ref aw), some (.ref bk), some (.ref qe), y8, some (.ref hd), y10, y11, y12, y13, y14, none, none]) ⟨s14, e14, none, none, none, none, none, rfl⟩ (fun i σ H' hi h' => ?_) (fun σ HC h' => ?_)
    · obtain ⟨sm, eH, y10, y11, y12, y13, y14, rfl⟩ := h'
      rw [Int.zero_add]
      obtain ⟨pp, hpp⟩ : ∃ pp, ws[i]? = some pp := ⟨ws[i], List.getElem?_eq_getElem hi⟩
      have g15 := gB.same sm
      have hW15 := onT sm hW
      refine ⟨_, rfl, _, rfl, _, rfl, _, rfl, (i : Int), rfl, slT_to (i : Int) i rfl hW15 fun b1 H16 s16 h1 => ?_⟩
      refine ⟨_, rfl, _, rfl, (i : Int), 1, rfl, rfl, (i : Int) + 1, rfl, ?_⟩
      unfold tNoPart
      dsimp only
      refine slT_from ((i : Int) + 1) (i + 1) rfl (onT s16 hW15) fun b2 H17 s17 h2 => ?_
      refine catT_ok (onT s17 h1) h2 (by rw [List.length_take, List.length_drop, lm]; omega) fun r H18 s18 h18 => ?_
      rw [← List.map_take, ← List.map_drop, ← List.map_append] at h18
      have s19 := s16.trans (s17.trans s18)
      have g18 := g15.same s19
      have hus : ∀ t ∈ ws.take i ++ ws.drop (i + 1), InR n t := fun t ht => by
        rcases List.mem_append.mp ht with z | z
        · exact hws t (List.mem_of_mem_take z)
        · exact hws t (List.mem_of_mem_drop z)
      have lus : (ws.take i ++ ws.drop (i + 1)).length = i + (ws.drop (i + 1)).length := by
        rw [List.length_append, List.length_take]
        omega
      have lr : (ws.drop (i + 1)).length = ws.length - (i + 1) := List.length_drop ..
      have cut := cut_out (h := h) (L := L) hpp
      have hidq := hb.hid (L := L) hpp hws hL
      generalize hUS : ws.take i ++ ws.drop (i + 1) = us at *
      refine ⟨vH, h, n, qL, L, .ref r, us, rfl, ⟨g18.hT, hb, g18.fL, hL, ⟨r, rfl, h18⟩, hus, by omega⟩, fun H20 t20 ot qs s20 et20 eo fs => ?_⟩
      refine ⟨t20, _, rfl, tupAt et20, rfl, _, _, rfl, _, _, rfl, rfl, ?_⟩
      have s21 := sm.trans (s19.trans s20)
      have e20 := (s19.trans s20) _ _ eH
      -- what shows the loss
      have hlo : ((bksN h L us us.length).map V.int).length = us.length := by rw [List.length_map, bksN_len]
      refine ⟨_, rfl, _, rfl, ot, _, rfl, .inl (lstAt eo), (i : Int), _, rfl, ⟨by omega, by omega, by omega, by rw [hlo]; omega⟩, fun D2 hD2 => ?_⟩
      rw [hlo, show ((us.length : Int) - (i : Int)).toNat = (ws.drop (i + 1)).length by omega]
      generalize hS : mvs h L (ws.take i) = S at *
      generalize hR : ws.drop (i + 1) = rr at *
      refine lc_range (lo := (i : Int)) (n := rr.length) (fun m H' => Same H20 H' ∧ H' D2 = some (.lst ((badN h S (stp h pp S) rr i m).map V.int))) ⟨same_new hD2, upd_same⟩ (fun m H' hm h' => ?_) (fun H21 h' => ?_)
      · obtain ⟨sm2, eD⟩ := h'
        obtain ⟨c1, c2⟩ := cut m
        have ei : (i : Int) + (m : Int) = ((i + m : Nat) : Int) := by omega
        rw [ei]
        refine ⟨rfl, _, rfl, _, rfl, ot, _, ((i + m : Nat) : Int), _, rfl, rfl, lstAt (sm2 _ _ eo), atI_nat (at_map (bksN_at (by omega))), _, rfl, _, rfl, ((i + m : Nat) : Int), 1, rfl, rfl, bk, _, _, _, rfl, rfl, lstAt (sm2 _ _ (s21 _ _ eB)), atI_nat (j := i + m + 1) (at_map (bksN_at (by omega))), rfl, _, rfl, ?_⟩
        rw [V_int, c1, c2]
        show (if dif h S (stp h pp S) rr m = true then _ else _)
        refine ite2 (fun e => ⟨_, rfl, _, eD, ?_, sameU sm2 hD2, ?_⟩) (fun e => ⟨sm2, ?_⟩)
        · rw [List.length_map]
          exact small1000 (by have := badN_len h S (stp h pp S) rr i m; omega)
        · rw [upd_same, badN_more, if_pos e, List.map_append]
          rfl
        · rw [badN_more, if_neg e, List.append_nil]
          exact eD
      obtain ⟨sm2, eD2⟩ := h'
      have bh := badN_head h S (stp h pp S) rr i
      -- due
      refine ⟨_, rfl, Nat.zero_le _, fun z hz => ?_⟩
      have sz := same_new (o := .lst []) hz
      refine ⟨_, _, dp_lst (ns := badN h S (stp h pp S) rr i rr.length) (lstAt (sz _ _ eD2)), dp_lst (ns := []) (lstAt upd_same), PySem.W.ke_shaped_ints _, PySem.W.ke_shaped_ints _, _, rfl, ?_⟩
      rw [eqv_lst]
      have s22 := s21.trans (sm2.trans sz)
      have eH22 := (sm2.trans sz) _ _ e20
      have fs22 := fs.same (sm2.trans sz)
      have eDz := sz _ _ eD2
      generalize (upd H21 z (.lst [])) = H22 at *
      have lv : lostV h S (stp h pp S) rr i = match lost h S (stp h pp S) rr with
        | some i' => .int ((i + i' + 1 : Nat) : Int)
        | none => .non := rfl
      cases hl : lost h S (stp h pp S) rr with
      | some j =>
        rw [hl] at bh lv
        have bh : (badN h S (stp h pp S) rr i rr.length)[0]? = some ((i + j : Nat) : Int) := bh
        have lv : lostV h S (stp h pp S) rr i = .int ((i + j + 1 : Nat) : Int) := lv
        have hh : hid n h ws i = false := by
          cases z : hid n h ws i with
          | false => rfl
          | true =>
            have := (hidq.mpr z).1
            rw [hl] at this
            cases this
        refine ifT ?_ ⟨_, rfl, D2, _, 0, _, rfl, rfl, lstAt eDz, atI_nat (j := 0) (at_map bh), _, 1, rfl, rfl, ?_⟩
        · cases zz : badN h S (stp h pp S) rr i rr.length with
          | nil =>
            rw [zz] at bh
            cases bh
          | cons _ _ => rfl
        refine ⟨_, rfl, _, rfl, _, rfl, _, rfl, vH, h, n, qL, L, .ref aw, ws, i, pp, rfl, gB.same s22, hpp, fun H23 s23 => ?_⟩
        rw [hS, hR, lv]
        refine ⟨_, rfl, _, _, _, rfl, .int _, .int _, True.intro, fun H24 s24 => ⟨_, rfl, ifF rfl ?_⟩⟩
        refine ⟨_, rfl, _, rfl, ifF (decide_eq_false (fun z => nomatch z)) ?_⟩
        refine iteF ⟨s22.trans (s23.trans s24), ?_, _, _, _, _, _, rfl⟩
        rw [(s23.trans s24) _ _ eH22, hidN_more, hh, if_neg Bool.false_ne_true, List.append_nil]
      | none =>
        rw [hl] at bh lv
        have bh : (badN h S (stp h pp S) rr i rr.length)[0]? = none := bh
        have lv : lostV h S (stp h pp S) rr i = .non := lv
        refine ifF ?_ ?_
        · cases zz : badN h S (stp h pp S) rr i rr.length with
          | nil => rfl
          | cons _ _ =>
            rw [zz] at bh
            cases bh
        refine ⟨_, rfl, _, rfl, _, rfl, _, rfl, vH, h, n, qL, L, .ref aw, ws, i, pp, rfl, gB.same s22, hpp, fun H23 s23 => ?_⟩
        rw [hS, hR, lv]
        refine ⟨_, rfl, _, _, _, rfl, .non, .non, True.intro, fun H24 s24 => ⟨_, rfl, ifF rfl ?_⟩⟩
        have s25 := s23.trans s24
        have eH25 := s25 _ _ eH22
        refine ⟨_, rfl, _, rfl, ifT (decide_eq_true rfl) ⟨_, rfl, _, rfl, _, _, dp_tup (fs22.same s25).sq, dp_tup (fB.same (s22.trans s25)).sq, shaped_tup _, shaped_tup _, _, rfl, ?_⟩⟩
        rw [eqv_tup]
        have hv : decide (mvs h L us = mvs h L ws) = hid n h ws i := by
          rw [Bool.eq_iff_iff, decide_eq_true_iff, ← hidq, hl]
          exact ⟨fun z => ⟨rfl, z⟩, fun z => z.2⟩
        rw [hv]
        refine ite2 (fun e => ?_) (fun e => ?_)
        · refine ⟨_, rfl, .inl ⟨rfl, _, lstAt eH25⟩, _, rfl, hd, _, _, rfl, rfl, eH25, ?_, sameU (s22.trans s25) hhd, ?_, _, _, _, _, _, rfl⟩
          · rw [List.length_map]
            exact small1000 (by have := hidN_len n h ws i; omega)
          · rw [upd_same, hidN_more, if_pos e, List.map_append]
            rfl
        · refine ⟨s22.trans s25, ?_, _, _, _, _, _, rfl⟩
          rw [eH25, hidN_more, if_neg e, List.append_nil]
    · obtain ⟨sm, eH, y10, y11, y12, y13, y14, rfl⟩ := h'
      refine ⟨_, rfl, _, rfl, _, rfl, vH, h, n, qL, L, .ref aw, ws, rfl, gB.same sm, fun H9 qb s9 e9 => ?_⟩
      refine ⟨_, rfl, .inl ⟨hd, _, rfl, lstAt (s9 _ _ eH), fun tb htb => ?_⟩⟩
      have s10 := same_new (o := .tup ((hidN n h ws ws.length).map V.int)) htb
      exact ⟨_, _, _, rfl, dp_tup (tupAt (s10 _ _ e9)), dp_tup (tupAt upd_same), okD_ints _ (by have := hidN_len n h ws ws.length; omega), fun H11 s11 => q H11⟩
end
end RH
set_option Elab.async false
set_option linter.all false
set_option maxRecDepth 100000
set_option maxHeartbeats 2000000
namespace RH
open PySem PySem.Spec PyProof.Rows L2
/-! ### what the top has left -/
theorem df_mk {K : PySem.W.Frag} {h : Heap} {mg : Str → Option Value} (X : K.In h) (G : h.Ns mainGlobals mg) {x : Str} {st : Stmt} {ps : List Str} {f : Addr} {od an : Option Addr} {sl : Array (Option Value)} {oc kV dc pm cd ct : Value}
    (a : PySem.W.nsIn K mainGlobals x = some (some (.ref f))) (l : K.lookup f = some ⟨oc, od, .func (PySem.W.fnOf x x (defArgs st) (defBody st) (defScope st) .none kV dc pm an cd ct), sl⟩) (c : PySem.W.codeIn K cd x = true) (k : PySem.W.keepIn K (.ref f) = true)
    (b : ∀ (kV doc pm : Value) (an : Option Addr) (cdv ct : Value) (us : List Value), us.length = ps.length → bindArgs (PySem.W.fnOf x x (defArgs st) (defBody st) (defScope st) .none kV doc pm an cdv ct) ⟨us, []⟩ = pure (ps.zip us)) : Df K mg x st ps := by
  have F := fun_mk (st := st) l c k
  exact ⟨f, _, F, PySem.W.mg_of X G a, F.binds b⟩
/-- the written part that is meant -/
abbrev kOf {K : PySem.W.Frag} {h : Heap} (_ : K.In h) : PySem.W.Frag := K
theorem const_mk {K : PySem.W.Frag} {h : Heap} {mg : Str → Option Value} (X : K.In h) (G : h.Ns mainGlobals mg) {x : Str} {i : Int} {t : Tok} (a : PySem.W.nsIn K mainGlobals x = some (some (.int i t))) : ∃ t, mg x = some (.int i t) := ⟨t, PySem.W.mg_of X G a⟩
theorem top {P : Program} {w : World} {K : PySem.W.Frag} {mg : Str → Option Value} {fa : Addr} (hfa : mg "law" = some (.ref fa)) (B : Bu mg) (c2 : ∃ t, mg "FEWEST_PLACES" = some (.int 2 t)) (c5 : ∃ t, mg "MOST_PLACES" = some (.int 5 t)) (c400 : ∃ t, mg "MOST_TOUCHES" = some (.int 400 t))
    (F_is_integer : Df K mg "is_integer" st_is_integer ["value"])
    (F_is_number : Df K mg "is_number" st_is_number ["value", "low", "high"])
    (F_is_row : Df K mg "is_row" st_is_row ["value", "low", "high"])
    (F_is_place : Df K mg "is_place" st_is_place ["value", "places"])
    (F_are_places : Df K mg "are_places" st_are_places ["value", "places"])
    (F_is_layout : Df K mg "is_layout" st_is_layout ["value", "places"])
    (F_is_word : Df K mg "is_word" st_is_word ["value", "places"])
    (F_check_number : Df K mg "check_number" st_check_number ["value", "low", "high"])
    (F_check_habit : Df K mg "check_habit" st_check_habit ["habit"])
    (F_check_layout : Df K mg "check_layout" st_check_layout ["layout", "places"])
    (F_check_place : Df K mg "check_place" st_check_place ["place", "places"])
    (F_check_word : Df K mg "check_word" st_check_word ["word", "places"])
    (F_places_of_habit : Df K mg "places_of_habit" st_places_of_habit ["habit"])
    (F_move : Df K mg "move" st_move ["habit", "layout", "place"])
    (F_move_along : Df K mg "move_along" st_move_along ["habit", "layout", "word"])
    (F_book_at : Df K mg "book_at" st_book_at ["habit", "layout", "word", "place"])
    (F_books_of : Df K mg "books_of" st_books_of ["habit", "layout", "word"])
    (F_loss_shown : Df K mg "loss_shown" st_loss_shown ["habit", "layout", "word", "spot"])
    (F_hidden_losses : Df K mg "hidden_losses" st_hidden_losses ["habit", "layout", "word"])
    (F_check_word_on_shelf : Df K mg "check_word_on_shelf" st_check_word_on_shelf ["habit", "layout", "word"])
    (F__law_taken : Df K mg "_law_taken" st__law_taken ["row", "many"])
    (F__law_order : Df K mg "_law_order" st__law_order ["row", "many"])
    (F__law_habit : Df K mg "_law_habit" st__law_habit ["row", "places"])
    (F__law_touch : Df K mg "_law_touch" st__law_touch ["habit", "layout", "place"])
    (F__law_books : Df K mg "_law_books" st__law_books ["habit", "layout", "word"])
    (F__law_alike : Df K mg "_law_alike" st__law_alike ["found", "due"])
    (F_law : Df K mg "law" st_law ["script"])
    : ∃ fd : FuncData, (∀ (s : Shared) (v : Value), BindsTo s fd ⟨[v], []⟩ [("script", v)]) ∧ ∀ base : Heap, FnOk P w K mg base CX0 9 fa fd ["script"] (spLaw K) := by
  obtain ⟨f, fd, F, g, b⟩ := F_law.ex
  have e := hfa.symm.trans g
  cases e
  refine ⟨fd, fun s v => ?_, fun base => ?_⟩
  · obtain ⟨oc, od, kV, doc, pm, an, cdv, ct, osl, rfl, _⟩ := F.ex
    exact .of_eq rfl
  · have C1 := ok_is_integer (P := P) (w := w) (base := base) F_is_integer B
    have C2 := ok_is_number F_is_number C1
    have CR := ok_is_row (P := P) (w := w) (K := K) (base := base) F_is_row B
    have C3 := ok_is_place F_is_place C2
    have C4 := ok_are_places F_are_places B C3
    have C5 := ok_is_layout F_is_layout B C4
    have CW := ok_is_word F_is_word c400 CR C4
    have CN := ok_check_number F_check_number C2
    have CH := ok_check_habit F_check_habit B c2 c5 CR C5
    have CL := ok_check_layout F_check_layout C5
    have CP := ok_check_place F_check_place C3
    have CKW := ok_check_word F_check_word CW
    have CS := ok_check_wos F_check_word_on_shelf B CH CL CKW
    have CM := ok_move (P := P) (w := w) (K := K) (base := base) F_move B
    have CMA := ok_move_along F_move_along CM
    have CPO := ok_places_of (P := P) (w := w) (K := K) (base := base) F_places_of_habit B
    have CLT := ok_ltouch (P := P) (w := w) (K := K) (base := base) F__law_touch B
    have T := ok_taken (P := P) (w := w) (K := K) (base := base) F__law_taken B
    have CO := ok_order F__law_order B T
    exact ok_law F B T (ok_habit F__law_habit B T CO) CO (ok_lbooks F__law_books B CLT) (ok_alikeS 0 F__law_alike B (ok_alike0 F__law_alike B)) (ok_books_of F_books_of B CS CM) (ok_book_at F_book_at B CS CP CMA) (ok_loss_shown F_loss_shown B CS CN CMA CM) (ok_hidden F_hidden_losses B CS CPO)
end RH
set_option Elab.async false
set_option linter.all false
open PySem PySem.W PyProof.Rows
set_option maxRecDepth 100000 in
set_option maxHeartbeats 0 in
theorem PySem.Challenge.cw_restlesshelf_k17_whole_looks_holds : PySem.Challenge.rw_restlesshelf_k17_whole_looks.Holds := by
  w_on; o_law; k_head; (case hw => w_witness2)
  k_fill
  refine L2.walk_of (l := PySem.Challenge.rw_restlesshelf_k17_whole_looks) (n := 63) (k := 9) (x := "script") (CX := fun _ => L2.CX0) (sp := fun w => RH.spLaw _) rfl (by decide) rfl ⟨rfl, by decide, by decide⟩ (fun w h Y => PySem.W.kIn_of Y) ?F (fun _ _ a ns hl ho hS => ⟨a, ns, rfl, RH.Fz.of ho hS, fun _ => rfl⟩) (fun _ _ _ _ _ h => h)
  case F =>
    intro w mg fa h KX G hmg
    have B : RH.Bu mg := by
      refine' RH.Bu.mk (PySem.W.mg_none_of KX G ?z0) (PySem.W.mg_none_of KX G ?z1) (PySem.W.mg_none_of KX G ?z2) (PySem.W.mg_none_of KX G ?z3) (PySem.W.mg_none_of KX G ?z4) (PySem.W.mg_none_of KX G ?z5) (PySem.W.mg_none_of KX G ?z6) (PySem.W.mg_none_of KX G ?z7) (PySem.W.mg_none_of KX G ?z8) (PySem.W.mg_none_of KX G ?z9) (PySem.W.mg_none_of KX G ?z10) (PySem.W.mg_none_of KX G ?z11) (PySem.W.mg_none_of KX G ?z12)
      (case z0 => k_is); (case z1 => k_is); (case z2 => k_is); (case z3 => k_is); (case z4 => k_is); (case z5 => k_is); (case z6 => k_is); (case z7 => k_is); (case z8 => k_is); (case z9 => k_is); (case z10 => k_is); (case z11 => k_is); (case z12 => k_is)
    have c_FEWEST_PLACES : ∃ t, mg "FEWEST_PLACES" = some (.int 2 t) := by
      refine' RH.const_mk KX G ?a
      (case a => k_is)
    have c_MOST_PLACES : ∃ t, mg "MOST_PLACES" = some (.int 5 t) := by
      refine' RH.const_mk KX G ?a
      (case a => k_is)
    have c_MOST_TOUCHES : ∃ t, mg "MOST_TOUCHES" = some (.int 400 t) := by
      refine' RH.const_mk KX G ?a
      (case a => k_is)
    have F_is_integer : RH.Df (RH.kOf KX) mg "is_integer" RH.st_is_integer ["value"] := by
      refine' RH.df_mk KX G ?a ?l ?c ?k (fun _ _ _ _ _ _ us hl => match us, hl with | [_], _ => rfl)
      (case a => k_is); (case l => k_is); (case c => k_is); (case k => k_is)
    have F_is_number : RH.Df (RH.kOf KX) mg "is_number" RH.st_is_number ["value", "low", "high"] := by
      refine' RH.df_mk KX G ?a ?l ?c ?k (fun _ _ _ _ _ _ us hl => match us, hl with | [_, _, _], _ => rfl)
      (case a => k_is); (case l => k_is); (case c => k_is); (case k => k_is)
    have F_is_row : RH.Df (RH.kOf KX) mg "is_row" RH.st_is_row ["value", "low", "high"] := by
      refine' RH.df_mk KX G ?a ?l ?c ?k (fun _ _ _ _ _ _ us hl => match us, hl with | [_, _, _], _ => rfl)
      (case a => k_is); (case l => k_is); (case c => k_is); (case k => k_is)
    have F_is_place : RH.Df (RH.kOf KX) mg "is_place" RH.st_is_place ["value", "places"] := by
      refine' RH.df_mk KX G ?a ?l ?c ?k (fun _ _ _ _ _ _ us hl => match us, hl with | [_, _], _ => rfl)
      (case a => k_is); (case l => k_is); (case c => k_is); (case k => k_is)
    have F_are_places : RH.Df (RH.kOf KX) mg "are_places" RH.st_are_places ["value", "places"] := by
      refine' RH.df_mk KX G ?a ?l ?c ?k (fun _ _ _ _ _ _ us hl => match us, hl with | [_, _], _ => rfl)
      (case a => k_is); (case l => k_is); (case c => k_is); (case k => k_is)
    have F_is_layout : RH.Df (RH.kOf KX) mg "is_layout" RH.st_is_layout ["value", "places"] := by
      refine' RH.df_mk KX G ?a ?l ?c ?k (fun _ _ _ _ _ _ us hl => match us, hl with | [_, _], _ => rfl)
      (case a => k_is); (case l => k_is); (case c => k_is); (case k => k_is)
    have F_is_word : RH.Df (RH.kOf KX) mg "is_word" RH.st_is_word ["value", "places"] := by
      refine' RH.df_mk KX G ?a ?l ?c ?k (fun _ _ _ _ _ _ us hl => match us, hl with | [_, _], _ => rfl)
      (case a => k_is); (case l => k_is); (case c => k_is); (case k => k_is)
    have F_check_number : RH.Df (RH.kOf KX) mg "check_number" RH.st_check_number ["value", "low", "high"] := by
      refine' RH.df_mk KX G ?a ?l ?c ?k (fun _ _ _ _ _ _ us hl => match us, hl with | [_, _, _], _ => rfl)
      (case a => k_is); (case l => k_is); (case c => k_is); (case k => k_is)
    have F_check_habit : RH.Df (RH.kOf KX) mg "check_habit" RH.st_check_habit ["habit"] := by
      refine' RH.df_mk KX G ?a ?l ?c ?k (fun _ _ _ _ _ _ us hl => match us, hl with | [_], _ => rfl)
      (case a => k_is); (case l => k_is); (case c => k_is); (case k => k_is)
    have F_check_layout : RH.Df (RH.kOf KX) mg "check_layout" RH.st_check_layout ["layout", "places"] := by
      refine' RH.df_mk KX G ?a ?l ?c ?k (fun _ _ _ _ _ _ us hl => match us, hl with | [_, _], _ => rfl)
      (case a => k_is); (case l => k_is); (case c => k_is); (case k => k_is)
    have F_check_place : RH.Df (RH.kOf KX) mg "check_place" RH.st_check_place ["place", "places"] := by
      refine' RH.df_mk KX G ?a ?l ?c ?k (fun _ _ _ _ _ _ us hl => match us, hl with | [_, _], _ => rfl)
      (case a => k_is); (case l => k_is); (case c => k_is); (case k => k_is)
    have F_check_word : RH.Df (RH.kOf KX) mg "check_word" RH.st_check_word ["word", "places"] := by
      refine' RH.df_mk KX G ?a ?l ?c ?k (fun _ _ _ _ _ _ us hl => match us, hl with | [_, _], _ => rfl)
      (case a => k_is); (case l => k_is); (case c => k_is); (case k => k_is)
    have F_places_of_habit : RH.Df (RH.kOf KX) mg "places_of_habit" RH.st_places_of_habit ["habit"] := by
      refine' RH.df_mk KX G ?a ?l ?c ?k (fun _ _ _ _ _ _ us hl => match us, hl with | [_], _ => rfl)
      (case a => k_is); (case l => k_is); (case c => k_is); (case k => k_is)
    have F_move : RH.Df (RH.kOf KX) mg "move" RH.st_move ["habit", "layout", "place"] := by
      refine' RH.df_mk KX G ?a ?l ?c ?k (fun _ _ _ _ _ _ us hl => match us, hl with | [_, _, _], _ => rfl)
      (case a => k_is); (case l => k_is); (case c => k_is); (case k => k_is)
    have F_move_along : RH.Df (RH.kOf KX) mg "move_along" RH.st_move_along ["habit", "layout", "word"] := by
      refine' RH.df_mk KX G ?a ?l ?c ?k (fun _ _ _ _ _ _ us hl => match us, hl with | [_, _, _], _ => rfl)
      (case a => k_is); (case l => k_is); (case c => k_is); (case k => k_is)
    have F_book_at : RH.Df (RH.kOf KX) mg "book_at" RH.st_book_at ["habit", "layout", "word", "place"] := by
      refine' RH.df_mk KX G ?a ?l ?c ?k (fun _ _ _ _ _ _ us hl => match us, hl with | [_, _, _, _], _ => rfl)
      (case a => k_is); (case l => k_is); (case c => k_is); (case k => k_is)
    have F_books_of : RH.Df (RH.kOf KX) mg "books_of" RH.st_books_of ["habit", "layout", "word"] := by
      refine' RH.df_mk KX G ?a ?l ?c ?k (fun _ _ _ _ _ _ us hl => match us, hl with | [_, _, _], _ => rfl)
      (case a => k_is); (case l => k_is); (case c => k_is); (case k => k_is)
    have F_loss_shown : RH.Df (RH.kOf KX) mg "loss_shown" RH.st_loss_shown ["habit", "layout", "word", "spot"] := by
      refine' RH.df_mk KX G ?a ?l ?c ?k (fun _ _ _ _ _ _ us hl => match us, hl with | [_, _, _, _], _ => rfl)
      (case a => k_is); (case l => k_is); (case c => k_is); (case k => k_is)
    have F_hidden_losses : RH.Df (RH.kOf KX) mg "hidden_losses" RH.st_hidden_losses ["habit", "layout", "word"] := by
      refine' RH.df_mk KX G ?a ?l ?c ?k (fun _ _ _ _ _ _ us hl => match us, hl with | [_, _, _], _ => rfl)
      (case a => k_is); (case l => k_is); (case c => k_is); (case k => k_is)
    have F_check_word_on_shelf : RH.Df (RH.kOf KX) mg "check_word_on_shelf" RH.st_check_word_on_shelf ["habit", "layout", "word"] := by
      refine' RH.df_mk KX G ?a ?l ?c ?k (fun _ _ _ _ _ _ us hl => match us, hl with | [_, _, _], _ => rfl)
      (case a => k_is); (case l => k_is); (case c => k_is); (case k => k_is)
    have F__law_taken : RH.Df (RH.kOf KX) mg "_law_taken" RH.st__law_taken ["row", "many"] := by
      refine' RH.df_mk KX G ?a ?l ?c ?k (fun _ _ _ _ _ _ us hl => match us, hl with | [_, _], _ => rfl)
      (case a => k_is); (case l => k_is); (case c => k_is); (case k => k_is)
    have F__law_order : RH.Df (RH.kOf KX) mg "_law_order" RH.st__law_order ["row", "many"] := by
      refine' RH.df_mk KX G ?a ?l ?c ?k (fun _ _ _ _ _ _ us hl => match us, hl with | [_, _], _ => rfl)
      (case a => k_is); (case l => k_is); (case c => k_is); (case k => k_is)
    have F__law_habit : RH.Df (RH.kOf KX) mg "_law_habit" RH.st__law_habit ["row", "places"] := by
      refine' RH.df_mk KX G ?a ?l ?c ?k (fun _ _ _ _ _ _ us hl => match us, hl with | [_, _], _ => rfl)
      (case a => k_is); (case l => k_is); (case c => k_is); (case k => k_is)
    have F__law_touch : RH.Df (RH.kOf KX) mg "_law_touch" RH.st__law_touch ["habit", "layout", "place"] := by
      refine' RH.df_mk KX G ?a ?l ?c ?k (fun _ _ _ _ _ _ us hl => match us, hl with | [_, _, _], _ => rfl)
      (case a => k_is); (case l => k_is); (case c => k_is); (case k => k_is)
    have F__law_books : RH.Df (RH.kOf KX) mg "_law_books" RH.st__law_books ["habit", "layout", "word"] := by
      refine' RH.df_mk KX G ?a ?l ?c ?k (fun _ _ _ _ _ _ us hl => match us, hl with | [_, _, _], _ => rfl)
      (case a => k_is); (case l => k_is); (case c => k_is); (case k => k_is)
    have F__law_alike : RH.Df (RH.kOf KX) mg "_law_alike" RH.st__law_alike ["found", "due"] := by
      refine' RH.df_mk KX G ?a ?l ?c ?k (fun _ _ _ _ _ _ us hl => match us, hl with | [_, _], _ => rfl)
      (case a => k_is); (case l => k_is); (case c => k_is); (case k => k_is)
    have F_law : RH.Df (RH.kOf KX) mg "law" RH.st_law ["script"] := by
      refine' RH.df_mk KX G ?a ?l ?c ?k (fun _ _ _ _ _ _ us hl => match us, hl with | [_], _ => rfl)
      (case a => k_is); (case l => k_is); (case c => k_is); (case k => k_is)
    obtain ⟨fd, hb, hF⟩ := RH.top (P := (PySem.Challenge.rw_restlesshelf_k17_whole_looks).prog) (w := w) hmg B c_FEWEST_PLACES c_MOST_PLACES c_MOST_TOUCHES F_is_integer F_is_number F_is_row F_is_place F_are_places F_is_layout F_is_word F_check_number F_check_habit F_check_layout F_check_place F_check_word F_places_of_habit F_move F_move_along F_book_at F_books_of F_loss_shown F_hidden_losses F_check_word_on_shelf F__law_taken F__law_order F__law_habit F__law_touch F__law_books F__law_alike F_law
    exact ⟨fd, hb, fun base _ _ => hF base⟩
