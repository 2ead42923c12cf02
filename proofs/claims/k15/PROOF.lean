import PyProof.Rows.All
import Wide.All
import OpenK.AllK
import Wide.FinOn
import HandS.ForMost
import HandS.Exc
import HandS.TryOnly
import HandS.ExcOwn
import HandS.WordsExc
import HandS.IsInst
import HandS.Conv
import HandS.Sort
import HandS.SortInts
import HandS.Zip
import HandS.Zip0
import HandS.Wide
import HandS.Deep
import HandS.Flow
import HandS.Style
import HandS.TupAny
import KE.GoesEnum
import KE.KEqSeq
import KE.KEqDeep
import PyProof.TupleOfSeq
import HandS.Lambda
import HandS.Nested
import HandS.EndTab
import KE.KDictDisplayH
import KE.KDictCopyH
import KE.KIndexOf
import HandS.Dict
import HandS.DictTup
import HandS.TupLen
import HandS.Defaults
import PySem.Challenge.RW_restlesshelf_k15_whole_left
set_option Elab.async false
set_option linter.all false
set_option maxRecDepth 100000
set_option maxHeartbeats 2000000
/-! Two rules more: a walk over enumerate of a tuple, sorted of a tuple of ints. -/
namespace RH
open PySem PySem.Spec PyProof.Rows L2
theorem made_enumB {v : Value} {o : Obj} {H : Heap → Prop} (B : Begins v o H) :
    Meets (Builtin.«enumerate.__new__» ⟨[.type "enumerate", v], []⟩) (fun _ R s => H s.heap ∧
      R (.ok (.ret (.ref (s.heap.push o).objs.size))) { s with heap := (s.heap.push o).push { cls := .type "enumerate", data := .fields #[.none, .bool false, .ref s.heap.objs.size, rawInt 0, .none, .none] } }) :=
  .of_wp fun prog w A R s h => by
    obtain ⟨hp, g, d, tz, oz⟩ := s; obtain ⟨h1, h⟩ := h
    have hsub := sub_enumerate
    have q1 : ∀ {A' : Around} {E : Value → Shared → Prop} {Q : Value → Shared → Prop}, Q (.ref hp.objs.size) ⟨hp.push o, g, d, tz, oz⟩ → wpAny (model prog w) A' (pyIter v) Q E ⟨hp, g, d, tz, oz⟩ :=
      fun q => B.iter prog w _ _ ⟨hp, g, d, tz, oz⟩ _ h1 q
    wp_walk using q1
    refine wpAny_stack_any fun st => wpAny_pure ?_
    split
    · rename_i c _ _ _ _ _
      cases (c == Value.type "enumerate")
      · wp_walk using q1
        exact ⟨_, rfl, h⟩
      · wp_walk using q1
        exact ⟨_, rfl, h⟩
    · wp_walk using q1
      exact ⟨_, rfl, h⟩
section
variable {prog : Program} {w : World} {A : Around} {E : Value → Shared → Prop} {s : Shared}
theorem enum_one {v : Value} {o : Obj} {H : Heap → Prop} {Q : Value → Shared → Prop} (B : Begins v o H) (h1 : H s.heap)
    (h : ∀ h', IsEnum h' (s.heap.objs.size + 1) s.heap.objs.size 0 .none → h'.get? s.heap.objs.size = some o → h'.objs.size = s.heap.objs.size + 2 →
      (∀ b o, s.heap.get? b = some o → h'.get? b = some o) → Q (.ref (s.heap.objs.size + 1)) { s with heap := h' }) :
    wpAny (model prog w) A (call (.type "enumerate") [v]) Q E s := by
  refine callType_new F.called_enumerate (by decide) (F.typeCall_enumerate_1 _) (F.newCall_enumerate_1 _) (fun obj => F.args_object_init_2 obj _) F.entry_enumerate_new
    (made_enumB B) ⟨h1, ?_⟩
  have hZ : (s.heap.push o).objs.size = s.heap.objs.size + 1 := Heap.size_push ..
  show _ ∧ _
  rw [hZ]
  have he : IsEnum ((s.heap.push o).push { cls := .type "enumerate", data := .fields #[.none, .bool false, .ref s.heap.objs.size, rawInt 0, .none, .none] }) (s.heap.objs.size + 1) s.heap.objs.size 0 .none := by
    have := Heap.get?_push_size (s.heap.push o) (o := { cls := .type "enumerate", data := .fields #[.none, .bool false, .ref s.heap.objs.size, rawInt 0, .none, .none] }) rfl
    rw [hZ] at this; exact this
  refine ⟨⟨_, he, rfl⟩, h _ he (Heap.get?_push_of_some _ (Heap.get?_push_size _ B.free)) (by rw [Heap.size_push, hZ]) fun b o x => Heap.get?_push_of_some _ (Heap.get?_push_of_some _ x)⟩
end
/-- the tuple at a, each item with vz number in a new pair -/
def IteT (K : PySem.W.Frag) (a : Addr) : It :=
  ⟨fun i H => ∃ (xs : List V) (x : V), SqT K H a xs ∧ xs[i]? = some x, fun i H v H' => ∃ T x, v = .ref T ∧ H T = none ∧ H' = upd H T (.tup [.int (i : Nat), x]) ∧ ∀ xs, SqT K H a xs → xs[i]? = some x, fun i H => ∃ xs : List V, SqT K H a xs ∧ xs.length ≤ i⟩
theorem ne_enum {h : Heap} {e it a : Addr} {i : Int} {old : Value} {vz : Array Value} (he : IsEnum h e it i old) (p : IsTup h a vz) : e ≠ a := fun z => by
  obtain ⟨o, hO, hC, _⟩ := p
  rw [← z, he] at hO
  cases hO
  exact absurd (Value.type.inj hC) (by decide)
theorem turn_enumT {P : Program} {w : World} {K : PySem.W.Frag} {elts : List Expr} {kk : Nat} {tpos : Pos} (a e it : Addr) :
    Turn P w K (.Tuple elts kk tpos) (IteT K a) [e, it] e (fun i h => (∃ old, IsEnum h e it ((i : Nat) : Int) old) ∧ h.IsTupleIter it a i ∧ e ≠ it ∧ a ≠ it) where
  mem := by simp
  obj := fun i h st b hb => by
    obtain ⟨⟨old, he⟩, ⟨o, hO, hC, hD⟩, _⟩ := st
    have e' : b = e ∨ b = it := by simpa using hb
    rcases e' with z | z
    · rw [z]; exact ⟨_, he, fun v q => nomatch q⟩
    · rw [z]; exact ⟨o, hO, fun v q => by rw [hD] at q; cases q⟩
  keep := fun i h h' st k => let ⟨⟨old, he⟩, hi, nEI⟩ := st; ⟨⟨old, k e (by simp) _ he⟩, hi.at fun o q => k it (by simp) o q, nEI⟩
  item := by
    intro X hP hw hK hC i pins s σ H E I hf st hg
    subst hP hw hK
    obtain ⟨⟨old, he⟩, hIt, nEI, nAI⟩ := st
    obtain ⟨xs, x, hSq, hx⟩ := hg
    obtain ⟨vz, rz, p, hZ⟩ := I.tuple hSq
    obtain ⟨u, hu, ru⟩ := rz.get hx
    have ltE : e < s.heap.objs.size := Heap.lt_size he
    have ltI : it < s.heap.objs.size := by obtain ⟨_, q, _⟩ := hIt; exact Heap.lt_size q
    have hlt : i < vz.toArray.size := by
      have := (List.getElem?_eq_some_iff.mp hu).1
      simpa using this
    refine wpAny_pyNext_enum_itemD (Draws.tuple (show X.A.in1.handled = none from I.ok.hd hC) it a nAI vz.toArray) he ⟨hIt, p⟩ hlt nEI (by
      intro hm
      have e' : e = it ∨ e = a := by simpa using hm
      rcases e' with z | z
      · exact nEI z
      · exact ne_enum he p z) fun x' h' tz hP' hO hit' hT hSz kp => ?_
    have ex : x' = u := by
      have h2 : vz.toArray[i]? = some u := by simpa using hu
      rw [h2] at hP'
      exact (Option.some.inj hP').symm
    subst ex
    refine ⟨_, rfl, wpAny_letOwnedTupleGo_enum (s := { s with heap := h', toks := tz + 1 }) hO fun h'' he' sbu => ?_⟩
    have hT2 : h''.get? s.heap.objs.size = some { cls := .type "tuple", data := .seq #[.int i tz, x'] } := (sbu.2 _ (Nat.ne_of_gt ltE)).trans hT
    have new : ObjOk X.prog X.w (upd H s.heap.objs.size (.tup [.int (i : Nat), x])) h'' s.heap.objs.size (.tup [.int (i : Nat), x]) :=
      ⟨by show 2 ≤ sizeLine; decide, [.int i tz, x'], .cons ⟨_, rfl⟩ (.cons ru .nil), ⟨_, hT2, rfl, _, rfl⟩⟩
    have I1 : Inv X pins σ (upd H s.heap.objs.size (.tup [.int (i : Nat), x])) { s with heap := h'', toks := tz + 1 } :=
      I.turnedNew (ch := [e, it]) (fun b ob hb q => (sbu.2 b (fun z => hb (by simp [z]))).trans (kp b ob (fun z => hb (by simp [z])) (fun z => hb (by simp [z])) q)) hf (Nat.le_refl _) new
    refine ⟨.ref s.heap.objs.size, _, I1, rfl, ⟨_, x, rfl, I.hok.fresh (Nat.le_refl _), rfl, fun ys hy => by rw [I.tuple_inj hy hSq]; exact hx⟩, ⟨⟨x', ?_⟩, hit'.1.at fun o q => (sbu.2 it (Ne.symm nEI)).trans q, nEI, nAI⟩, fun b hb => ?_⟩
    · have e1 : ((i + 1 : Nat) : Int) = (i : Int) + 1 := by omega
      rw [e1]; exact he'
    · have hb' : b < s.heap.objs.size := by
        have e' : b = e ∨ b = it := by simpa using hb
        rcases e' with z | z
        · rw [z]; exact ltE
        · rw [z]; exact ltI
      rw [upd_ne (Nat.ne_of_lt hb')]
      exact (hf b hb).1
  done := by
    intro X hP hw hK hC i pins s σ H E I hf st hg
    subst hP hw hK
    obtain ⟨⟨old, he⟩, hIt, nEI, nAI⟩ := st
    obtain ⟨xs, hSq, hx⟩ := hg
    obtain ⟨vz, rz, p, hZ⟩ := I.tuple hSq
    obtain ⟨f0, f1, f2, f3, f4, f5⟩ := hf it (by simp)
    have hl := rz.length
    have hT : s.TypeIs (.ref e) "enumerate" := ⟨_, he, rfl⟩
    unfold pyNext
    refine wpAny_bind (wpAny_attempt (wpAny_callSpecial?_slot (name := Str.ofString "__next__") hT F.slot_enumerate_next
      (wpAny_call_entry F.slot_enumerate_next hT F.entry_enumerate_next ?_ (F.args_enumerate_next_1 _))))
    show wpAny _ _ (field (.ref e) 2 >>= _) _ _ _
    refine wpAny_bind (wpAny_field he rfl (x := .ref it) rfl ?_)
    refine wpAny_bind (wpAny_nextOf_tuple_end (show X.A.in1.handled = none from I.ok.hd hC) hIt p (by simp; omega) fun h' x he' hx' => ?_)
    obtain ⟨o, hO, hc'⟩ := hx'
    refine wpAny_bind (wpAny_isInstance (T := "StopIteration") (b := true) ⟨o, hO, hc'⟩ isSubtype_stop ?_)
    exact wpAny_pure ⟨rfl, I.turned (t' := s.toks) (fun b o hb q => he' b o hb q) f0 f1 f3 f4 f5⟩
  self := fun A i s Q E st h => let ⟨⟨_, he⟩, _⟩ := st; wpAny_pyIter_enum he h
def iEnumT (K : PySem.W.Frag) (ta : TA) : TI := fun σ H R => ta σ H fun vs H1 => ∃ a xs, vs = [.ref a] ∧ SqT K H1 a xs ∧ R (IteT K a) H1
theorem pi_enumT {X : Cx} {e : Expr} {ta : TA} {p pos tpos : Pos} {elts : List Expr} {kk : Nat} (hg : Gl X "enumerate") (hm : X.mg "enumerate" = none) (ha : PA X [e] ta) (hs : starEach [e] X.env = [(false, eval e X.env)] := by rfl) :
    PI X (.Tuple elts kk tpos) (.Call (.Name "enumerate" p) [e] [] pos) (iEnumT X.K ta) := by
  refine ⟨fun pins s σ H R I h => ?_⟩
  refine Call_ (ld_blt I hg hm boot_enumerate (PyProof.Rows.callWith_type1 (thn (ha.run pos pins s σ H _ I h) fun us s1 ⟨vs, H1, I1, r1, q1⟩ => ?_) hs rfl))
  obtain ⟨a, xs, ex, hSq, q⟩ := q1
  subst ex
  cases r1 with
  | cons r rr =>
    cases rr
    cases r
    obtain ⟨vz, rz, p', hZ⟩ := I1.tuple hSq
    have hal : a < s1.heap.objs.size := by obtain ⟨_, q', _⟩ := id p'; exact Heap.lt_size q'
    refine enum_one (begins_tuple a vz.toArray) p' fun h' he hIt hSz kp => wpAny_pyIter_enum he ?_
    have I2 : Inv X pins σ H1 { s1 with heap := h' } := I1.kept (t' := s1.toks) kp
    refine ⟨s1.heap.objs.size + 1, [s1.heap.objs.size + 1, s1.heap.objs.size], _, _, H1, rfl, I2, turn_enumT a (s1.heap.objs.size + 1) s1.heap.objs.size, ⟨⟨.none, he⟩, ⟨_, hIt, rfl, rfl⟩, Nat.succ_ne_self _, Nat.ne_of_lt hal⟩, fun b hb => ?_, q⟩
    have e' : b = s1.heap.objs.size + 1 ∨ b = s1.heap.objs.size := by simpa using hb
    have hle : s1.heap.objs.size ≤ b := by
      rcases e' with z | z
      · rw [z]; exact Nat.le_add_right _ _
      · rw [z]; exact Nat.le_refl _
    exact I1.fpOk hle (I1.hok.fresh hle)
/-! ### sorted(a tuple of ints) -/
def rSortedTup (K : PySem.W.Frag) : List V → Hp → VK → Prop := fun vs H Q => ∃ (a : Addr) (ns : List Int), vs = [V.ref a] ∧ SqT K H a (ns.map V.int) ∧ ns.length < 64 ∧
  ∀ (ns' : List Int) (p : Addr), ns'.Perm ns → ns'.Pairwise (· ≤ ·) → H p = none → Q (.ref p) (upd H p (.lst (ns'.map V.int)))
section
variable {prog : Program} {w : World} {A : Around} {E : Value → Shared → Prop} {s : Shared}
theorem collect_tup {l : Addr} {vs : List Value} {Q : List Value → Shared → Prop} (hl : IsTup s.heap l vs.toArray)
    (h : Q vs { s with heap := (s.heap.push (seqObj "list" #[] 0)).update s.heap.objs.size (Obj.mapSeq (· ++ vs.toArray)) }) (hSz : vs.length ≤ sizeLine := by size_fits) :
    wpAny (model prog w) A (collect (.ref l)) Q E s := by
  obtain ⟨o, hO, hC, n, hD⟩ := id hl
  unfold collect
  refine wpAny_bind (wpAny_runValue (codeAny_builtin F.entry_proto_collect ?_))
  rw [Around.under_plainId F.plain_proto_collect _]
  show wpAny _ A.in1 (newList [] >>= fun l' => again (.builtin "list.__iadd__" ⟨[l', .ref l], []⟩)) _ _ s
  refine wpAny_bind (wpAny_newList (wpAny_pure ⟨plainId_quiet F.plain_list_iadd _, codeAny_builtin F.entry_list_iadd ?_⟩))
  rw [Around.under_plainId F.plain_list_iadd _]
  show wpAny _ _ (Builtin.List.listExtendWith (.ref s.heap.objs.size) (.ref l) (.ref s.heap.objs.size)) _ _ { s with heap := s.heap.push (seqObj "list" #[] 0) }
  unfold Builtin.List.listExtendWith
  have ho' : (s.heap.push (seqObj "list" #[] 0)).get? l = some o := Heap.get?_push_of_some _ hO
  refine wpAny_bind (wpAny_typeOf (T := "tuple") ⟨o, ho', hC⟩ ?_)
  have hT0 : (Value.type "tuple" == Value.type "tuple") = true := by rfl
  rw [if_pos (by rw [hT0]; simp)]
  refine wpAny_bind (listItems_at ho' hD ?_)
  refine wpAny_bind (listItems_at (xs := #[]) (n := 0) (Heap.get?_push_size _ rfl) rfl ?_)
  rw [if_neg (by simp)]
  refine wpAny_bind (listUpdate_at (xs := #[]) (n := 0) (Heap.get?_push_size _ rfl) rfl ?_ (Nat.zero_le _) (by show (#[] ++ vs.toArray).size ≤ sizeLine + 1; simp only [Array.size_append, List.size_toArray, List.length_nil]; omega))
  refine wpAny_pure ?_
  show wpAny (model prog w) A (do
      let o ← load s.heap.objs.size
      match o.data with
      | .seq xs _ => pure xs.toList
      | _ => unsupported "internal:collect") Q E { s with heap := (s.heap.push (seqObj "list" #[] 0)).update s.heap.objs.size (Obj.mapSeq (· ++ vs.toArray)) }
  refine wpAny_bind (wpAny_load (get?_update_seq (Heap.get?_push_size _ rfl) _) ?_)
  show wpAny _ _ (pure ((#[] : Array Value) ++ vs.toArray).toList) Q E _
  rw [show ((#[] : Array Value) ++ vs.toArray).toList = vs by simp]
  exact wpAny_pure h
theorem sorted_intsT {l : Addr} {vs : List Value} {ns : List Int} {Q : Value → Shared → Prop} (hl : IsTup s.heap l vs.toArray) (hI : IntsAre vs ns) (h64 : vs.length < 64)
    (h : ∀ (out : Array Value) (ns' : List Int), IntsAre out.toList ns' → ns'.Perm ns → ns'.Pairwise (· ≤ ·) → Q (.ref (s.heap.objs.size + 1)) { s with heap := sortedAll s.heap vs out }) :
    wpAny (model prog w) A (call (.builtin "sorted") [.ref l]) Q E s := by
  refine Calls.call_function_entry kind_sorted plain_sorted entry_sorted (args_sorted1 _) ?_
  unfold Builtin.«sorted»
  refine wpAny_bind (m := checkCount "sorted" 1 1 _) (wpAny_pure ?_)
  have hsz0 : vs.length ≤ sizeLine := by
    rw [sizeLine_eq]
    omega
  refine wpAny_bind (collect_tup (hSz := hsz0) hl ?_)
  refine wpAny_bind (wpAny_newList ?_)
  have hSz : ((s.heap.push (seqObj "list" #[] 0)).update s.heap.objs.size (Obj.mapSeq (· ++ vs.toArray))).objs.size = s.heap.objs.size + 1 := by
    rw [Heap.size_update, size_push']
  have hOL : (((s.heap.push (seqObj "list" #[] 0)).update s.heap.objs.size (Obj.mapSeq (· ++ vs.toArray))).push (seqObj "list" vs.toArray 0)).get? (s.heap.objs.size + 1) = some (seqObj "list" vs.toArray 0) := by
    rw [← hSz]; exact Heap.get?_push_size _ rfl
  show wpAny _ _ _ _ _ { s with heap := ((s.heap.push (seqObj "list" #[] 0)).update s.heap.objs.size (Obj.mapSeq (· ++ vs.toArray))).push (seqObj "list" vs.toArray 0) }
  rw [hSz]
  refine wpAny_bind (wpAny_holding (wpAny_call_entry slot_list_sort ⟨_, hOL, rfl⟩ entry_list_sort (list_sort_tree hOL hI h64 fun out ns' a1 a2 a3 => ⟨_, rfl, ?_⟩) (args_list_sort _)))
  exact wpAny_pure ⟨_, rfl, h out ns' a1 a2 a3⟩
end
theorem cr_sortedTup {X : Cx} : CallR X (.builtin "sorted") (rSortedTup X.K) := by
  intro pins s σ H vs us Q I r h
  obtain ⟨a, ns, rfl, hs, h64, q⟩ := h
  obtain ⟨vz, rz, hl, _⟩ := I.tuple hs
  rw [Vals.ref1 r]
  have hi := rz.ints
  refine sorted_intsT hl hi (by rw [hi.length]; exact h64) fun out ns' h1 h2 h3 => ?_
  obtain ⟨ep, he'⟩ := PyProof.Rows.sortedAll_at s.heap vz out
  have hLn : (ns'.map V.int).length ≤ sizeLine := by rw [List.length_map, h2.length_eq]; exact small64 h64
  exact ⟨.ref _, upd H (s.heap.objs.size + 1) (.lst (ns'.map V.int)), I.laid (t' := s.toks) (fun _ _ => PyProof.Rows.sortedAll_old) (Nat.le_succ _) ⟨hLn, out.toList, ep, vals_of_ints h1, he'⟩, rfl, q ns' _ h2 h3 (I.hok.fresh (Nat.le_succ _))⟩
end RH
set_option Elab.async false
set_option linter.all false
set_option maxRecDepth 100000
set_option maxHeartbeats 2000000
/-! Lambdas with parameters and captured names, as values: made, handed to a def of the text, called there. -/
set_option Elab.async false
set_option linter.all false
set_option maxRecDepth 100000
set_option maxHeartbeats 2000000
/-! Dicts with tuples for keys: one pair written out, their values; where an int stands in a tuple. -/
set_option Elab.async false
set_option linter.all false
set_option maxRecDepth 100000
set_option maxHeartbeats 2000000
/-! Tuples told by their very object, and dicts whose keys are such tuples of ints. -/
namespace RH
open PySem PySem.Spec PyProof.Rows L2
def keyOf (s : List Int) : List L2.Key := s.map Sum.inl
/-- b is a tuple of these ints -/
def KX (H : Hp) (b : Addr) (s : List Int) : Prop := Rd H b (.tup (s.map V.int))
inductive XS : List (List Int × V) → List Addr → List (List L2.Key × Addr × Value) → Prop
  | nil : XS [] [] []
  | cons {q : List Int × V} {b : Addr} {u : Value} {as : List (List Int × V)} {bs : List Addr} {xs : List (List L2.Key × Addr × Value)} : RelV q.2 u → XS as bs xs → XS (q :: as) (b :: bs) ((keyOf q.1, b, u) :: xs)
inductive KB (H : Hp) : List (List Int × V) → List Addr → Prop
  | nil : KB H [] []
  | cons {q : List Int × V} {b : Addr} {as : List (List Int × V)} {bs : List Addr} : KX H b q.1 → KB H as bs → KB H (q :: as) (b :: bs)
theorem KB.snoc {H : Hp} {q : List Int × V} {b : Addr} (h : KX H b q.1) : ∀ {as : List (List Int × V)} {bs : List Addr}, KB H as bs → KB H (as ++ [q]) (bs ++ [b])
  | _, _, .nil => .cons h .nil
  | _, _, .cons g t => .cons g (t.snoc h)
theorem KB.imp {H H' : Hp} (f : ∀ b s, KX H b s → KX H' b s) : ∀ {as : List (List Int × V)} {bs : List Addr}, KB H as bs → KB H' as bs
  | _, _, .nil => .nil
  | _, _, .cons g t => .cons (f _ _ g) (t.imp f)
theorem XS.len : ∀ {as : List (List Int × V)} {bs : List Addr} {xs : List (List L2.Key × Addr × Value)}, XS as bs xs → xs.length = as.length
  | _, _, _, .nil => rfl
  | _, _, _, .cons _ t => congrArg (· + 1) t.len
theorem XS.snoc {q : List Int × V} {b : Addr} {u : Value} (h : RelV q.2 u) : ∀ {as : List (List Int × V)} {bs : List Addr} {xs : List (List L2.Key × Addr × Value)}, XS as bs xs → XS (as ++ [q]) (bs ++ [b]) (xs ++ [(keyOf q.1, b, u)])
  | _, _, _, .nil => .cons h .nil
  | _, _, _, .cons g t => .cons g (t.snoc h)
/-- the dict at d: as with its values, bs its keys' tuples -/
abbrev DE (P : Program) (w : World) (as : List (List Int × V)) (bs : List Addr) (d : Addr) : HO := .ext fun h => (d == sysModules) = false ∧ as.length ≤ sizeLine ∧ ∃ xs : List (List L2.Key × Addr × Value), XS as bs xs ∧
  ∃ o es ep, h.get? d = some o ∧ o.ExactDict ∧ o.data = .dict es ep ∧ es.toList = xs.map (entryOfKey (tupleKind (mixKind P w))) ∧ (xs.map (·.1)).Nodup
theorem DE.ok {P : Program} {w : World} {H : Hp} {h : Heap} {as : List (List Int × V)} {bs : List Addr} {d : Addr} {xs : List (List L2.Key × Addr × Value)} (hd : (d == sysModules) = false) (hl : as.length ≤ sizeLine) (hx : XS as bs xs) (dd : h.DictOfH (tupleKind (mixKind P w)) d xs) : ObjOk P w H h d (DE P w as bs d) := by
  obtain ⟨o, es, ep, h1, h2, h3, h4, _, h5⟩ := dd
  refine ⟨⟨hd, hl, xs, hx, o, es, ep, h1, h2, h3, h4, h5⟩, ⟨o, h1⟩, fun h1 h2 ⟨a1, a2, xs, a3, o, es, ep, b1, b2⟩ k => ⟨a1, a2, xs, a3, o, es, ep, k _ b1, b2⟩⟩
/-! ### the rules -/
end RH
set_option Elab.async false
set_option linter.all false
set_option maxRecDepth 100000
set_option maxHeartbeats 2000000
namespace RH
open PySem PySem.Spec PyProof.Rows L2
def topS (i : Nat) : Stmt := PySem.Challenge.pw_restlesshelf_k15_whole_left.main.body.getD i (.Pass ⟨0, 0, 0, 0⟩)
abbrev st_is_integer : Stmt := topS 9
theorem sc_is_integer : FnScope ["value"] ["value"] (defScope st_is_integer) :=
  ⟨rfl, rfl, rfl, by decide +kernel, rfl, by decide +kernel, by decide +kernel⟩
abbrev st_is_number : Stmt := topS 10
theorem sc_is_number : FnScope ["value", "low", "high"] ["value", "low", "high"] (defScope st_is_number) :=
  ⟨rfl, rfl, rfl, by decide +kernel, rfl, by decide +kernel, by decide +kernel⟩
abbrev st_is_row : Stmt := topS 11
theorem sc_is_row : FnScope ["value", "low", "high"] ["value", "low", "high"] (defScope st_is_row) :=
  ⟨rfl, rfl, rfl, by decide +kernel, rfl, by decide +kernel, by decide +kernel⟩
abbrev st_is_place : Stmt := topS 12
theorem sc_is_place : FnScope ["value", "places"] ["value", "places"] (defScope st_is_place) :=
  ⟨rfl, rfl, rfl, by decide +kernel, rfl, by decide +kernel, by decide +kernel⟩
abbrev st_are_places : Stmt := topS 13
theorem sc_are_places : FnScope ["value", "places", "place"] ["value", "places"] (defScope st_are_places) :=
  ⟨rfl, rfl, rfl, by decide +kernel, rfl, by decide +kernel, by decide +kernel⟩
abbrev st_is_rising : Stmt := topS 14
theorem sc_is_rising : FnScope ["row", "one", "other"] ["row"] (defScope st_is_rising) :=
  ⟨rfl, rfl, rfl, by decide +kernel, rfl, by decide +kernel, by decide +kernel⟩
abbrev st_is_layout : Stmt := topS 15
theorem sc_is_layout : FnScope ["value", "places"] ["value", "places"] (defScope st_is_layout) :=
  ⟨rfl, rfl, rfl, by decide +kernel, rfl, by decide +kernel, by decide +kernel⟩
abbrev st_is_habit : Stmt := topS 16
theorem sc_is_habit : FnScope ["value", "moves"] ["value"] (defScope st_is_habit) :=
  ⟨rfl, rfl, rfl, by decide +kernel, rfl, by decide +kernel, by decide +kernel⟩
abbrev st_check_habits : Stmt := topS 17
theorem sc_check_habits : FnScope ["habits", "most", "index", "habit"] ["habits", "most"] (defScope st_check_habits) :=
  ⟨rfl, rfl, rfl, by decide +kernel, rfl, by decide +kernel, by decide +kernel⟩
abbrev st_is_lot : Stmt := topS 18
theorem sc_is_lot : FnScope ["value", "places"] ["value", "places"] (defScope st_is_lot) :=
  ⟨rfl, rfl, rfl, by decide +kernel, rfl, by decide +kernel, by decide +kernel⟩
abbrev st_check_lot : Stmt := topS 19
theorem sc_check_lot : FnScope ["lot", "places"] ["lot", "places"] (defScope st_check_lot) :=
  ⟨rfl, rfl, rfl, by decide +kernel, rfl, by decide +kernel, by decide +kernel⟩
abbrev st_habits_left : Stmt := topS 21
theorem sc_habits_left : FnScope ["habits", "lot", "place", "word", "read", "is_marked", "index", "habit"] ["habits", "lot", "place", "word", "read", "is_marked"] (defScope st_habits_left) :=
  ⟨rfl, rfl, rfl, by decide +kernel, rfl, by decide +kernel, by decide +kernel⟩
abbrev st_is_of_lot : Stmt := topS 22
theorem sc_is_of_lot : FnScope ["value", "lot", "places"] ["value", "lot", "places"] (defScope st_is_of_lot) :=
  ⟨rfl, rfl, rfl, by decide +kernel, rfl, by decide +kernel, by decide +kernel⟩
abbrev st_is_test : Stmt := topS 23
theorem sc_is_test : FnScope ["place", "word", "read", "lot", "places", "touch"] ["place", "word", "read", "lot", "places"] (defScope st_is_test) :=
  ⟨rfl, rfl, rfl, by decide +kernel, rfl, by decide +kernel, by decide +kernel⟩
abbrev st_reads_mark : Stmt := topS 24
theorem sc_reads_mark : FnScope ["habit", "place", "word", "read", "stood", "touch"] ["habit", "place", "word", "read"] (defScope st_reads_mark) :=
  ⟨rfl, rfl, rfl, by decide +kernel, rfl, by decide +kernel, by decide +kernel⟩
abbrev st__law_taken : Stmt := topS 26
theorem sc__law_taken : FnScope ["row", "many", "found", "cell"] ["row", "many"] (defScope st__law_taken) :=
  ⟨rfl, rfl, rfl, by decide +kernel, rfl, by decide +kernel, by decide +kernel⟩
abbrev st__law_order : Stmt := topS 27
theorem sc__law_order : FnScope ["row", "many", "left", "found"] ["row", "many"] (defScope st__law_order) :=
  ⟨rfl, rfl, rfl, by decide +kernel, rfl, by decide +kernel, by decide +kernel⟩
abbrev st__law_habit : Stmt := topS 28
theorem sc__law_habit : FnScope ["row", "places", "way", "found", "place", "moved", "other", "spot"] ["row", "places"] (defScope st__law_habit) :=
  ⟨rfl, rfl, rfl, by decide +kernel, rfl, by decide +kernel, by decide +kernel⟩
abbrev st__law_lot : Stmt := topS 29
theorem sc__law_lot : FnScope ["row", "places", "found", "place"] ["row", "places"] (defScope st__law_lot) :=
  ⟨rfl, rfl, rfl, by decide +kernel, rfl, by decide +kernel, by decide +kernel⟩
abbrev st__law_pick : Stmt := topS 30
theorem sc__law_pick : FnScope ["row", "things"] ["row", "things"] (defScope st__law_pick) :=
  ⟨rfl, rfl, rfl, by decide +kernel, rfl, by decide +kernel, by decide +kernel⟩
abbrev st__law_alike : Stmt := topS 31
theorem sc__law_alike : FnScope ["found", "due", "k"] ["found", "due"] (defScope st__law_alike) :=
  ⟨rfl, rfl, rfl, by decide +kernel, rfl, by decide +kernel, by decide +kernel⟩
abbrev st_law : Stmt := topS 32
theorem sc_law : FnScope ["script", "row", "places", "habits", "lot", "turn", "place", "read", "word", "ends", "habit", "stands", "spot", "marked", "due", "step", "at"] ["script"] (defScope st_law) :=
  ⟨rfl, rfl, rfl, by decide +kernel, rfl, by decide +kernel, by decide +kernel⟩
/-! ### what the top has written -/
/-- the def x of the text stands in the module under its name -/
structure Df (K : PySem.W.Frag) (mg : Str → Option Value) (x : Str) (st : Stmt) (ps : List Str) : Prop where
  ex : ∃ (f : Addr) (fd : FuncData), Fun K x x st f fd ∧ mg x = some (.ref f) ∧ Binds K fd ps []
/-- names of the interpreter that the module leaves alone -/
structure Bu (mg : Str → Option Value) : Prop where
  isi : mg "isinstance" = none
  int : mg "int" = none
  bool : mg "bool" = none
  str : mg "str" = none
  tuple : mg "tuple" = none
  list : mg "list" = none
  len : mg "len" = none
  all : mg "all" = none
  zip : mg "zip" = none
  range : mg "range" = none
  sorted : mg "sorted" = none
  enumerate : mg "enumerate" = none
  max : mg "max" = none
section
variable {P : Program} {w : World} {K : PySem.W.Frag} {mg : Str → Option Value} {base : Heap}
/-- a def that may be called by its name -/
structure Cal (P : Program) (w : World) (K : PySem.W.Frag) (mg : Str → Option Value) (base : Heap) (k : Nat) (x : Str) (sp : Sp) : Prop where
  ex : ∃ (f : Addr) (fd : FuncData) (ps : List Str), FnOk P w K mg base CX0 k f fd ps sp ∧ mg x = some (.ref f) ∧ PySem.W.keepIn K (.ref f) = true ∧ Binds K fd ps []
theorem mkCal {x : Str} {st : Stmt} {N ps : List Str} {k : Nat} {sp : Sp} (F : Df K mg x st ps) (S : FnScope N ps (defScope st)) (len : ∀ vs H Q E, sp vs H Q E → vs.length = ps.length)
    (hbody : ∀ (f : Addr) (cdv : Value) (A : Around) (outer : List Env) (s : Shared) (H : Hp) (vs : List V) (Q : VK) (E : XK), Room k (A.deeper (envOfC x (defScope st) s.heap.objs.size f cdv)) → sp vs H Q E →
      ∃ t, PSs (cxOf CX0 P w K mg base N x (defScope st) f cdv A outer s H E).nox (defBody st) t ∧ t { nx := fun _ H' => Q .non H', rt := Q } (start N vs) H) : Cal P w K mg base (k + 1) x sp := by
  obtain ⟨f, fd, F, g, b⟩ := F.ex
  exact ⟨f, fd, ps, F.ok S len (hbody f), g, F.kp, b⟩
theorem Cal.imp {k : Nat} {x : Str} {sp sp' : Sp} (c : Cal P w K mg base k x sp) (h : ∀ vs H Q E, sp' vs H Q E → sp vs H Q E) : Cal P w K mg base k x sp' := by
  obtain ⟨f, fd, ps, F, g, kp, b⟩ := c.ex
  exact ⟨f, fd, ps, F.imp h, g, kp, b⟩
end
theorem pc {X : Cx} {k j : Nat} {x : Str} {sp : Sp} {p pos : Pos} {e : Expr} {es : List Expr} {t : TA} (c : Cal X.prog X.w X.K X.mg X.base k x sp) (hr : Room j X.A) (ha : PA X (e :: es) t) (hk : k ≤ j := by decide) (hg : Gl X x := by rfl)
    (hdb : (x == ("__debug__" : Str)) = false := by decide) (he : starEach (e :: es) X.env = (false, eval e X.env) :: starEach es X.env := by rfl) (hpl : (backTo pos (starEach es X.env)).any (·.1) = false := by rfl) :
    PE X (.Call (.Name x p) (e :: es) [] pos) (tCall sp [] E0 t) := by
  obtain ⟨f, fd, ps, F, hm, kp, b⟩ := c.ex
  exact pe_call F (hr.mono hk) hg hm kp b .nil pass0 ha hdb he hpl
/-- a statement that is never come to -/
theorem ps_no {X : Cx} {st : Stmt} : PS X st (fun _ _ _ => False) := ⟨fun _ _ _ _ _ _ h => h.elim⟩
/-! ### heaps, tuples of ints, and of such -/
theorem same_new {H : Hp} {p : Addr} {o : HO} (h : H p = none) : Same H (upd H p o) := fun b x e => by
  rw [upd_ne (ne_of_none e h)]
  exact e
theorem seqT {K : PySem.W.Frag} {H H' : Hp} {a : Addr} {xs : List V} (e : ∀ o, H a = some o → H' a = some o) (h : SqT K H a xs) : SqT K H' a xs := by
  rcases h with (h | ⟨o, h⟩) | h
  · exact .inl (.inl (e _ h))
  · exact .inl (.inr ⟨o, e _ h⟩)
  · exact .inr h
theorem onT {K : PySem.W.Frag} {H H' : Hp} {a : Addr} {xs : List V} (e : Same H H') (h : SqT K H a xs) : SqT K H' a xs := seqT (fun o => e a o) h
theorem tupAt {K : PySem.W.Frag} {H : Hp} {a : Addr} {xs : List V} (h : H a = some (.tup xs)) : SqT K H a xs := .inl (.inl h)
theorem lstAt {K : PySem.W.Frag} {H : Hp} {a : Addr} {xs : List V} (h : H a = some (.lst xs)) : SqL K H a xs := .inl (.inl h)
/-- a tuple's type -/
theorem ty_tup {K : PySem.W.Frag} {H : Hp} {a : Addr} {xs : List V} (h : SqT K H a xs) : TyX K H (.ref a) (.type "tuple") := by
  rcases h with (h | ⟨o, h⟩) | ⟨o, its, n, h, c, _⟩
  · exact .base (.tup h)
  · exact .fTuple h
  · exact .kTuple h c
/-- each by each -/
inductive Each {α : Type} (R : V → α → Prop) : List V → List α → Prop
  | nil : Each R [] []
  | cons {v : V} {d : α} {vs : List V} {ds : List α} : R v d → Each R vs ds → Each R (v :: vs) (d :: ds)
theorem Each.len {α : Type} {R : V → α → Prop} : ∀ {vs : List V} {ds : List α}, Each R vs ds → vs.length = ds.length
  | _, _, .nil => rfl
  | _, _, .cons _ t => congrArg (· + 1) t.len
theorem Each.imp {α : Type} {R R' : V → α → Prop} (f : ∀ v d, R v d → R' v d) : ∀ {vs : List V} {ds : List α}, Each R vs ds → Each R' vs ds
  | _, _, .nil => .nil
  | _, _, .cons h t => .cons (f _ _ h) (t.imp f)
theorem Each.at {α : Type} {R : V → α → Prop} : ∀ {vs : List V} {ds : List α} {i : Nat} {v : V}, Each R vs ds → vs[i]? = some v → ∃ d, ds[i]? = some d ∧ R v d
  | _, _, _, _, .nil, e => by simp at e
  | _, _, 0, _, .cons h _, e => by
    have e' := Option.some.inj e
    subst e'
    exact ⟨_, rfl, h⟩
  | _, _, i + 1, _, .cons _ t, e => t.at (i := i) e
theorem Each.of {α : Type} {R : V → α → Prop} : ∀ {vs : List V} {ds : List α} {i : Nat} {d : α}, Each R vs ds → ds[i]? = some d → ∃ v, vs[i]? = some v ∧ R v d
  | _, _, _, _, .nil, e => by simp at e
  | _, _, 0, _, .cons h _, e => by
    have e' := Option.some.inj e
    subst e'
    exact ⟨_, rfl, h⟩
  | _, _, i + 1, _, .cons _ t, e => t.of (i := i) e
theorem Each.snoc {α : Type} {R : V → α → Prop} {v : V} {d : α} (h : R v d) : ∀ {vs : List V} {ds : List α}, Each R vs ds → Each R (vs ++ [v]) (ds ++ [d])
  | _, _, .nil => .cons h .nil
  | _, _, .cons g t => .cons g (t.snoc h)
/-- a tuple of ints -/
def TI (K : PySem.W.Frag) (H : Hp) (v : V) (ns : List Int) : Prop := ∃ a, v = .ref a ∧ SqT K H a (ns.map V.int)
/-- a tuple of such -/
def TII (K : PySem.W.Frag) (H : Hp) (v : V) (nss : List (List Int)) : Prop := ∃ a vs, v = .ref a ∧ SqT K H a vs ∧ Each (TI K H) vs nss
def THs (K : PySem.W.Frag) (H : Hp) (v : V) (hs : List (List (List Int))) : Prop := ∃ a vs, v = .ref a ∧ SqT K H a vs ∧ Each (TII K H) vs hs
/-- all tuples stand -/
def Tups (K : PySem.W.Frag) (H H' : Hp) : Prop := ∀ a xs, SqT K H a xs → SqT K H' a xs
theorem Same.tups {K : PySem.W.Frag} {H H' : Hp} (e : Same H H') : Tups K H H' := fun _ _ h => onT e h
theorem TI.on {K : PySem.W.Frag} {H H' : Hp} {v : V} {ns : List Int} (e : Tups K H H') (h : TI K H v ns) : TI K H' v ns := let ⟨a, h1, h2⟩ := h; ⟨a, h1, e _ _ h2⟩
theorem TII.on {K : PySem.W.Frag} {H H' : Hp} {v : V} {nss : List (List Int)} (e : Tups K H H') (h : TII K H v nss) : TII K H' v nss := let ⟨a, vs, h1, h2, h3⟩ := h; ⟨a, vs, h1, e _ _ h2, h3.imp fun _ _ z => z.on e⟩
theorem THs.on {K : PySem.W.Frag} {H H' : Hp} {v : V} {hs : List (List (List Int))} (e : Tups K H H') (h : THs K H v hs) : THs K H' v hs := let ⟨a, vs, h1, h2, h3⟩ := h; ⟨a, vs, h1, e _ _ h2, h3.imp fun _ _ z => z.on e⟩
theorem map_at {ns : List Int} {i : Nat} {x : V} (h : (ns.map V.int)[i]? = some x) : ∃ n, ns[i]? = some n ∧ x = .int n := by
  rw [List.getElem?_map] at h
  cases e : ns[i]? with
  | none =>
    rw [e] at h
    cases h
  | some n =>
    rw [e] at h
    exact ⟨n, rfl, (Option.some.inj h).symm⟩
theorem at_map {ns : List Int} {i : Nat} {n : Int} (h : ns[i]? = some n) : (ns.map V.int)[i]? = some (.int n) := by
  rw [List.getElem?_map, h]
  rfl
theorem all_snoc {α : Type} (f : α → Bool) {l : List α} {i : Nat} {x : α} (h : l[i]? = some x) : (l.take (i + 1)).map f = (l.take i).map f ++ [f x] := by
  rw [List.take_add_one, h, List.map_append]
  rfl
/-! ### lists of ints, compared -/
theorem dpAll_ints {K : PySem.W.Frag} {H : Hp} : ∀ ns : List Int, DpAll K H (ns.map V.int) (ns.map PyData.int)
  | [] => .nil
  | n :: ns => .cons (.int n) (dpAll_ints ns)
theorem dp_lst {K : PySem.W.Frag} {H : Hp} {a : Addr} {ns : List Int} (h : SqL K H a (ns.map V.int)) : Dp K H (.ref a) (.list (ns.map PyData.int)) := .lst h (dpAll_ints ns)
theorem dp_tup {K : PySem.W.Frag} {H : Hp} {a : Addr} {ns : List Int} (h : SqT K H a (ns.map V.int)) : Dp K H (.ref a) (.tuple (ns.map PyData.int)) := .tup h (dpAll_ints ns)
theorem eqv_lst (ns ms : List Int) : PyData.eqv (.list (ns.map PyData.int)) (.list (ms.map PyData.int)) = decide (ns = ms) := by
  rw [PyData.eqv]
  exact PySem.W.ked_eqvAll ns ms
def rg (n : Nat) : List Int := (List.range n).map fun i : Nat => (i : Int)
theorem rgV_rg (n : Nat) : rgV 0 (n : Int) = (rg n).map V.int := by
  unfold rgV rg
  rw [List.map_map, Int.sub_zero, Int.toNat_natCast]
  refine List.map_congr_left fun i _ => ?_
  show V.int (0 + (i : Int)) = V.int (i : Int)
  rw [Int.zero_add]
theorem rg_len (n : Nat) : (rg n).length = n := by
  unfold rg
  rw [List.length_map, List.length_range]
theorem rg_mem {n : Nat} {x : Int} : x ∈ rg n ↔ 0 ≤ x ∧ x < n := by
  unfold rg
  rw [List.mem_map]
  constructor
  · rintro ⟨i, h, rfl⟩
    have := List.mem_range.mp h
    omega
  · rintro ⟨h1, h2⟩
    exact ⟨x.toNat, List.mem_range.mpr (by omega), by omega⟩
/-! ### walks over enumerate and zip of tuples -/
section
variable {K : PySem.W.Frag} {a b : Addr} {xs ys : List V}
theorem lc_enumT {g : TG} {tt : TT} {te : TE} {vs : List Nat} {σ : L2.St} {H1 : Hp} {D : Addr} {Qd : Hp → Prop} (Pv : Nat → Hp → Prop) (h0 : Pv 0 (upd H1 D (.lst []))) (hl : ∀ i H, Pv i H → SqT K H a xs)
    (hs : ∀ i x T H, xs[i]? = some x → Pv i H → H T = none → g (.ref T) (wipe σ vs) (upd H T (.tup [.int (i : Nat), x])) fun σ2 H2 => wipe σ2 vs = wipe σ vs ∧ tt σ2 H2 fun k H3 =>
      if k = true then te σ2 H3 fun y H4 => ∃ acc, H4 D = some (.lst acc) ∧ acc.length < sizeLine ∧ Pv (i + 1) (upd H4 D (.lst (acc ++ [y]))) else Pv (i + 1) H3) (hd : ∀ H, Pv xs.length H → Qd H) :
    ∃ W : Nat → Nat → Hp → Prop, (∃ m, W 0 m (upd H1 D (.lst []))) ∧ ∀ i m H, W i m H →
      ((IteT K a).stop i H ∧ Qd H) ∨ ((IteT K a).go i H ∧ ∃ Nx : Hp → Prop, (∀ H', Nx H' → ∃ m', m' < m ∧ W (i + 1) m' H') ∧ ∀ x H', (IteT K a).yld i H x H' → g x (wipe σ vs) H' fun σ2 H2 => wipe σ2 vs = wipe σ vs ∧ tt σ2 H2 fun k H3 =>
        if k = true then te σ2 H3 fun y H4 => ∃ acc, H4 D = some (.lst acc) ∧ acc.length < sizeLine ∧ Nx (upd H4 D (.lst (acc ++ [y]))) else Nx H3) := by
  refine ⟨fun i m H => m = xs.length - i ∧ i ≤ xs.length ∧ Pv i H, ⟨xs.length, rfl, Nat.zero_le _, h0⟩, ?_⟩
  rintro i m H ⟨rfl, hi, p⟩
  have q := hl i H p
  by_cases hlt : i < xs.length
  · have hx : xs[i]? = some xs[i] := List.getElem?_eq_getElem hlt
    refine .inr ⟨⟨xs, _, q, hx⟩, Pv (i + 1), fun H' p' => ⟨xs.length - (i + 1), by omega, rfl, hlt, p'⟩, fun v H' y => ?_⟩
    obtain ⟨T, x', rfl, hT, rfl, f1⟩ := y
    exact hs i x' T H (f1 xs q) p hT
  · have e : i = xs.length := by omega
    subst e
    exact .inl ⟨⟨xs, q, Nat.le_refl _⟩, hd H p⟩
theorem for_enumT {g : TG} {tb : TS} {D : Ends} {σ : L2.St} {H : Hp} (Pv : Nat → L2.St → Hp → Prop) (h0 : Pv 0 σ H) (hl : ∀ i σ H, Pv i σ H → SqT K H a xs)
    (hs : ∀ i x T σ H, xs[i]? = some x → Pv i σ H → H T = none → g (.ref T) σ (upd H T (.tup [.int (i : Nat), x])) fun σ2 H2 => tb { D with nx := Pv (i + 1), ct := Pv (i + 1), bk := D.nx } σ2 H2) (hd : ∀ σ H, Pv xs.length σ H → D.nx σ H) :
    ∃ W : Nat → Nat → L2.St → Hp → Prop, (∃ m, W 0 m σ H) ∧ ∀ i m σ H, W i m σ H →
      ((IteT K a).stop i H ∧ D.nx σ H) ∨ ((IteT K a).go i H ∧ ∃ N : L2.St → Hp → Prop, (∀ σ' H', N σ' H' → ∃ m', m' < m ∧ W (i + 1) m' σ' H') ∧ ∀ x H', (IteT K a).yld i H x H' → g x σ H' fun σ2 H2 => tb { D with nx := N, ct := N, bk := D.nx } σ2 H2) := by
  refine ⟨fun i m σ H => m = xs.length - i ∧ i ≤ xs.length ∧ Pv i σ H, ⟨xs.length, rfl, Nat.zero_le _, h0⟩, ?_⟩
  rintro i m σ H ⟨rfl, hi, p⟩
  have q := hl i σ H p
  by_cases hlt : i < xs.length
  · have hx : xs[i]? = some xs[i] := List.getElem?_eq_getElem hlt
    refine .inr ⟨⟨xs, _, q, hx⟩, Pv (i + 1), fun σ' H' p' => ⟨xs.length - (i + 1), by omega, rfl, hlt, p'⟩, fun v H' y => ?_⟩
    obtain ⟨T, x', rfl, hT, rfl, f1⟩ := y
    exact hs i x' T σ H (f1 xs q) p hT
  · have e : i = xs.length := by omega
    subst e
    exact .inl ⟨⟨xs, q, Nat.le_refl _⟩, hd σ H p⟩
theorem lc_zipT {g : TG} {tt : TT} {te : TE} {vs : List Nat} {σ : L2.St} {H1 : Hp} {D : Addr} {Qd : Hp → Prop} (n : Nat) (hn : n = min xs.length ys.length) (Pv : Nat → Hp → Prop) (h0 : Pv 0 (upd H1 D (.lst []))) (hl : ∀ i H, Pv i H → SqT K H a xs ∧ SqT K H b ys)
    (hs : ∀ i x z T H, xs[i]? = some x → ys[i]? = some z → Pv i H → H T = none → g (.ref T) (wipe σ vs) (upd H T (.tup [x, z])) fun σ2 H2 => wipe σ2 vs = wipe σ vs ∧ tt σ2 H2 fun k H3 =>
      if k = true then te σ2 H3 fun y H4 => ∃ acc, H4 D = some (.lst acc) ∧ acc.length < sizeLine ∧ Pv (i + 1) (upd H4 D (.lst (acc ++ [y]))) else Pv (i + 1) H3) (hd : ∀ H, Pv n H → Qd H) :
    ∃ W : Nat → Nat → Hp → Prop, (∃ m, W 0 m (upd H1 D (.lst []))) ∧ ∀ i m H, W i m H →
      ((RZ.ItzT K a b).stop i H ∧ Qd H) ∨ ((RZ.ItzT K a b).go i H ∧ ∃ Nx : Hp → Prop, (∀ H', Nx H' → ∃ m', m' < m ∧ W (i + 1) m' H') ∧ ∀ x H', (RZ.ItzT K a b).yld i H x H' → g x (wipe σ vs) H' fun σ2 H2 => wipe σ2 vs = wipe σ vs ∧ tt σ2 H2 fun k H3 =>
        if k = true then te σ2 H3 fun y H4 => ∃ acc, H4 D = some (.lst acc) ∧ acc.length < sizeLine ∧ Nx (upd H4 D (.lst (acc ++ [y]))) else Nx H3) := by
  refine ⟨fun i m H => m = n - i ∧ i ≤ n ∧ Pv i H, ⟨n, rfl, Nat.zero_le _, h0⟩, ?_⟩
  rintro i m H ⟨rfl, hi, p⟩
  obtain ⟨q1, q2⟩ := hl i H p
  by_cases hlt : i < n
  · have hx : xs[i]? = some xs[i] := List.getElem?_eq_getElem (by omega)
    have hy : ys[i]? = some ys[i] := List.getElem?_eq_getElem (by omega)
    refine .inr ⟨⟨xs, ys, _, _, q1, q2, hx, hy⟩, Pv (i + 1), fun H' p' => ⟨n - (i + 1), by omega, rfl, hlt, p'⟩, fun v H' y => ?_⟩
    obtain ⟨T, x', z', rfl, hT, rfl, f1, f2⟩ := y
    exact hs i x' z' T H (f1 xs q1) (f2 ys q2) p hT
  · have e : i = n := by omega
    subst e
    exact .inl ⟨⟨xs, ys, q1, q2, by omega⟩, hd H p⟩
end
end RH
set_option Elab.async false
set_option linter.all false
set_option maxRecDepth 100000
set_option maxHeartbeats 2000000
namespace RH
open PySem PySem.Spec PyProof.Rows L2
/-! ### the checks -/
section
variable {P : Program} {w : World} {K : PySem.W.Frag} {mg : Str → Option Value} {base : Heap}
/-- an int alone: its kind -/
def spIsInteger : Sp := fun vs H Q _ => ∃ i : Int, vs = [.int i] ∧ Q (.bl true) H
theorem ok_is_integer (F : Df K mg "is_integer" st_is_integer ["value"]) (B : Bu mg) : Cal P w K mg base 1 "is_integer" spIsInteger := by
  refine mkCal F sc_is_integer (fun vs H Q E h => ?_) (fun f cdv A outer s H vs Q E hr h => ?_)
  · obtain ⟨i, rfl, _⟩ := h
    rfl
  · obtain ⟨i, rfl, q⟩ := h
    refine ⟨_, pss_one (ps_ret (pe_and (pe_callB call_isi (by rfl) B.isi (by decide +kernel) (pa_cons (pv 0) (pa_cons (pe_bltn (v := .ty "int") (by rfl) B.int (by decide +kernel) rfl) pa_nil)))
      (pe_one (pe_not (pe_callB call_isi (by rfl) B.isi (by decide +kernel) (pa_cons (pv 0) (pa_cons (pe_bltn (v := .ty "bool") (by rfl) B.bool (by decide +kernel) rfl) pa_nil))))))), ?_⟩
    exact ⟨_, rfl, .int i, .ty "int", _, _, true, rfl, .ty "int", .base (.int i), kit_ty (by decide +kernel), true, rfl,
      _, rfl, .int i, .ty "bool", _, _, false, rfl, .ty "bool", .base (.int i), kit_ty (by decide +kernel), false, rfl, q⟩
def spIsNumber : Sp := fun vs H Q _ => ∃ i lo hi : Int, vs = [.int i, .int lo, .int hi] ∧ Q (.bl (decide (lo ≤ i) && decide (i ≤ hi))) H
theorem ok_is_number (F : Df K mg "is_number" st_is_number ["value", "low", "high"]) (C1 : Cal P w K mg base 1 "is_integer" spIsInteger) : Cal P w K mg base 2 "is_number" spIsNumber := by
  refine mkCal F sc_is_number (fun vs H Q E h => ?_) (fun f cdv A outer s H vs Q E hr h => ?_)
  · obtain ⟨i, lo, hi, rfl, _⟩ := h
    rfl
  · obtain ⟨i, lo, hi, rfl, q⟩ := h
    refine ⟨_, pss_one (ps_ret (pe_and (pc C1 hr (pa_cons (pv 0) pa_nil)) (pe_one (pe_chain op_le op_le (pv 1) (pv 0) (pv 2))))), ?_⟩
    refine ⟨_, rfl, i, rfl, true, rfl, _, rfl, _, rfl, lo, i, rfl, rfl, _, rfl, ite2 (fun e => ?_) (fun e => ?_)⟩
    · refine ⟨_, rfl, i, hi, rfl, rfl, ?_⟩
      rw [e, Bool.true_and] at q
      exact q
    · have e' : decide (lo ≤ i) = false := by simpa using e
      rw [e', Bool.false_and] at q
      exact q
end
end RH
set_option Elab.async false
set_option linter.all false
set_option maxRecDepth 100000
set_option maxHeartbeats 2000000
namespace RH
open PySem PySem.Spec PyProof.Rows L2
section
variable {P : Program} {w : World} {K : PySem.W.Frag} {mg : Str → Option Value} {base : Heap}
def spIsRow (K : PySem.W.Frag) : Sp := fun vs H Q _ => ∃ (a : Addr) (xs : List V) (lo hi : Int), vs = [.ref a, .int lo, .int hi] ∧ SqT K H a xs ∧ Q (.bl (decide (lo ≤ (xs.length : Int)) && decide ((xs.length : Int) ≤ hi))) H
theorem ok_is_row (F : Df K mg "is_row" st_is_row ["value", "low", "high"]) (B : Bu mg) : Cal P w K mg base 1 "is_row" (spIsRow K) := by
  refine mkCal F sc_is_row (fun vs H Q E h => ?_) (fun f cdv A outer s H vs Q E hr h => ?_)
  · obtain ⟨a, xs, lo, hi, rfl, _⟩ := h
    rfl
  · obtain ⟨a, xs, lo, hi, rfl, hS, q⟩ := h
    refine ⟨_, pss_one (ps_ret (pe_and (pe_callB call_isi (by rfl) B.isi (by decide +kernel) (pa_cons (pv 0) (pa_cons (pe_bltn (v := .ty "tuple") (by rfl) B.tuple (by decide +kernel) rfl) pa_nil)))
      (pe_one (pe_chain op_le op_le (pv 1) (pe_callB call_len_seq (by rfl) B.len PySem.boot_len (pa_cons (pv 0) pa_nil)) (pv 2))))), ?_⟩
    refine ⟨_, rfl, .ref a, .ty "tuple", _, _, true, rfl, .ty "tuple", ty_tup hS, kit_ty (by decide +kernel), true, rfl, _, rfl, _, rfl, a, xs, rfl, .inr hS, lo, (xs.length : Int), rfl, rfl, _, rfl, ite2 (fun e => ?_) (fun e => ?_)⟩
    · refine ⟨_, rfl, _, hi, rfl, rfl, ?_⟩
      rw [e, Bool.true_and] at q
      exact q
    · have e' : decide (lo ≤ (xs.length : Int)) = false := by simpa using e
      rw [e', Bool.false_and] at q
      exact q
def spIsPlace : Sp := fun vs H Q _ => ∃ i p : Int, vs = [.int i, .int p] ∧ Q (.bl (decide (0 ≤ i) && decide (i ≤ p - 1))) H
theorem ok_is_place (F : Df K mg "is_place" st_is_place ["value", "places"]) (C2 : Cal P w K mg base 2 "is_number" spIsNumber) : Cal P w K mg base 3 "is_place" spIsPlace := by
  refine mkCal F sc_is_place (fun vs H Q E h => ?_) (fun f cdv A outer s H vs Q E hr h => ?_)
  · obtain ⟨i, p, rfl, _⟩ := h
    rfl
  · obtain ⟨i, p, rfl, q⟩ := h
    refine ⟨_, pss_one (ps_ret (pc C2 hr (pa_cons (pv 0) (pa_cons pe_int (pa_cons (pe_op op_sub (pv 1) pe_int) pa_nil))))), ?_⟩
    exact ⟨_, rfl, _, rfl, p, 1, rfl, rfl, i, 0, p - 1, rfl, q⟩
/-- all are places -/
def inP (p : Int) (ns : List Int) : Bool := ns.all fun i => decide (0 ≤ i) && decide (i ≤ p - 1)
def spArePlaces (K : PySem.W.Frag) : Sp := fun vs H Q _ => ∃ (v : V) (ns : List Int) (p : Int), vs = [v, .int p] ∧ TI K H v ns ∧ ns.length ≤ 1000 ∧ ∀ H', Same H H' → Q (.bl (inP p ns)) H'
theorem ok_are_places (F : Df K mg "are_places" st_are_places ["value", "places"]) (B : Bu mg) (C3 : Cal P w K mg base 3 "is_place" spIsPlace) : Cal P w K mg base 4 "are_places" (spArePlaces K) := by
  refine mkCal F sc_are_places (fun vs H Q E h => ?_) (fun f cdv A outer s H vs Q E hr h => ?_)
  · obtain ⟨v, ns, p, rfl, _⟩ := h
    rfl
  · obtain ⟨v, ns, p, rfl, ⟨a, rfl, hS⟩, hlen, q⟩ := h
    refine ⟨_, pss_one (ps_ret (pe_and (pe_callB call_isi (by rfl) B.isi (by decide +kernel) (pa_cons (pv 0) (pa_cons (pe_bltn (v := .ty "tuple") (by rfl) B.tuple (by decide +kernel) rfl) pa_nil)))
      (pe_one (pe_callB (cr_all rfl) (by rfl) B.all (by decide +kernel) (pa_cons (pe_lc (own := [("place", 2)]) (g := gName 2) (tt := tYes) rfl sc_are_places.nd (pi_tup (pv 0)) (blkOk_by (N := ["value", "places", "place"]) (sc := defScope st_are_places) (by decide +kernel))
        (fun _ _ _ _ _ => pg_name (i := 2) sc_are_places.nd rfl (Or.inl rfl)) (fun _ _ _ _ _ => pts_nil) (fun _ _ _ _ _ => pc C3 hr (pa_cons (pv 2) (pa_cons (pv 1) pa_nil)))) pa_nil))))), ?_⟩
    refine ⟨_, rfl, .ref a, .ty "tuple", _, _, true, rfl, .ty "tuple", ty_tup hS, kit_ty (by decide +kernel), true, rfl, ?_⟩
    refine ⟨_, rfl, a, rfl, ⟨_, hS⟩, fun D hD => ?_⟩
    refine lc_tup (xs := ns.map V.int) (fun i H' => Same H H' ∧ H' D = some (.lst (((ns.take i).map fun i => decide (0 ≤ i) && decide (i ≤ p - 1)).map V.bl))) ⟨same_new hD, upd_same⟩ (fun i H' _ h' => onT h'.1 hS) (fun i x H' hx h' => ?_) (fun H' h' => ?_)
    · obtain ⟨n, hn, rfl⟩ := map_at hx
      obtain ⟨sm, eD⟩ := h'
      refine ⟨rfl, _, rfl, _, rfl, n, p, rfl, _, eD, ?_, ?_, ?_⟩
      · rw [List.length_map, List.length_map, List.length_take]
        exact small1000 (by omega)
      · intro b o e
        rw [upd_ne (ne_of_none e hD)]
        exact sm b o e
      · rw [upd_same, all_snoc _ hn, List.map_append]
        rfl
    · obtain ⟨sm, eD⟩ := h'
      rw [List.length_map, List.take_length] at eD
      refine ⟨D, _, rfl, lstAt eD, ?_⟩
      have e : ((ns.map fun i => decide (0 ≤ i) && decide (i ≤ p - 1)).all id) = inP p ns := by
        unfold inP
        rw [List.all_map]
        rfl
      rw [e]
      exact q H' sm
end
end RH
set_option Elab.async false
set_option linter.all false
set_option maxRecDepth 100000
set_option maxHeartbeats 2000000
namespace RH
open PySem PySem.Spec PyProof.Rows L2
/-! ### slices and constants -/
theorem cut_from (xs : List V) (k : Nat) : cutV xs (some (k : Int)) none = xs.drop k := by
  unfold cutV
  rw [HT.sIx_nat, HT.sIx_none]
  rcases Nat.le_total k xs.length with h | h
  · rw [Nat.min_eq_left h]
    exact List.take_of_length_le (by rw [List.length_drop]; exact Nat.le_refl _)
  · rw [Nat.min_eq_right h, Nat.sub_self, List.take_zero, List.drop_eq_nil_of_le h]
theorem cut_to (xs : List V) (k : Nat) : cutV xs none (some (k : Int)) = xs.take k := by
  unfold cutV
  rw [HT.sIx_nat, HT.sIx_none, List.drop_zero, Nat.sub_zero]
  rcases Nat.le_total k xs.length with h | h
  · rw [Nat.min_eq_left h]
  · rw [Nat.min_eq_right h, List.take_length, List.take_of_length_le h]
/-- t[k:], k written -/
theorem slT_from {K : PySem.W.Frag} {H : Hp} {a : Addr} {xs : List V} {Q : VK} (z : Int) (k : Nat) (hz : z = (k : Int)) (h : SqT K H a xs) (q : ∀ b H2, Same H H2 → SqT K H2 b (xs.drop k) → Q (.ref b) H2) : rSlA K (.ref a) (some z) none H Q := by
  subst hz
  refine ⟨a, xs, rfl, h, fun hf => q a H (Same.refl H) ?_, fun _ p hp => q p _ (same_new hp) (tupAt (by rw [upd_same, cut_from]))⟩
  have e := hf.1
  rw [HT.sIx_nat] at e
  rcases Nat.le_total k xs.length with h' | h'
  · rw [Nat.min_eq_left h'] at e
    rw [e, List.drop_zero]
    exact h
  · rw [Nat.min_eq_right h'] at e
    have e2 : xs = [] := List.eq_nil_of_length_eq_zero e
    subst e2
    rw [List.drop_nil]
    exact h
/-- a number that the module keeps -/
theorem pk {X : Cx} {x : Str} {i : Int} {pos : Pos} (h : ∃ t, X.mg x = some (.int i t)) (hg : Gl X x := by rfl) (hn : x ≠ "__name__" := by decide) (hd : (x == ("__debug__" : Str)) = false := by decide) : PE X (.Name x pos) (tC (.int i)) := by
  obtain ⟨t, h⟩ := h
  exact pe_glob (v := .int i) hg h ⟨_, rfl⟩ hd
/-! ### rules within a comprehension: the written part is told -/
def rLenK (K : PySem.W.Frag) : List V → Hp → VK → Prop := fun xs H Q => ∃ p ys, xs = [.ref p] ∧ (SqL K H p ys ∨ SqT K H p ys) ∧ Q (.int ys.length) H
theorem cl_len {X : Cx} (K : PySem.W.Frag) (h : X.K = K := by rfl) : CallR X (.builtin "len") (rLenK K) := by
  subst h
  exact call_len_seq
theorem ixT {X : Cx} (K : PySem.W.Frag) (h : X.K = K := by rfl) : IxR X (rIxT K) := by
  subst h
  exact ix_tup
theorem ixL {X : Cx} (K : PySem.W.Frag) (h : X.K = K := by rfl) : IxR X (rIxL K) := by
  subst h
  exact ix_list
theorem opIn {X : Cx} (K : PySem.W.Frag) (h : X.K = K := by rfl) : OpR X (compareOp .In) (rIn K false) := by
  subst h
  exact op_in_seq
/-! ### rising, a layout, a habit -/
def risI (ns : List Int) : Bool := (ns.zip (ns.drop 1)).all fun p => decide (p.1 < p.2)
theorem risI_of : ∀ {ns : List Int}, ns.Pairwise (· < ·) → risI ns = true
  | [], _ => rfl
  | [_], _ => rfl
  | x :: y :: r, h => by
    have h1 := List.rel_of_pairwise_cons h (List.mem_cons_self ..)
    have h2 := risI_of (ns := y :: r) (List.Pairwise.of_cons h)
    show (decide (x < y) && risI (y :: r)) = true
    rw [h2, Bool.and_true]
    exact decide_eq_true h1
def isLay (p : Nat) (ns : List Int) : Bool := ns.isPerm (rg p)
def isHab (nss : List (List Int)) : Bool := decide (2 ≤ nss.length) && decide (nss.length ≤ 5) && nss.all (isLay nss.length)
theorem inP_of {p : Nat} {ns : List Int} (h : ns.Perm (rg p)) : inP p ns = true := by
  unfold inP
  rw [List.all_eq_true]
  intro i hi
  have := rg_mem.mp (h.mem_iff.mp hi)
  rw [Bool.and_eq_true]
  exact ⟨decide_eq_true (by omega), decide_eq_true (by omega)⟩
theorem rg_le (p : Nat) : (rg p).Pairwise (· ≤ ·) := by
  unfold rg
  rw [List.pairwise_map]
  exact (List.pairwise_lt_range (n := p)).imp fun h => by omega
section
variable {P : Program} {w : World} {K : PySem.W.Frag} {mg : Str → Option Value} {base : Heap}
def spIsRising (K : PySem.W.Frag) : Sp := fun vs H Q _ => ∃ (v : V) (ns : List Int), vs = [v] ∧ TI K H v ns ∧ ns.length ≤ 1000 ∧ ∀ H', Same H H' → Q (.bl (risI ns)) H'
theorem ok_is_rising (F : Df K mg "is_rising" st_is_rising ["row"]) (B : Bu mg) : Cal P w K mg base 1 "is_rising" (spIsRising K) := by
  refine mkCal F sc_is_rising (fun vs H Q E h => ?_) (fun f cdv A outer s H vs Q E hr h => ?_)
  · obtain ⟨v, ns, rfl, _⟩ := h
    rfl
  · obtain ⟨v, ns, rfl, ⟨a, rfl, hS⟩, hlen, q⟩ := h
    refine ⟨_, pss_one (ps_ret (pe_callB (cr_all rfl) (by rfl) B.all (by decide +kernel) (pa_cons (pe_lc (own := [("one", 1), ("other", 2)]) (g := gTup K 2 (gCons (gName 1) (gCons (gName 2) gNil))) (tt := tYes) rfl sc_is_rising.nd
        (RZ.pi_zipA (by rfl) B.zip (pa_cons (pv 0) (pa_cons (pe_slice sl_tupA (pv 0) (po_some pe_int) po_none) pa_nil))) (blkOk_by (N := ["row", "one", "other"]) (sc := defScope st_is_rising) (by decide +kernel))
        (fun _ _ _ _ _ => pg_tup rfl (pgs_cons (pg_name (i := 1) sc_is_rising.nd rfl (Or.inl rfl)) (pgs_cons (pg_name (i := 2) sc_is_rising.nd rfl (Or.inl rfl)) pgs_nil))) (fun _ _ _ _ _ => pts_nil)
        (fun _ _ _ _ _ => pe_cmpR op_lt (pv 1) (pv 2) (nomark _))) pa_nil))), ?_⟩
    refine ⟨_, rfl, _, rfl, 1, rfl, ?_⟩
    unfold tNoPart
    dsimp only
    refine slT_from 1 1 rfl hS fun b H2 sm2 hb => ?_
    rw [← List.map_drop] at hb
    refine ⟨a, b, _, _, rfl, .inr ⟨onT sm2 hS, hb, fun D hD => ?_⟩⟩
    refine lc_zipT (xs := ns.map V.int) (ys := (ns.drop 1).map V.int) (ns.zip (ns.drop 1)).length (by rw [List.length_zip, List.length_map, List.length_map])
      (fun i H' => Same H2 H' ∧ H' D = some (.lst ((((ns.zip (ns.drop 1)).take i).map fun p => decide (p.1 < p.2)).map V.bl))) ⟨same_new hD, upd_same⟩ (fun i H' h' => ⟨onT h'.1 (onT sm2 hS), onT h'.1 hb⟩) (fun i x z T H' hx hz h' hT => ?_) (fun H' h' => ?_)
    · obtain ⟨m, hm, rfl⟩ := map_at hx
      obtain ⟨n, hn, rfl⟩ := map_at hz
      obtain ⟨sm, eD⟩ := h'
      have eDT : (upd H' T (.tup [.int m, .int n])) D = H' D := upd_ne (ne_of_none eD hT)
      refine ⟨T, _, rfl, tupAt upd_same, rfl, _, _, rfl, _, _, rfl, rfl, rfl, _, rfl, _, rfl, m, n, rfl, rfl, _, eDT.trans eD, ?_, ?_, ?_⟩
      · rw [List.length_map, List.length_map, List.length_take, List.length_zip]
        exact small1000 (by omega)
      · intro b' o e
        rw [upd_ne (ne_of_none e hD)]
        exact same_new hT b' o (sm b' o e)
      · have hz : (ns.zip (ns.drop 1))[i]? = some (m, n) := by
          rw [List.getElem?_zip_eq_some]
          exact ⟨hm, hn⟩
        rw [upd_same, all_snoc _ hz, List.map_append]
        rfl
    · obtain ⟨sm, eD⟩ := h'
      rw [List.take_length] at eD
      refine ⟨D, _, rfl, lstAt eD, ?_⟩
      have e : (((ns.zip (ns.drop 1)).map fun p => decide (p.1 < p.2)).all id) = risI ns := by
        unfold risI
        rw [List.all_map]
        rfl
      rw [e]
      exact q H' (sm2.trans sm)
def spIsLayout (K : PySem.W.Frag) : Sp := fun vs H Q _ => ∃ (v : V) (ns : List Int) (p : Nat), vs = [v, .int p] ∧ TI K H v ns ∧ ns.length < 64 ∧ p ≤ 1000 ∧ ∀ H', Same H H' → Q (.bl (isLay p ns)) H'
theorem ok_is_layout (F : Df K mg "is_layout" st_is_layout ["value", "places"]) (B : Bu mg) (C4 : Cal P w K mg base 4 "are_places" (spArePlaces K)) : Cal P w K mg base 5 "is_layout" (spIsLayout K) := by
  refine mkCal F sc_is_layout (fun vs H Q E h => ?_) (fun f cdv A outer s H vs Q E hr h => ?_)
  · obtain ⟨v, ns, p, rfl, _⟩ := h
    rfl
  · obtain ⟨v, ns, p, rfl, ⟨a, rfl, hS⟩, hlen, hp, q⟩ := h
    refine ⟨_, pss_one (ps_ret (pe_and (pc C4 hr (pa_cons (pv 0) (pa_cons (pv 1) pa_nil)))
      (pe_one (pe_cmpR (op_eqD hr.units) (pe_callB cr_sortedTup (by rfl) B.sorted (by decide +kernel) (pa_cons (pv 0) pa_nil)) (pe_listRg rfl (by rfl) B.list (prg_1 (by rfl) B.range (pv 1))) (nomark _))))), ?_⟩
    refine ⟨_, rfl, _, rfl, .ref a, ns, p, rfl, ⟨a, rfl, hS⟩, by omega, fun H1 sm1 => ⟨_, rfl, ite2 (fun e => ?_) (fun e => ?_)⟩⟩
    · refine ⟨_, rfl, a, ns, rfl, onT sm1 hS, hlen, fun ns' pL hpm hpw nL => ⟨_, rfl, (p : Int), rfl, ⟨by omega, by omega, by omega, by omega, by omega⟩, fun q' nq => ?_⟩⟩
      have nqp : pL ≠ q' := ne_of_none upd_same nq
      refine ⟨_, _, dp_lst (ns := ns') (lstAt ?_), dp_lst (ns := rg p) (lstAt ?_), PySem.W.ke_shaped_ints _, PySem.W.ke_shaped_ints _, ?_⟩
      · rw [upd_ne nqp, upd_same]
      · rw [upd_same, rgV_rg]
      · have e2 : PyData.eqv (.list (ns'.map PyData.int)) (.list ((rg p).map PyData.int)) = isLay p ns := by
          rw [eqv_lst, Bool.eq_iff_iff, decide_eq_true_iff]
          unfold isLay
          rw [List.isPerm_iff]
          constructor
          · intro z
            rw [← z]
            exact hpm.symm
          · intro z
            exact PySem.W.ksm_same (hpm.trans z) hpw (rg_le p)
        rw [e2]
        exact q _ (sm1.trans ((same_new nL).trans (same_new nq)))
    · have e2 : isLay p ns = false := by
        cases z : isLay p ns with
        | false => rfl
        | true => exact absurd (inP_of (List.isPerm_iff.mp z)) e
      have e3 : inP (p : Int) ns = false := by simpa using e
      rw [e2] at q
      exact q _ sm1
def spIsHabit (K : PySem.W.Frag) : Sp := fun vs H Q _ => ∃ (v : V) (nss : List (List Int)), vs = [v] ∧ TII K H v nss ∧ nss.length ≤ 1000 ∧ (∀ ns ∈ nss, ns.length < 64) ∧ ∀ H', Same H H' → Q (.bl (isHab nss)) H'
theorem ok_is_habit (F : Df K mg "is_habit" st_is_habit ["value"]) (B : Bu mg) (c2 : ∃ t, mg "FEWEST_PLACES" = some (.int 2 t)) (c5 : ∃ t, mg "MOST_PLACES" = some (.int 5 t))
    (C1 : Cal P w K mg base 1 "is_row" (spIsRow K)) (C5 : Cal P w K mg base 5 "is_layout" (spIsLayout K)) : Cal P w K mg base 6 "is_habit" (spIsHabit K) := by
  refine mkCal F sc_is_habit (fun vs H Q E h => ?_) (fun f cdv A outer s H vs Q E hr h => ?_)
  · obtain ⟨v, nss, rfl, _⟩ := h
    rfl
  · obtain ⟨v, nss, rfl, ⟨a, xs, rfl, hS, hE⟩, hlen, h64, q⟩ := h
    have hxl : xs.length = nss.length := hE.len
    refine ⟨_, pss_one (ps_ret (pe_and (pc C1 hr (pa_cons (pv 0) (pa_cons (pk c2) (pa_cons (pk c5) pa_nil))))
      (pe_one (pe_callB (cr_all rfl) (by rfl) B.all (by decide +kernel) (pa_cons (pe_lc (own := [("moves", 1)]) (g := gName 1) (tt := tYes) rfl sc_is_habit.nd (pi_tup (pv 0)) (blkOk_by (N := ["value", "moves"]) (sc := defScope st_is_habit) (by decide +kernel))
        (fun _ _ _ _ _ => pg_name (i := 1) sc_is_habit.nd rfl (Or.inl rfl)) (fun _ _ _ _ _ => pts_nil) (fun _ _ _ _ _ => pc C5 hr (pa_cons (pv 1) (pa_cons (pe_callB (cl_len K) (by rfl) B.len PySem.boot_len (pa_cons (pv 0) pa_nil)) pa_nil)))) pa_nil))))), ?_⟩
    refine ⟨_, rfl, a, xs, 2, 5, rfl, hS, _, rfl, ite2 (fun e => ?_) (fun e => ?_)⟩
    · refine ⟨_, rfl, a, rfl, ⟨_, hS⟩, fun D hD => ?_⟩
      refine lc_tup (xs := xs) (fun i H' => Same H H' ∧ H' D = some (.lst (((nss.take i).map (isLay nss.length)).map V.bl))) ⟨same_new hD, upd_same⟩ (fun i H' _ h' => onT h'.1 hS) (fun i x H' hx h' => ?_) (fun H' h' => ?_)
      · obtain ⟨sm, eD⟩ := h'
        obtain ⟨ns, hn, hT⟩ := hE.at hx
        refine ⟨rfl, x, rfl, _, rfl, a, xs, rfl, .inr (onT sm hS), x, ns, nss.length, congrArg (fun m : Nat => [x, V.int m]) hxl, hT.on (fun _ _ z => onT sm z), h64 _ (List.mem_of_getElem? hn), hlen, fun H3 sm3 => ⟨_, sm3 _ _ eD, ?_, ?_, ?_⟩⟩
        · rw [List.length_map, List.length_map, List.length_take]
          exact small1000 (by omega)
        · intro b' o e'
          rw [upd_ne (ne_of_none e' hD)]
          exact sm3 b' o (sm b' o e')
        · rw [upd_same, all_snoc _ hn, List.map_append]
          rfl
      · obtain ⟨sm, eD⟩ := h'
        rw [hxl, List.take_length] at eD
        refine ⟨D, _, rfl, lstAt eD, ?_⟩
        have e2 : ((nss.map (isLay nss.length)).all id) = isHab nss := by
          unfold isHab
          rw [List.all_map, Bool.eq_iff_iff]
          rw [hxl] at e
          simp only [Bool.and_eq_true, decide_eq_true_eq] at e ⊢
          constructor
          · intro z
            exact ⟨⟨by omega, by omega⟩, z⟩
          · intro z
            exact z.2
        rw [e2]
        exact q H' sm
    · have e2 : isHab nss = false := by
        cases z : isHab nss with
        | false => rfl
        | true =>
          exfalso
          apply e
          unfold isHab at z
          rw [hxl]
          simp only [Bool.and_eq_true, decide_eq_true_eq] at z ⊢
          omega
      rw [e2] at q
      have e3 : (decide ((2 : Int) ≤ (xs.length : Int)) && decide ((xs.length : Int) ≤ 5)) = false := by simpa using e
      exact q _ (Same.refl H)
end
end RH
set_option Elab.async false
set_option linter.all false
set_option maxRecDepth 100000
set_option maxHeartbeats 2000000
namespace RH
open PySem PySem.Spec PyProof.Rows L2
/-! ### the mathematics of marks -/
theorem ifT {c : Bool} {A B : Prop} (hc : c = true) (h : A) : if c = true then A else B := by
  rw [if_pos hc]
  exact h
theorem ifF {c : Bool} {A B : Prop} (hc : c = false) (h : B) : if c = true then A else B := by
  rw [hc, if_neg Bool.false_ne_true]
  exact h
theorem inV_int (i : Int) : ∀ ns : List Int, inV (.int i) (ns.map V.int) = decide (i ∈ ns)
  | [] => rfl
  | n :: ns => by
    have ih := inV_int i ns
    unfold inV at ih ⊢
    rw [List.map_cons, List.any_cons, ih]
    show (n == i || decide (i ∈ ns)) = _
    rw [Bool.eq_iff_iff]
    simp only [Bool.or_eq_true, beq_iff_eq, decide_eq_true_eq, List.mem_cons]
    constructor
    · rintro (h | h)
      · exact .inl h.symm
      · exact .inr h
    · rintro (h | h)
      · exact .inl h.symm
      · exact .inr h
theorem flat_ints : ∀ ns : List Int, (ns.map V.int).all flatV = true
  | [] => rfl
  | n :: ns => by
    rw [List.map_cons, List.all_cons, flat_ints ns]
    rfl
/-- a habit of n places -/
structure Hb (n : Nat) (h : List (List Int)) : Prop where
  len : h.length = n
  perm : ∀ ns ∈ h, ns.Perm (rg n)
  lo : 2 ≤ n
  hi : n ≤ 5
theorem Hb.is {n : Nat} {h : List (List Int)} (q : Hb n h) : isHab h = true := by
  unfold isHab
  simp only [Bool.and_eq_true, decide_eq_true_eq, List.all_eq_true]
  refine ⟨⟨by have := q.len; have := q.lo; omega, by have := q.len; have := q.hi; omega⟩, fun ns hm => ?_⟩
  unfold isLay
  rw [q.len, List.isPerm_iff]
  exact q.perm ns hm
theorem Hb.short {n : Nat} {h : List (List Int)} (q : Hb n h) {ns : List Int} (hm : ns ∈ h) : ns.length = n := by
  rw [(q.perm ns hm).length_eq, rg_len]
def mv (h : List (List Int)) (t s : Int) : Int := (h.getD t.toNat []).getD s.toNat 0
theorem Hb.at {n : Nat} {h : List (List Int)} (q : Hb n h) {t s : Int} (t0 : 0 ≤ t) (t1 : t < n) (s0 : 0 ≤ s) (s1 : s < n) :
    ∃ ns, h[t.toNat]? = some ns ∧ ns[s.toNat]? = some (mv h t s) ∧ 0 ≤ mv h t s ∧ mv h t s < n := by
  have h1 : t.toNat < h.length := by rw [q.len]; omega
  have e1 : h[t.toNat]? = some h[t.toNat] := List.getElem?_eq_getElem h1
  have hm : h[t.toNat] ∈ h := List.getElem_mem h1
  have h2 : s.toNat < h[t.toNat].length := by rw [q.short hm]; omega
  have e2 : h[t.toNat][s.toNat]? = some h[t.toNat][s.toNat] := List.getElem?_eq_getElem h2
  have e4 : h.getD t.toNat [] = h[t.toNat] := by
    rw [List.getD_eq_getElem?_getD, e1]
    rfl
  have e3 : mv h t s = h[t.toNat][s.toNat] := by
    unfold mv
    rw [e4, List.getD_eq_getElem?_getD, e2]
    rfl
  have h4 := rg_mem.mp ((q.perm _ hm).mem_iff.mp (List.getElem_mem h2))
  rw [← e3] at h4
  exact ⟨_, e1, by rw [e3]; exact e2, h4⟩
/-- where a mark stands behind its own touch and a word -/
def mark (h : List (List Int)) (pl : Int) (ws : List Int) : Int := ws.foldl (fun s t => mv h t s) (mv h pl pl)
def InR (n : Nat) (i : Int) : Prop := 0 ≤ i ∧ i < n
theorem Hb.mark {n : Nat} {h : List (List Int)} (q : Hb n h) {pl : Int} (hp : InR n pl) : ∀ ws : List Int, (∀ t ∈ ws, InR n t) → InR n (mark h pl ws) := by
  intro ws hw
  unfold RH.mark
  have h0 : InR n (mv h pl pl) := (q.at hp.1 hp.2 hp.1 hp.2).choose_spec.2.2
  generalize mv h pl pl = s at h0
  induction ws generalizing s with
  | nil => exact h0
  | cons t ws ih =>
    have ht := hw t (List.mem_cons_self ..)
    exact ih (fun u hu => hw u (List.mem_cons_of_mem _ hu)) _ (q.at ht.1 ht.2 h0.1 h0.2).choose_spec.2.2
theorem mark_snoc (h : List (List Int)) (pl : Int) (ws : List Int) (t : Int) : mark h pl (ws ++ [t]) = mv h t (mark h pl ws) := by
  unfold mark
  rw [List.foldl_append]
  rfl
theorem take_more {α : Type} {l : List α} {i : Nat} {x : α} (h : l[i]? = some x) : l.take (i + 1) = l.take i ++ [x] := by
  rw [List.take_add_one, h]
  rfl
/-- an item of an int's place -/
theorem at_int {α : Type} {xs : List α} {z : Int} {v : α} (h0 : 0 ≤ z) (h : xs[z.toNat]? = some v) : atI xs z = some v := by
  have e : z = ((z.toNat : Nat) : Int) := by omega
  rw [e]
  exact atI_nat h
/-- a def with defaults, of which none is written where it is called -/
structure DfD (K : PySem.W.Frag) (mg : Str → Option Value) (x : Str) (st : Stmt) (ps : List Str) (dvs : List V) : Prop where
  ex : ∃ (f : Addr) (fd : FuncData), FunD K x x (defArgs st) (defBody st) (defScope st) dvs [] f fd ∧ mg x = some (.ref f) ∧ ∃ ds, Vals dvs ds ∧ Binds K fd ps ds
structure CalD (P : Program) (w : World) (K : PySem.W.Frag) (mg : Str → Option Value) (base : Heap) (k : Nat) (x : Str) (dvs : List V) (sp : Sp) : Prop where
  ex : ∃ (f : Addr) (fd : FuncData) (ps : List Str) (ds : List Value), FnOk P w K mg base CX0 k f fd ps sp ∧ mg x = some (.ref f) ∧ PySem.W.keepIn K (.ref f) = true ∧ Vals dvs ds ∧ Binds K fd ps ds
theorem mkCalD {P : Program} {w : World} {K : PySem.W.Frag} {mg : Str → Option Value} {base : Heap} {x : Str} {st : Stmt} {N ps : List Str} {dvs : List V} {k : Nat} {sp : Sp} (F : DfD K mg x st ps dvs) (S : FnScope N ps (defScope st)) (len : ∀ vs H Q E, sp vs H Q E → vs.length = ps.length)
    (hbody : ∀ (f : Addr) (cdv : Value) (A : Around) (outer : List Env) (s : Shared) (H : Hp) (vs : List V) (Q : VK) (E : XK), Room k (A.deeper (envOfC x (defScope st) s.heap.objs.size f cdv)) → sp vs H Q E →
      ∃ t, PSs (cxOf CX0 P w K mg base N x (defScope st) f cdv A outer s H E).nox (defBody st) t ∧ t { nx := fun _ H' => Q .non H', rt := Q } (start N vs) H) : CalD P w K mg base (k + 1) x dvs sp := by
  obtain ⟨f, fd, F, g, ds, hv, b⟩ := F.ex
  exact ⟨f, fd, ps, ds, F.ok S len (fun cdv A outer s H vs Q E hr hsp => by
    obtain ⟨t, h, q⟩ := hbody f cdv A outer s H vs Q E hr hsp
    exact ⟨t, h.nox, q⟩), g, F.kp, hv, b⟩
theorem pcD {X : Cx} {k j : Nat} {x : Str} {sp : Sp} {dvs : List V} {p pos : Pos} {e : Expr} {es : List Expr} {t : TA} (c : CalD X.prog X.w X.K X.mg X.base k x dvs sp) (hr : Room j X.A) (ha : PA X (e :: es) t) (hk : k ≤ j := by decide) (hg : Gl X x := by rfl)
    (hdb : (x == ("__debug__" : Str)) = false := by decide) (he : starEach (e :: es) X.env = (false, eval e X.env) :: starEach es X.env := by rfl) (hpl : (backTo pos (starEach es X.env)).any (·.1) = false := by rfl) :
    PE X (.Call (.Name x p) (e :: es) [] pos) (tCall sp dvs E0 t) := by
  obtain ⟨f, fd, ps, ds, F, hm, kp, hv, b⟩ := c.ex
  exact pe_call F (hr.mono hk) hg hm kp b hv pass0 ha hdb he hpl
section
variable {P : Program} {w : World} {K : PySem.W.Frag} {mg : Str → Option Value} {base : Heap}
def spCheckHabits (K : PySem.W.Frag) : Sp := fun vs H Q _ => ∃ (v : V) (hs : List (List (List Int))) (n : Nat) (m : Int), vs = [v, .int m] ∧ THs K H v hs ∧ 1 ≤ hs.length ∧ (hs.length : Int) ≤ m ∧ (∀ h ∈ hs, Hb n h) ∧ ∀ H', Same H H' → Q .non H'
theorem ok_check_habits (F : DfD K mg "check_habits" st_check_habits ["habits", "most"] [.int 3]) (B : Bu mg)
    (C1 : Cal P w K mg base 1 "is_row" (spIsRow K)) (C6 : Cal P w K mg base 6 "is_habit" (spIsHabit K)) : CalD P w K mg base 7 "check_habits" [.int 3] (spCheckHabits K) := by
  refine mkCalD F sc_check_habits (fun vs H Q E h => ?_) (fun f cdv A outer s H vs Q E hr h => ?_)
  · obtain ⟨v, hs, n, m, rfl, _⟩ := h
    rfl
  · obtain ⟨v, hs, n, m, rfl, ⟨a, xs, rfl, hS, hE⟩, l1, l3, hb, q⟩ := h
    have hxl : xs.length = hs.length := hE.len
    refine ⟨_, pss_cons (ps_if (pt_not (pt_val (pc C1 hr (pa_cons (pv 0) (pa_cons pe_int (pa_cons (pv 1) pa_nil)))))) (pss_one ps_no) pss_nil)
      (pss_one (ps_for PassesOwn.never rfl (pi_enumT (by rfl) B.enumerate (pa_cons (pv 0) pa_nil)) (pg_tup rfl (pgs_cons (pg_name (i := 2) sc_check_habits.nd rfl (.inl rfl)) (pgs_cons (pg_name (i := 3) sc_check_habits.nd rfl (.inl rfl)) pgs_nil)))
        (pss_one (ps_if (PW.pt (pw_or (pt_not (pt_val (pc C6 hr (pa_cons (pv 3) pa_nil)))) (pw_or1 (pt_cmpR op_ne (pe_callB (cl_len K) (by rfl) B.len PySem.boot_len (pa_cons (pv 3) pa_nil))
          (pe_callB (cl_len K) (by rfl) B.len PySem.boot_len (pa_cons (pe_ix (ixT K) (pv 0) pe_int (fun _ _ => rfl)) pa_nil)) (nomark _))))) (pss_one ps_no) pss_nil)))), ?_⟩
    refine ⟨_, rfl, _, rfl, a, xs, 1, m, rfl, hS, _, rfl, ifF ?_ ?_⟩
    · rw [hxl, decide_eq_true (by omega), decide_eq_true (by omega)]
      rfl
    refine ⟨_, rfl, a, xs, rfl, hS, ?_⟩
    refine for_enumT (xs := xs) (fun i σ H' => Same H H' ∧ ∃ y1 y2, σ = [some (.ref a), some (.int m), y1, y2]) ⟨Same.refl H, none, none, rfl⟩ (fun i σ H' h' => onT h'.1 hS) (fun i x T σ H' hx h' hT => ?_) (fun σ H' h' => q H' h'.1)
    obtain ⟨sm, y1, y2, rfl⟩ := h'
    obtain ⟨h, hh, hTx⟩ := hE.at hx
    have hbx := hb h (List.mem_of_getElem? hh)
    have sT : Same H (upd H' T (.tup [.int (i : Nat), x])) := sm.trans (same_new hT)
    have hT2 : TII K (upd H' T (.tup [.int (i : Nat), x])) x h := hTx.on (fun _ _ z => onT sT z)
    obtain ⟨x0, hx0⟩ : ∃ x0, xs[0]? = some x0 := ⟨xs[0], List.getElem?_eq_getElem (by omega)⟩
    obtain ⟨h0, hh0, hT0⟩ := hE.at hx0
    have hb0 := hb h0 (List.mem_of_getElem? hh0)
    refine ⟨T, _, rfl, tupAt upd_same, rfl, _, _, rfl, _, _, rfl, rfl, _, rfl, x, h, rfl, hT2, by rw [hbx.len]; have := hbx.hi; omega, fun ns hm => by rw [hbx.short hm]; have := hbx.hi; omega, fun H3 sm3 => ⟨_, rfl, ifF (by rw [hbx.is]; rfl) ?_⟩⟩
    have hT3 := hT2.on (fun _ _ z => onT sm3 z)
    have hT03 := hT0.on (H' := H3) (fun _ _ z => onT sm3 (onT sT z))
    obtain ⟨ax, xx, rfl, hSx, hEx⟩ := hT3
    obtain ⟨a0, xx0, rfl, hS0, hE0⟩ := hT03
    refine ⟨_, rfl, ax, xx, rfl, .inr hSx, _, rfl, a, xs, 0, .ref a0, rfl, rfl, onT sm3 (onT sT hS), atI_nat (j := 0) hx0, a0, xx0, rfl, .inr hS0, rfl, _, rfl, ifF ?_ ?_⟩
    · rw [hEx.len, hE0.len, hbx.len, hb0.len]
      simp
    · exact ⟨sT.trans sm3, _, _, rfl⟩
def spCheckLot (K : PySem.W.Frag) : Sp := fun vs H Q _ => ∃ (v : V) (ns : List Int) (p : Nat), vs = [v, .int p] ∧ TI K H v ns ∧ 1 ≤ ns.length ∧ ns.length ≤ p ∧ p ≤ 5 ∧ (∀ i ∈ ns, InR p i) ∧ ns.Pairwise (· < ·) ∧ ∀ H', Same H H' → Q .non H'
theorem inP_in {p : Nat} {ns : List Int} (h : ∀ i ∈ ns, InR p i) : inP p ns = true := by
  unfold inP
  rw [List.all_eq_true]
  intro i hi
  obtain ⟨h1, h2⟩ := h i hi
  rw [Bool.and_eq_true]
  exact ⟨decide_eq_true h1, decide_eq_true (by omega)⟩
def spIsLot (K : PySem.W.Frag) : Sp := fun vs H Q _ => ∃ (v : V) (ns : List Int) (p : Nat), vs = [v, .int p] ∧ TI K H v ns ∧ 1 ≤ ns.length ∧ ns.length ≤ p ∧ p ≤ 5 ∧ (∀ i ∈ ns, InR p i) ∧ ns.Pairwise (· < ·) ∧ ∀ H', Same H H' → Q (.bl true) H'
theorem ok_is_lot (F : Df K mg "is_lot" st_is_lot ["value", "places"]) (C1 : Cal P w K mg base 1 "is_row" (spIsRow K)) (C4 : Cal P w K mg base 4 "are_places" (spArePlaces K)) (CR : Cal P w K mg base 1 "is_rising" (spIsRising K)) :
    Cal P w K mg base 5 "is_lot" (spIsLot K) := by
  refine mkCal F sc_is_lot (fun vs H Q E h => ?_) (fun f cdv A outer s H vs Q E hr h => ?_)
  · obtain ⟨v, ns, p, rfl, _⟩ := h
    rfl
  · obtain ⟨v, ns, p, rfl, ⟨a, rfl, hS⟩, l1, l2, l5, hin, hri, q⟩ := h
    refine ⟨_, pss_one (ps_ret (pe_and (pc C1 hr (pa_cons (pv 0) (pa_cons pe_int (pa_cons (pv 1) pa_nil)))) (pe_and (pc C4 hr (pa_cons (pv 0) (pa_cons (pv 1) pa_nil))) (pe_one (pc CR hr (pa_cons (pv 0) pa_nil)))))), ?_⟩
    have e1 : (decide ((1 : Int) ≤ ((ns.map V.int).length : Int)) && decide (((ns.map V.int).length : Int) ≤ (p : Int))) = true := by
      rw [List.length_map, decide_eq_true (by omega), decide_eq_true (by omega)]
      rfl
    refine ⟨_, rfl, _, rfl, a, ns.map V.int, 1, p, rfl, hS, true, by rw [e1], ?_⟩
    refine ⟨_, rfl, _, rfl, .ref a, ns, p, rfl, ⟨a, rfl, hS⟩, by omega, fun H1 sm1 => ⟨true, by rw [inP_in hin], ?_⟩⟩
    refine ⟨_, rfl, .ref a, ns, rfl, ⟨a, rfl, onT sm1 hS⟩, by omega, fun H2 sm2 => ?_⟩
    rw [risI_of hri]
    exact q H2 (sm1.trans sm2)
theorem ok_check_lot (F : Df K mg "check_lot" st_check_lot ["lot", "places"]) (C5 : Cal P w K mg base 5 "is_lot" (spIsLot K)) : Cal P w K mg base 6 "check_lot" (spCheckLot K) := by
  refine mkCal F sc_check_lot (fun vs H Q E h => ?_) (fun f cdv A outer s H vs Q E hr h => ?_)
  · obtain ⟨v, ns, p, rfl, _⟩ := h
    rfl
  · obtain ⟨v, ns, p, rfl, hT, l1, l2, l5, hin, hri, q⟩ := h
    refine ⟨_, pss_one (ps_if (pt_not (pt_val (pc C5 hr (pa_cons (pv 0) (pa_cons (pv 1) pa_nil))))) (pss_one ps_no) pss_nil), ?_⟩
    exact ⟨_, rfl, _, rfl, v, ns, p, rfl, hT, l1, l2, l5, hin, hri, fun H1 s1 => ⟨_, rfl, ifF rfl (q H1 s1)⟩⟩
def spIsOfLot (K : PySem.W.Frag) : Sp := fun vs H Q _ => ∃ (i : Int) (v : V) (ns : List Int) (p : Int), vs = [.int i, v, .int p] ∧ TI K H v ns ∧ Q (.bl (decide (0 ≤ i) && decide (i ≤ p - 1) && decide (i ∈ ns))) H
theorem ok_is_of_lot (F : Df K mg "is_of_lot" st_is_of_lot ["value", "lot", "places"]) (C3 : Cal P w K mg base 3 "is_place" spIsPlace) : Cal P w K mg base 4 "is_of_lot" (spIsOfLot K) := by
  refine mkCal F sc_is_of_lot (fun vs H Q E h => ?_) (fun f cdv A outer s H vs Q E hr h => ?_)
  · obtain ⟨i, v, ns, p, rfl, _⟩ := h
    rfl
  · obtain ⟨i, v, ns, p, rfl, ⟨a, rfl, hS⟩, q⟩ := h
    refine ⟨_, pss_one (ps_ret (pe_and (pc C3 hr (pa_cons (pv 0) (pa_cons (pv 2) pa_nil))) (pe_one (pe_cmpR (opIn K) (pv 0) (pv 1) rfl)))), ?_⟩
    refine ⟨_, rfl, _, rfl, i, p, rfl, _, rfl, ite2 (fun e => ?_) (fun e => ?_)⟩
    · refine ⟨_, rfl, _, rfl, a, _, rfl, .inr hS, rfl, flat_ints ns, ?_⟩
      rw [e, Bool.true_and] at q
      show Q (.bl (inV (.int i) (ns.map V.int))) H
      rw [inV_int]
      exact q
    · have e' : (decide (0 ≤ i) && decide (i ≤ p - 1)) = false := by simpa using e
      rw [e', Bool.false_and] at q
      exact q
end
end RH
set_option Elab.async false
set_option linter.all false
set_option maxRecDepth 100000
set_option maxHeartbeats 2000000
namespace RH
open PySem PySem.Spec PyProof.Rows L2
theorem ix2 {K : PySem.W.Frag} {H : Hp} {xs : List V} {h : List (List Int)} {n : Nat} (hE : Each (TI K H) xs h) (q : Hb n h) {t s : Int} (ht : InR n t) (hs : InR n s) :
    ∃ (a' : Addr) (ns : List Int), atI xs t = some (.ref a') ∧ SqT K H a' (ns.map V.int) ∧ atI (ns.map V.int) s = some (.int (mv h t s)) := by
  obtain ⟨ns, e1, e2, _⟩ := q.at ht.1 ht.2 hs.1 hs.2
  obtain ⟨v, e3, a', rfl, hS⟩ := hE.of e1
  exact ⟨a', ns, at_int ht.1 e3, hS, at_int hs.1 (at_map e2)⟩
theorem V_int (a b : Int) : decide (V.int a = V.int b) = decide (a = b) := by
  rw [Bool.eq_iff_iff, decide_eq_true_iff, decide_eq_true_iff]
  exact ⟨fun h => V.int.inj h, fun h => by rw [h]⟩
theorem V_bl (a b : Bool) : decide (V.bl a = V.bl b) = decide (a = b) := by
  rw [Bool.eq_iff_iff, decide_eq_true_iff, decide_eq_true_iff]
  exact ⟨fun h => V.bl.inj h, fun h => by rw [h]⟩
/-- whether the i-th habit is left -/
def isLeft (hs : List (List (List Int))) (pl : Int) (ws : List Int) (rd : Int) (mk : Bool) (i : Nat) : Bool := decide (decide (mark (hs.getD i []) pl ws = rd) = mk)
def lft (hs : List (List (List Int))) (pl : Int) (ws : List Int) (rd : Int) (mk : Bool) (n : Nat) : List Int := ((List.range n).filter (isLeft hs pl ws rd mk)).map fun i : Nat => (i : Int)
theorem lft_more (hs : List (List (List Int))) (pl : Int) (ws : List Int) (rd : Int) (mk : Bool) (n : Nat) : lft hs pl ws rd mk (n + 1) = lft hs pl ws rd mk n ++ (if isLeft hs pl ws rd mk n = true then [(n : Int)] else []) := by
  unfold lft
  rw [List.range_succ, List.filter_append, List.map_append]
  congr 1
  by_cases h : isLeft hs pl ws rd mk n = true
  · rw [if_pos h, List.filter_cons_of_pos h]
    rfl
  · rw [if_neg h, List.filter_cons_of_neg h]
    rfl
theorem lft_len (hs : List (List (List Int))) (pl : Int) (ws : List Int) (rd : Int) (mk : Bool) (n : Nat) : (lft hs pl ws rd mk n).length ≤ n := by
  unfold lft
  rw [List.length_map]
  exact Nat.le_trans (List.length_filter_le ..) (Nat.le_of_eq List.length_range)
section
variable {P : Program} {w : World} {K : PySem.W.Frag} {mg : Str → Option Value} {base : Heap}
def spIsTest (K : PySem.W.Frag) : Sp := fun vs H Q _ => ∃ (pl : Int) (wv : V) (ws : List Int) (rd : Int) (lv : V) (ns : List Int) (p : Nat), vs = [.int pl, wv, .int rd, lv, .int p] ∧ TI K H wv ws ∧ TI K H lv ns ∧ pl ∈ ns ∧ rd ∈ ns ∧
  (∀ t ∈ ws, t ∈ ns) ∧ (∀ n ∈ ns, InR p n) ∧ ws.length ≤ 1000 ∧ ∀ H', Same H H' → Q (.bl true) H'
theorem ok_is_test (F : Df K mg "is_test" st_is_test ["place", "word", "read", "lot", "places"]) (B : Bu mg) (CO : Cal P w K mg base 4 "is_of_lot" (spIsOfLot K)) (C4 : Cal P w K mg base 4 "are_places" (spArePlaces K)) : Cal P w K mg base 5 "is_test" (spIsTest K) := by
  refine mkCal F sc_is_test (fun vs H Q E h => ?_) (fun f cdv A outer s H vs Q E hr h => ?_)
  · obtain ⟨pl, wv, ws, rd, lv, ns, p, rfl, _⟩ := h
    rfl
  · obtain ⟨pl, wv, ws, rd, lv, ns, p, rfl, ⟨aw, rfl, hW⟩, ⟨al, rfl, hL⟩, hpl, hrd, hws, hin, hlen, q⟩ := h
    refine ⟨_, pss_cons (ps_if (PW.pt (pw_or (pt_not (pt_val (pc CO hr (pa_cons (pv 0) (pa_cons (pv 3) (pa_cons (pv 4) pa_nil)))))) (pw_or1 (pt_not (pt_val (pc CO hr (pa_cons (pv 2) (pa_cons (pv 3) (pa_cons (pv 4) pa_nil))))))))) (pss_one (ps_ret pe_bl)) pss_nil)
      (pss_one (ps_ret (pe_and (pc C4 hr (pa_cons (pv 1) (pa_cons (pv 4) pa_nil))) (pe_one (pe_callB (cr_all rfl) (by rfl) B.all (by decide +kernel) (pa_cons (pe_lc (own := [("touch", 5)]) (g := gName 5) (tt := tYes) rfl sc_is_test.nd (pi_tup (pv 1))
        (blkOk_by (N := ["place", "word", "read", "lot", "places", "touch"]) (sc := defScope st_is_test) (by decide +kernel)) (fun _ _ _ _ _ => pg_name (i := 5) sc_is_test.nd rfl (Or.inl rfl)) (fun _ _ _ _ _ => pts_nil) (fun _ _ _ _ _ => pe_cmpR (opIn K) (pv 5) (pv 3) rfl)) pa_nil)))))), ?_⟩
    have yes : ∀ i, i ∈ ns → (!(decide (0 ≤ i) && decide (i ≤ (p : Int) - 1) && decide (i ∈ ns))) = false := fun i hi => by
      have := hin i hi
      rw [decide_eq_true this.1, decide_eq_true (show i ≤ (p : Int) - 1 by have := this.2; omega), decide_eq_true hi]
      rfl
    refine ⟨_, rfl, _, rfl, _, rfl, pl, .ref al, ns, p, rfl, ⟨al, rfl, hL⟩, _, rfl, ifF (yes pl hpl) ⟨_, rfl, _, rfl, _, rfl, rd, .ref al, ns, p, rfl, ⟨al, rfl, hL⟩, _, rfl, ifF (yes rd hrd) ?_⟩⟩
    refine ⟨_, rfl, _, rfl, .ref aw, ws, p, rfl, ⟨aw, rfl, hW⟩, hlen, fun H1 sm1 => ⟨_, rfl, ifT (inP_in fun i hi => hin i (hws i hi)) ?_⟩⟩
    refine ⟨_, rfl, aw, rfl, ⟨_, onT sm1 hW⟩, fun D hD => ?_⟩
    refine lc_tup (xs := ws.map V.int) (fun i H' => Same H1 H' ∧ H' D = some (.lst (((ws.take i).map fun t => decide (t ∈ ns)).map V.bl))) ⟨same_new hD, upd_same⟩ (fun i H' _ h' => onT h'.1 (onT sm1 hW)) (fun i x H' hx h' => ?_) (fun H' h' => ?_)
    · obtain ⟨t, ht, rfl⟩ := map_at hx
      obtain ⟨sm, eD⟩ := h'
      refine ⟨rfl, _, rfl, _, rfl, al, _, rfl, .inr (onT sm (onT sm1 hL)), rfl, flat_ints ns, _, eD, ?_, ?_, ?_⟩
      · rw [List.length_map, List.length_map, List.length_take]
        exact small1000 (by omega)
      · intro b o e
        rw [upd_ne (ne_of_none e hD)]
        exact sm b o e
      · rw [upd_same, all_snoc _ ht, List.map_append]
        show some (HO.lst (_ ++ [V.bl (inV (.int t) (ns.map V.int))])) = _
        rw [inV_int]
        rfl
    · obtain ⟨sm, eD⟩ := h'
      rw [List.length_map, List.take_length] at eD
      refine ⟨D, _, rfl, lstAt eD, ?_⟩
      have e : ((ws.map fun t => decide (t ∈ ns)).all id) = true := by
        rw [List.all_map, List.all_eq_true]
        exact fun t ht => decide_eq_true (hws t ht)
      rw [e]
      exact q H' (sm1.trans sm)
def spReadsMark (K : PySem.W.Frag) : Sp := fun vs H Q _ => ∃ (hv : V) (h : List (List Int)) (n : Nat) (pl : Int) (wv : V) (ws : List Int) (rd : Int), vs = [hv, .int pl, wv, .int rd] ∧ TII K H hv h ∧ Hb n h ∧ InR n pl ∧ TI K H wv ws ∧
  (∀ t ∈ ws, InR n t) ∧ Q (.bl (decide (mark h pl ws = rd))) H
theorem ok_reads_mark (F : Df K mg "reads_mark" st_reads_mark ["habit", "place", "word", "read"]) : Cal P w K mg base 1 "reads_mark" (spReadsMark K) := by
  refine mkCal F sc_reads_mark (fun vs H Q E h => ?_) (fun f cdv A outer s H vs Q E hr h => ?_)
  · obtain ⟨hv, h, n, pl, wv, ws, rd, rfl, _⟩ := h
    rfl
  · obtain ⟨hv, h, n, pl, wv, ws, rd, rfl, ⟨a, xs, rfl, hS, hE⟩, hb, hpl, ⟨aw, rfl, hW⟩, hws, q⟩ := h
    refine ⟨_, pss_cons (ps_set (i := 4) sc_reads_mark.nd rfl (.inl rfl) (pe_ix ix_tup (pe_ix ix_tup (pv 0) (pv 1) (fun _ _ => rfl)) (pv 1) (fun _ _ => rfl)))
      (pss_cons (ps_for PassesOwn.never rfl (pi_tup (pv 2)) (pg_name (i := 5) sc_reads_mark.nd rfl (.inl rfl)) (pss_one (ps_set (i := 4) sc_reads_mark.nd rfl (.inl rfl) (pe_ix ix_tup (pe_ix ix_tup (pv 0) (pv 5) (fun _ _ => rfl)) (pv 4) (fun _ _ => rfl)))))
      (pss_one (ps_ret (pe_cmpR op_eq (pv 4) (pv 3) (nomark _))))), ?_⟩
    obtain ⟨a1, ns1, e1, s1, e2⟩ := ix2 hE hb hpl hpl
    refine ⟨_, rfl, _, rfl, a, xs, pl, _, rfl, rfl, hS, e1, _, rfl, a1, _, pl, _, rfl, rfl, s1, e2, ?_⟩
    refine ⟨_, rfl, aw, rfl, ⟨_, hW⟩, ?_⟩
    refine for_tup (xs := ws.map V.int) (fun i σ H' => H' = H ∧ ∃ y, σ = [some (.ref a), some (.int pl), some (.ref aw), some (.int rd), some (.int (mark h pl (ws.take i))), y]) ⟨rfl, none, rfl⟩ (fun i σ H' _ h' => by rw [h'.1]; exact hW) (fun i x σ H' hx h' => ?_) (fun σ H' h' => ?_)
    · obtain ⟨t, ht, rfl⟩ := map_at hx
      obtain ⟨rfl, y, rfl⟩ := h'
      have hm : InR n (mark h pl (ws.take i)) := hb.mark hpl _ fun u hu => hws u (List.mem_of_mem_take hu)
      obtain ⟨a2, ns2, e3, s2, e4⟩ := ix2 hE hb (hws t (List.mem_of_getElem? ht)) hm
      refine ⟨_, rfl, _, rfl, a, xs, t, _, rfl, rfl, hS, e3, _, rfl, a2, _, _, _, rfl, rfl, s2, e4, rfl, some (.int t), ?_⟩
      rw [take_more ht, mark_snoc]
      rfl
    · obtain ⟨rfl, y, rfl⟩ := h'
      rw [List.length_map, List.take_length]
      refine ⟨_, rfl, _, rfl, rfl, ?_⟩
      rw [V_int]
      exact q
def spLeft (K : PySem.W.Frag) : Sp := fun vs H Q _ => ∃ (hv : V) (hs : List (List (List Int))) (n : Nat) (lv : V) (ns : List Int) (pl : Int) (wv : V) (ws : List Int) (rd : Int) (mk : Bool), vs = [hv, lv, .int pl, wv, .int rd, .bl mk] ∧
  THs K H hv hs ∧ 1 ≤ hs.length ∧ hs.length ≤ 3 ∧ (∀ h ∈ hs, Hb n h) ∧ TI K H lv ns ∧ 1 ≤ ns.length ∧ ns.length ≤ n ∧ (∀ i ∈ ns, InR n i) ∧ ns.Pairwise (· < ·) ∧ pl ∈ ns ∧ rd ∈ ns ∧ TI K H wv ws ∧ (∀ t ∈ ws, t ∈ ns) ∧ ws.length ≤ 1000 ∧
  ∀ H' p, Same H H' → H' p = some (.tup ((lft hs pl ws rd mk hs.length).map V.int)) → Q (.ref p) H'
theorem ok_habits_left (F : Df K mg "habits_left" st_habits_left ["habits", "lot", "place", "word", "read", "is_marked"]) (B : Bu mg) (C7 : CalD P w K mg base 7 "check_habits" [.int 3] (spCheckHabits K)) (CL : Cal P w K mg base 6 "check_lot" (spCheckLot K))
    (CT : Cal P w K mg base 5 "is_test" (spIsTest K)) (CM : Cal P w K mg base 1 "reads_mark" (spReadsMark K)) : Cal P w K mg base 8 "habits_left" (spLeft K) := by
  refine mkCal F sc_habits_left (fun vs H Q E h => ?_) (fun f cdv A outer s H vs Q E hr h => ?_)
  · obtain ⟨hv, hs, n, lv, ns, pl, wv, ws, rd, mk, rfl, _⟩ := h
    rfl
  · obtain ⟨hv, hs, n, lv, ns, pl, wv, ws, rd, mk, rfl, hTH, l1, l3, hb, hTL, n1, n2, hin, hri, hpl, hrd, hTW, hws, hwl, q⟩ := h
    obtain ⟨a, xs, rfl, hS, hE⟩ := id hTH
    have hxl : xs.length = hs.length := hE.len
    refine ⟨_, pss_cons (ps_expr (pcD C7 hr (pa_cons (pv 0) pa_nil)))
      (pss_cons (ps_expr (pc CL hr (pa_cons (pv 1) (pa_cons (pe_callB (cl_len K) (by rfl) B.len PySem.boot_len (pa_cons (pe_ix (ixT K) (pv 0) pe_int (fun _ _ => rfl)) pa_nil)) pa_nil))))
      (pss_cons (ps_if (pt_not (pt_val (pc CT hr (pa_cons (pv 2) (pa_cons (pv 3) (pa_cons (pv 4) (pa_cons (pv 1) (pa_cons (pe_callB (cl_len K) (by rfl) B.len PySem.boot_len (pa_cons (pe_ix (ixT K) (pv 0) pe_int (fun _ _ => rfl)) pa_nil)) pa_nil)))))))) (pss_one ps_no) pss_nil)
      (pss_cons (ps_if (pt_not (pt_val (pe_callB call_isi (by rfl) B.isi (by decide +kernel) (pa_cons (pv 5) (pa_cons (pe_bltn (v := .ty "bool") (by rfl) B.bool (by decide +kernel) rfl) pa_nil))))) (pss_one ps_no) pss_nil)
      (pss_one (ps_ret (pe_tupleOf (by rfl) B.tuple (pe_lc (own := [("index", 6), ("habit", 7)]) (g := gTup K 2 (gCons (gName 6) (gCons (gName 7) gNil))) rfl sc_habits_left.nd (pi_enumT (by rfl) B.enumerate (pa_cons (pv 0) pa_nil))
        (blkOk_by (N := ["habits", "lot", "place", "word", "read", "is_marked", "index", "habit"]) (sc := defScope st_habits_left) (by decide +kernel))
        (fun _ _ _ _ _ => pg_tup rfl (pgs_cons (pg_name (i := 6) sc_habits_left.nd rfl (Or.inl rfl)) (pgs_cons (pg_name (i := 7) sc_habits_left.nd rfl (Or.inl rfl)) pgs_nil)))
        (fun _ _ _ _ _ => pts_one (pt_cmpR op_eq (pc CM hr (pa_cons (pv 7) (pa_cons (pv 2) (pa_cons (pv 3) (pa_cons (pv 4) pa_nil))))) (pv 5) (nomark _))) (fun _ _ _ _ _ => pv 6)))))))), ?_⟩
    obtain ⟨x0, hx0⟩ : ∃ x0, xs[0]? = some x0 := ⟨xs[0], List.getElem?_eq_getElem (by omega)⟩
    obtain ⟨h0, hh0, hT0⟩ := hE.at hx0
    have hb0 := hb h0 (List.mem_of_getElem? hh0)
    refine ⟨_, rfl, .ref a, hs, n, 3, rfl, hTH, l1, by omega, hb, fun H1 sm1 => ?_⟩
    have hT01 := hT0.on (H' := H1) (fun _ _ z => onT sm1 z)
    obtain ⟨a0, xx0, rfl, hS0, hE0⟩ := hT01
    have e0 : xx0.length = n := by rw [hE0.len, hb0.len]
    refine ⟨_, rfl, _, rfl, a, xs, 0, .ref a0, rfl, rfl, onT sm1 hS, atI_nat (j := 0) hx0, a0, xx0, rfl, .inr hS0, lv, ns, n, by rw [e0]; rfl, hTL.on (fun _ _ z => onT sm1 z), n1, n2, by have := hb0.hi; omega, hin, hri, fun H2 sm2 => ?_⟩
    have sm02 := sm1.trans sm2
    refine ⟨_, rfl, _, rfl, _, rfl, _, rfl, _, rfl, a, xs, 0, .ref a0, rfl, rfl, onT sm02 hS, atI_nat (j := 0) hx0, a0, xx0, rfl, .inr (onT sm2 hS0), pl, wv, ws, rd, lv, ns, n, by rw [e0]; rfl, hTW.on (fun _ _ z => onT sm02 z), hTL.on (fun _ _ z => onT sm02 z), hpl, hrd, hws, hin, hwl, fun H3 sm3 => ⟨_, rfl, ifF rfl ?_⟩⟩
    have sm03 := sm02.trans sm3
    refine ⟨_, rfl, .bl mk, .ty "bool", _, _, true, rfl, .ty "bool", .base (.bl mk), kit_ty (by decide +kernel), _, rfl, ifF rfl ?_⟩
    refine ⟨_, rfl, a, xs, rfl, onT sm03 hS, fun D hD => ?_⟩
    refine lc_enumT (xs := xs) (fun i H' => Same H3 H' ∧ H' D = some (.lst ((lft hs pl ws rd mk i).map V.int)) ∧ i ≤ xs.length) ⟨same_new hD, upd_same, Nat.zero_le _⟩ (fun i H' h' => onT h'.1 (onT sm03 hS)) (fun i x T H' hx h' hT => ?_) (fun H' h' => ?_)
    · obtain ⟨sm, eD, hi⟩ := h'
      obtain ⟨h, hh, hTx⟩ := hE.at hx
      have hil : i < xs.length := (List.getElem?_eq_some_iff.mp hx).1
      have sT : Same H (upd H' T (.tup [.int (i : Nat), x])) := sm03.trans (sm.trans (same_new hT))
      have eDT : (upd H' T (.tup [.int (i : Nat), x])) D = some (.lst ((lft hs pl ws rd mk i).map V.int)) := by
        rw [upd_ne (ne_of_none eD hT)]
        exact eD
      have sDT : ∀ o, Same H3 (upd (upd H' T (.tup [.int (i : Nat), x])) D o) := fun o b u e => by
        rw [upd_ne (ne_of_none e hD)]
        exact same_new hT b u (sm b u e)
      have eg : hs.getD i [] = h := by
        rw [List.getD_eq_getElem?_getD, hh]
        rfl
      have ev : isLeft hs pl ws rd mk i = decide (decide (mark h pl ws = rd) = mk) := by
        unfold isLeft
        rw [eg]
      refine ⟨T, _, rfl, tupAt upd_same, rfl, _, _, rfl, _, _, rfl, rfl, rfl, _, rfl, _, rfl, _, rfl, _, rfl, x, h, n, pl, wv, ws, rd, rfl, hTx.on (fun _ _ z => onT sT z), hb h (List.mem_of_getElem? hh), hin pl hpl, hTW.on (fun _ _ z => onT sT z), fun t ht => hin t (hws t ht), _, rfl, rfl, _, rfl, ?_⟩
      rw [V_bl, ← ev]
      refine ite2 (fun e => ⟨_, rfl, _, eDT, ?_, sDT _, ?_, hil⟩) (fun e => ⟨fun b u z => same_new hT b u (sm b u z), ?_, hil⟩)
      · rw [List.length_map]
        exact small1000 (by have := lft_len hs pl ws rd mk i; omega)
      · rw [upd_same, lft_more, if_pos e, List.map_append]
        rfl
      · rw [eDT, lft_more, if_neg e, List.append_nil]
    · obtain ⟨sm, eD, _⟩ := h'
      rw [hxl] at eD
      refine .inl ⟨D, _, rfl, lstAt eD, fun p hp => q _ p (sm03.trans (sm.trans (same_new hp))) upd_same⟩
end
end RH
set_option Elab.async false
set_option linter.all false
set_option maxRecDepth 100000
set_option maxHeartbeats 2000000
namespace RH
open PySem PySem.Spec PyProof.Rows L2
/-! ### the law's own row of draws -/
/-- all but what stands at p is as it was -/
def But (p : Addr) (H H' : Hp) : Prop := ∀ b o, H b = some o → b ≠ p → H' b = some o
theorem But.refl (p : Addr) (H : Hp) : But p H H := fun _ _ e _ => e
theorem But.trans {p : Addr} {H H1 H2 : Hp} (a : But p H H1) (b : But p H1 H2) : But p H H2 := fun c o e n => b c o (a c o e n) n
theorem But.same {p : Addr} {H H1 : Hp} (a : Same H H1) : But p H H1 := fun c o e _ => a c o e
theorem But.upd {p : Addr} {H H1 : Hp} {o : HO} (a : But p H H1) : But p H (upd H1 p o) := fun c u e n => by
  rw [upd_ne n]
  exact a c u e n
/-- all that is no list is as it was -/
def Fix (H H' : Hp) : Prop := ∀ b o, H b = some o → (∀ xs, o ≠ .lst xs) → H' b = some o
theorem Fix.refl (H : Hp) : Fix H H := fun _ _ e _ => e
theorem Fix.trans {H H1 H2 : Hp} (a : Fix H H1) (b : Fix H1 H2) : Fix H H2 := fun c o e n => b c o (a c o e n) n
theorem Fix.same {H H1 : Hp} (a : Same H H1) : Fix H H1 := fun c o e _ => a c o e
theorem Fix.lst {H : Hp} {p : Addr} {xs : List V} {o : HO} (h : H p = some (.lst xs)) : Fix H (L2.upd H p o) := fun b u e n => by
  by_cases z : b = p
  · subst z
    rw [h] at e
    cases e
    exact absurd rfl (n _)
  · rw [upd_ne z]
    exact e
theorem Fix.tups {K : PySem.W.Frag} {H H' : Hp} (b : Fix H H') : Tups K H H' := fun a xs hS => by
  rcases hS with (hS | ⟨u, hS⟩) | hS
  · exact .inl (.inl (b _ _ hS (fun _ z => nomatch z)))
  · exact .inl (.inr ⟨u, b _ _ hS (fun _ z => nomatch z)⟩)
  · exact .inr hS
theorem But.fix {H H' : Hp} {p : Addr} {xs : List V} (h : H p = some (.lst xs)) (b : But p H H') : Fix H H' := fun c o e n => b c o e fun z => by
  subst z
  rw [h] at e
  cases e
  exact n _ rfl
/-- a list that never changes -/
def Fz (K : PySem.W.Frag) (H : Hp) (a : Addr) (xs : List V) : Prop := (∃ o, H a = some (.frz o (.lst xs))) ∨ ∀ H', SqL K H' a xs
theorem Fz.seq {K : PySem.W.Frag} {H : Hp} {a : Addr} {xs : List V} (h : Fz K H a xs) : SqL K H a xs := by
  rcases h with ⟨o, h⟩ | h
  · exact .inl (.inr ⟨o, h⟩)
  · exact h H
theorem Fz.on {K : PySem.W.Frag} {H H' : Hp} {a : Addr} {xs : List V} (f : Fix H H') (h : Fz K H a xs) : Fz K H' a xs := by
  rcases h with ⟨o, h⟩ | h
  · exact .inl ⟨o, f _ _ h (fun _ z => nomatch z)⟩
  · exact .inr h
theorem Fz.of {K : PySem.W.Frag} {H : Hp} {a : Addr} {xs : List V} (o : Only H) (h : SqL K H a xs) : Fz K H a xs := by
  rcases h with (h | h) | h
  · rcases o a with e | ⟨u, ys, e⟩
    · rw [e] at h
      cases h
    · rw [e] at h
      cases h
  · exact .inl h
  · exact .inr fun H' => .inr h
/-- row: the script, how many of it are taken, the running number, what is left of a great one -/
structure RowA (K : PySem.W.Frag) (H : Hp) (p a : Addr) (ns : List Int) (i r c : Int) : Prop where
  at_ : H p = some (.lst [.ref a, .int i, .int r, .int c])
  fz : Fz K H a (ns.map V.int)
  pos : 0 ≤ i
theorem RowA.scr {K : PySem.W.Frag} {H : Hp} {p a : Addr} {ns : List Int} {i r c : Int} (h : RowA K H p a ns i r c) : SqL K H a (ns.map V.int) := h.fz.seq
def Row (K : PySem.W.Frag) (H : Hp) (p : Addr) : Prop := ∃ a ns i r c, RowA K H p a ns i r c
theorem RowA.put {K : PySem.W.Frag} {H : Hp} {p a : Addr} {ns : List Int} {i r c i' r' c' : Int} (h : RowA K H p a ns i r c) (hi : 0 ≤ i') :
    RowA K (upd H p (.lst [.ref a, .int i', .int r', .int c'])) p a ns i' r' c' :=
  ⟨upd_same, h.fz.on (Fix.lst h.at_), hi⟩
theorem RowA.row {K : PySem.W.Frag} {H : Hp} {p a : Addr} {ns : List Int} {i r c : Int} (h : RowA K H p a ns i r c) : Row K H p := ⟨_, _, _, _, _, h⟩
theorem Row.lst {K : PySem.W.Frag} {H : Hp} {p : Addr} (h : Row K H p) : ∃ xs, H p = some (.lst xs) := by
  obtain ⟨a, ns, i, r, c, h⟩ := h
  exact ⟨_, h.at_⟩
theorem Row.fix {K : PySem.W.Frag} {H H' : Hp} {p : Addr} (h : Row K H p) (b : But p H H') : Fix H H' := by
  obtain ⟨xs, e⟩ := h.lst
  exact But.fix e b
theorem Row.on {K : PySem.W.Frag} {H H' : Hp} {p : Addr} (h : Row K H p) (f : Fix H H') (e : H' p = H p) : Row K H' p := by
  obtain ⟨a, ns, i, r, c, h⟩ := h
  exact ⟨a, ns, i, r, c, e.trans h.at_, h.fz.on f, h.pos⟩
theorem Row.same {K : PySem.W.Frag} {H H' : Hp} {p : Addr} (h : Row K H p) (s : Same H H') : Row K H' p := by
  obtain ⟨xs, e⟩ := h.lst
  exact h.on (Fix.same s) ((s _ _ e).trans e.symm)
/-- another list is written -/
theorem Row.lst_upd {K : PySem.W.Frag} {H : Hp} {p q : Addr} {xs : List V} {o : HO} (h : Row K H p) (e : H q = some (.lst xs)) (n : p ≠ q) : Row K (upd H q o) p := h.on (Fix.lst e) (upd_ne n)
/-- a new object -/
theorem Row.new {K : PySem.W.Frag} {H : Hp} {p q : Addr} {o : HO} (h : Row K H p) (e : H q = none) : Row K (upd H q o) p := h.same (same_new e)
theorem Row.ne {K : PySem.W.Frag} {H : Hp} {p q : Addr} (h : Row K H p) (e : H q = none) : p ≠ q := by
  obtain ⟨xs, e'⟩ := h.lst
  exact ne_of_none e' e
section
variable {P : Program} {w : World} {K : PySem.W.Frag} {mg : Str → Option Value} {base : Heap}
def spTaken (K : PySem.W.Frag) : Sp := fun vs H Q _ => ∃ (p : Addr) (m : Int), vs = [.ref p, .int m] ∧ Row K H p ∧ 0 < m ∧ m < 1048576 ∧ ∀ k H', 0 ≤ k → k < m → But p H H' → Row K H' p → Q (.int k) H'
theorem ok_taken (F : Df K mg "_law_taken" st__law_taken ["row", "many"]) (B : Bu mg) : Cal P w K mg base 1 "_law_taken" (spTaken K) := by
  refine mkCal F sc__law_taken (fun vs H Q E h => ?_) (fun f cdv A outer s H vs Q E hr h => ?_)
  · obtain ⟨p, m, rfl, _⟩ := h
    rfl
  · obtain ⟨p, m, rfl, ⟨a, ns, i, r, c, hR⟩, m0, m1, q⟩ := h
    refine ⟨_, pss_cons (ps_if (pt_cmpR op_gt (pe_ix ix_list (pv 0) pe_int (fun _ _ => rfl)) pe_int (nomark _))
        (pss_cons (ps_set (i := 2) sc__law_taken.nd rfl (.inl rfl) (pe_op op_mod (pe_callTy call_int1 (by rfl) B.int (by decide +kernel) (pa_cons (pe_ix ix_list (pv 0) pe_int (fun _ _ => rfl)) pa_nil)) (pv 1)))
        (pss_cons (ps_asg (pe_op op_fdiv (pe_ix ix_list (pv 0) pe_int (fun _ _ => rfl)) (pv 1)) (pg_sub (pv 0) pe_int set_list))
        (pss_one (ps_ret (pv 2))))) pss_nil)
      (pss_cons (ps_asg (pe_op op_add (pe_ix ix_list (pv 0) pe_int (fun _ _ => rfl)) pe_int) (pg_sub (pv 0) pe_int set_list))
      (pss_cons (ps_if (pt_cmpR op_gt (pe_ix ix_list (pv 0) pe_int (fun _ _ => rfl)) (pe_callB (cl_len K) (by rfl) B.len PySem.boot_len (pa_cons (pe_ix ix_list (pv 0) pe_int (fun _ _ => rfl)) pa_nil)) (nomark _))
        (pss_cons (ps_asg (pe_op op_mod (pe_callTy call_int1 (by rfl) B.int (by decide +kernel) (pa_cons (pe_op op_add (pe_op op_mul (pe_ix ix_list (pv 0) pe_int (fun _ _ => rfl)) pe_int) pe_int) pa_nil)) pe_int) (pg_sub (pv 0) pe_int set_list))
        (pss_one (ps_ret (pe_op op_mod (pe_callTy call_int1 (by rfl) B.int (by decide +kernel) (pa_cons (pe_op op_fdiv (pe_ix ix_list (pv 0) pe_int (fun _ _ => rfl)) pe_int) pa_nil)) (pv 1))))) pss_nil)
      (pss_cons (ps_set (i := 3) sc__law_taken.nd rfl (.inl rfl) (pe_ix ix_list (pe_ix ix_list (pv 0) pe_int (fun _ _ => rfl)) (pe_op op_sub (pe_ix ix_list (pv 0) pe_int (fun _ _ => rfl)) pe_int) (fun _ _ => rfl)))
      (pss_cons (ps_asg (pe_op op_mod (pe_callTy call_int1 (by rfl) B.int (by decide +kernel) (pa_cons (pe_op op_add (pe_op op_add (pe_op op_mul (pe_ix ix_list (pv 0) pe_int (fun _ _ => rfl)) pe_int) (pv 3)) pe_int) pa_nil)) pe_int) (pg_sub (pv 0) pe_int set_list))
      (pss_cons (ps_if (pt_cmpR op_ge (pv 3) (pe_op op_pow pe_int pe_int) (nomark _))
        (pss_one (ps_asg (pe_op op_fdiv (pv 3) (pv 1)) (pg_sub (pv 0) pe_int set_list))) pss_nil)
      (pss_one (ps_ret (pe_op op_mod (pe_callTy call_int1 (by rfl) B.int (by decide +kernel) (pa_cons (pv 3) pa_nil)) (pv 1))))))))), ?_⟩
    have L := hR.at_
    refine ⟨_, rfl, p, _, 3, .int c, rfl, rfl, lstAt L, rfl, c, 0, rfl, rfl, _, rfl, ite2 (fun e => ?_) (fun e => ?_)⟩
    · refine ⟨_, rfl, p, _, 3, .int c, rfl, rfl, lstAt L, rfl, .inl ⟨c, rfl, _, rfl, c, m, rfl, rfl, m0, ?_⟩⟩
      refine ⟨_, rfl, p, _, 3, .int c, rfl, rfl, lstAt L, rfl, _, rfl, c, m, rfl, rfl, ⟨m0, by omega⟩, _, rfl, p, _, 3, 3, rfl, rfl, L, rfl, ?_⟩
      exact ⟨_, rfl, q (c % m) _ (Int.emod_nonneg _ (by omega)) (Int.emod_lt_of_pos _ m0) (But.upd (But.refl p H)) (hR.put hR.pos).row⟩
    · refine ⟨_, rfl, p, _, 1, .int i, rfl, rfl, lstAt L, rfl, i, 1, rfl, rfl, _, rfl, p, _, 1, 1, rfl, rfl, L, rfl, ?_⟩
      have R1 : RowA K (upd H p (.lst [.ref a, .int (i + 1), .int r, .int c])) p a ns (i + 1) r c := hR.put (by have := hR.pos; omega)
      have L1 := R1.at_
      refine ⟨_, rfl, p, _, 1, .int (i + 1), rfl, rfl, lstAt L1, rfl, _, rfl, p, _, 0, .ref a, rfl, rfl, lstAt L1, rfl, a, _, rfl, .inl R1.scr, _, _, rfl, rfl, _, rfl, ite2 (fun e1 => ?_) (fun e1 => ?_)⟩
      · refine ⟨_, rfl, p, _, 2, .int r, rfl, rfl, lstAt L1, rfl, r, 48271, rfl, rfl, .inr ⟨by decide, by decide⟩, _, 11, rfl, rfl, .inl ⟨_, rfl, _, _, rfl, rfl, (by show (0 : Int) < 2147483647; decide), _, rfl, p, _, 2, 2, rfl, rfl, L1, rfl, ?_⟩⟩
        have R2 : RowA K (upd (upd H p (.lst [.ref a, .int (i + 1), .int r, .int c])) p (.lst [.ref a, .int (i + 1), .int ((r * 48271 + 11) % 2147483647), .int c])) p a ns (i + 1) ((r * 48271 + 11) % 2147483647) c := R1.put R1.pos
        refine ⟨_, rfl, p, _, 2, _, rfl, rfl, lstAt R2.at_, rfl, _, 7, rfl, rfl, ⟨by decide, by decide⟩, .inl ⟨_, rfl, _, rfl, _, m, rfl, rfl, m0, ?_⟩⟩
        exact q _ _ (Int.emod_nonneg _ (by omega)) (Int.emod_lt_of_pos _ m0) (But.upd (But.upd (But.refl p H))) R2.row
      · have hi : i < (ns.length : Int) := by
          rw [List.length_map] at e1
          have e9 : i + 1 ≤ (ns.length : Int) := by simpa using e1
          omega
        have hi0 := hR.pos
        obtain ⟨z, hz⟩ : ∃ z, ns[i.toNat]? = some z := ⟨ns[i.toNat]'(by omega), List.getElem?_eq_getElem (by omega)⟩
        refine ⟨_, rfl, p, _, 0, .ref a, rfl, rfl, lstAt L1, rfl, _, rfl, p, _, 1, .int (i + 1), rfl, rfl, lstAt L1, rfl, _, 1, rfl, rfl, a, _, i + 1 - 1, .int z, rfl, rfl, R1.scr, at_int (by omega) (at_map (by rw [show (i + 1 - 1).toNat = i.toNat by omega]; exact hz)), ?_⟩
        refine ⟨_, rfl, p, _, 2, .int r, rfl, rfl, lstAt L1, rfl, r, 48271, rfl, rfl, .inr ⟨by decide, by decide⟩, _, rfl, _, z, rfl, rfl, _, 11, rfl, rfl, .inl ⟨_, rfl, _, _, rfl, rfl, (by show (0 : Int) < 2147483647; decide), _, rfl, p, _, 2, 2, rfl, rfl, L1, rfl, ?_⟩⟩
        have R2 : RowA K (upd (upd H p (.lst [.ref a, .int (i + 1), .int r, .int c])) p (.lst [.ref a, .int (i + 1), .int ((r * 48271 + z + 11) % 2147483647), .int c])) p a ns (i + 1) ((r * 48271 + z + 11) % 2147483647) c := R1.put R1.pos
        refine ⟨_, rfl, 10, 18, rfl, rfl, ⟨by decide, by decide, by decide⟩, z, _, rfl, rfl, _, rfl, ite2 (fun e2 => ?_) (fun e2 => ?_)⟩
        · refine ⟨_, rfl, _, rfl, z, m, rfl, rfl, ⟨m0, by omega⟩, _, rfl, p, _, 3, 3, rfl, rfl, R2.at_, rfl, ?_⟩
          refine ⟨_, rfl, .inl ⟨z, rfl, _, rfl, z, m, rfl, rfl, m0, ?_⟩⟩
          exact q _ _ (Int.emod_nonneg _ (by omega)) (Int.emod_lt_of_pos _ m0) (But.upd (But.upd (But.upd (But.refl p H)))) (R2.put R2.pos).row
        · refine ⟨_, rfl, .inl ⟨z, rfl, _, rfl, z, m, rfl, rfl, m0, ?_⟩⟩
          exact q _ _ (Int.emod_nonneg _ (by omega)) (Int.emod_lt_of_pos _ m0) (But.upd (But.upd (But.refl p H))) R2.row
end
end RH
set_option Elab.async false
set_option linter.all false
set_option maxRecDepth 100000
set_option maxHeartbeats 2000000
namespace RH
open PySem PySem.Spec PyProof.Rows L2
theorem ix_nat {n : Nat} {k : Int} (h0 : 0 ≤ k) (h1 : k < n) : seqIndex? k n = some k.toNat := by
  unfold seqIndex?
  have e : (if k < 0 then k + (n : Int) else k) = k := if_neg (by omega)
  simp only [e]
  rw [if_pos]
  simp [h0, h1]
theorem But.fresh {p l : Addr} {H H1 : Hp} {o : HO} (a : But p H H1) (e : H l = none) : But p H (L2.upd H1 l o) := fun c u h n => by
  rw [upd_ne (ne_of_none h e)]
  exact a c u h n
theorem map_erase (ns : List Int) (k : Nat) : (ns.map V.int).eraseIdx k = (ns.eraseIdx k).map V.int := by
  induction ns generalizing k with
  | nil => rfl
  | cons n ns ih =>
    cases k with
    | zero => rfl
    | succ k =>
      show V.int n :: (ns.map V.int).eraseIdx k = V.int n :: (ns.eraseIdx k).map V.int
      rw [ih]
theorem perm_erase : ∀ {ls : List Int} {k : Nat} {y : Int}, ls[k]? = some y → ls.Perm (y :: ls.eraseIdx k)
  | [], k, y, h => by simp at h
  | a :: ls, 0, y, h => by
    have e : a = y := Option.some.inj h
    subst e
    exact List.Perm.refl _
  | a :: ls, k + 1, y, h => by
    have ih := perm_erase (ls := ls) (k := k) (y := y) h
    exact (ih.cons a).trans (List.Perm.swap ..)
section
variable {P : Program} {w : World} {K : PySem.W.Frag} {mg : Str → Option Value} {base : Heap}
def spPick (K : PySem.W.Frag) : Sp := fun vs H Q _ => ∃ (p l : Addr) (xs : List V), vs = [.ref p, .ref l] ∧ Row K H p ∧ H l = some (.lst xs) ∧ l ≠ p ∧ 0 < xs.length ∧ xs.length ≤ 1000 ∧
  ∀ (i : Nat) x H', xs[i]? = some x → But p H H' → Row K H' p → Q x H'
theorem ok_pick (F : Df K mg "_law_pick" st__law_pick ["row", "things"]) (B : Bu mg) (CT : Cal P w K mg base 1 "_law_taken" (spTaken K)) : Cal P w K mg base 2 "_law_pick" (spPick K) := by
  refine mkCal F sc__law_pick (fun vs H Q E h => ?_) (fun f cdv A outer s H vs Q E hr h => ?_)
  · obtain ⟨p, l, xs, rfl, _⟩ := h
    rfl
  · obtain ⟨p, l, xs, rfl, hR, hl, hlp, l0, l1, q⟩ := h
    refine ⟨_, pss_one (ps_ret (pe_ix ix_list (pv 1) (pc CT hr (pa_cons (pv 0) (pa_cons (pe_callB (cl_len K) (by rfl) B.len PySem.boot_len (pa_cons (pv 1) pa_nil)) pa_nil))) (fun _ _ => rfl))), ?_⟩
    refine ⟨_, rfl, _, rfl, _, rfl, l, xs, rfl, .inl (lstAt hl), p, xs.length, rfl, hR, by omega, by omega, fun k H' k0 k1 hB hR' => ?_⟩
    have hk : k.toNat < xs.length := by omega
    exact ⟨l, xs, k, _, rfl, rfl, lstAt (hB _ _ hl hlp), at_int k0 (List.getElem?_eq_getElem hk), q _ _ H' (List.getElem?_eq_getElem hk) hB hR'⟩
def spOrder (K : PySem.W.Frag) : Sp := fun vs H Q _ => ∃ (p : Addr) (n : Nat), vs = [.ref p, .int n] ∧ Row K H p ∧ n ≤ 1000 ∧ ∀ (H' : Hp) (q : Addr) (ns : List Int), ns.Perm (rg n) → But p H H' → Row K H' p → H q = none → H' q = some (.tup (ns.map V.int)) → Q (.ref q) H'
theorem ok_order (F : Df K mg "_law_order" st__law_order ["row", "many"]) (B : Bu mg) (CT : Cal P w K mg base 1 "_law_taken" (spTaken K)) : Cal P w K mg base 2 "_law_order" (spOrder K) := by
  refine mkCal F sc__law_order (fun vs H Q E h => ?_) (fun f cdv A outer s H vs Q E hr h => ?_)
  · obtain ⟨p, n, rfl, _⟩ := h
    rfl
  · obtain ⟨p, n, rfl, hR, hn, q⟩ := h
    refine ⟨_, pss_cons (ps_par (i := 2) (j := 3) rfl sc__law_order.nd rfl rfl (by decide) rfl rfl (pa_cons (pe_listRg rfl (by rfl) B.list (prg_1 (by rfl) B.range (pv 1))) (pa_cons (pe_lst pa_nil) pa_nil)) rfl)
      (pss_cons (ps_while PassesOwn.never (pt_cmpR (op_neD hr.units) (pv 2) (pe_lst pa_nil) (nomark _))
        (pss_one (ps_expr (pe_bm PySem.F.plainAttrs_list PySem.F.slot_list_append PySem.F.type_list_append mt_append (pv 3) (pa_cons (pe_bm PySem.F.plainAttrs_list PySem.F.slot_list_pop PySem.F.type_list_pop mt_popAt (pv 2)
          (pa_cons (pc CT hr (pa_cons (pv 0) (pa_cons (pe_callB (cl_len K) (by rfl) B.len PySem.boot_len (pa_cons (pv 2) pa_nil)) pa_nil))) pa_nil)) pa_nil)))))
      (pss_one (ps_ret (pe_tupleOf (by rfl) B.tuple (pv 3))))), ?_⟩
    refine ⟨_, rfl, n, rfl, ⟨by omega, by omega, by omega, by omega, by omega⟩, fun l hl => ⟨Nat.zero_le _, fun g hg => ⟨_, _, rfl, ?_⟩⟩⟩
    have hlg : l ≠ g := ne_of_none upd_same hg
    have hgH : H g = none := by
      rw [upd_ne (Ne.symm hlg)] at hg
      exact hg
    have hpl : p ≠ l := hR.ne hl
    have hpg : p ≠ g := hR.ne hgH
    refine ⟨fun m σ H' => ∃ ls fs : List Int, m = ls.length ∧ σ = [some (.ref p), some (.int n), some (.ref l), some (.ref g)] ∧ But p H H' ∧ Row K H' p ∧ H' l = some (.lst (ls.map V.int)) ∧ H' g = some (.lst (fs.map V.int)) ∧ (fs ++ ls).Perm (rg n),
      ⟨(rg n).length, rg n, [], rfl, rfl, But.same (Same.trans (same_new hl) (same_new hg)), (hR.new hl).new hg, ?_, upd_same, List.Perm.refl _⟩, ?_⟩
    · rw [upd_ne hlg, upd_same, rgV_rg]
    rintro m σ H1 ⟨ls, fs, rfl, rfl, hB, hR1, e1, e2, hpm⟩
    refine ⟨_, rfl, Nat.zero_le _, fun z hz => ?_⟩
    have sz : Same H1 (upd H1 z (.lst [])) := same_new hz
    refine ⟨_, _, dp_lst (ns := ls) (lstAt (sz _ _ e1)), dp_lst (ns := []) (lstAt upd_same), PySem.W.ke_shaped_ints _, PySem.W.ke_shaped_ints _, _, rfl, ?_⟩
    rw [eqv_lst]
    have len1 : fs.length + ls.length = n := by
      have := hpm.length_eq
      rw [List.length_append, rg_len] at this
      exact this
    cases ls with
    | nil =>
      refine ifF rfl ⟨_, rfl, .inl ⟨g, _, rfl, lstAt (sz _ _ e2), fun t ht => ?_⟩⟩
      rw [List.append_nil] at hpm
      have st : Same H1 (upd (upd H1 z (.lst [])) t (.tup (fs.map V.int))) := sz.trans (same_new ht)
      refine q _ t fs hpm (hB.trans (But.same st)) (hR1.same st) ?_ upd_same
      cases e : H t with
      | none => rfl
      | some o =>
        exfalso
        by_cases zp : t = p
        · obtain ⟨xs, ep⟩ := hR1.lst
          rw [zp, sz _ _ ep] at ht
          cases ht
        · rw [sz _ _ (hB _ _ e zp)] at ht
          cases ht
    | cons y ls =>
      have hRz : Row K (upd H1 z (.lst [])) p := hR1.same sz
      have e1z := sz _ _ e1
      have e2z := sz _ _ e2
      refine ifT rfl ⟨fun σ' H' => ∃ m', m' < (y :: ls).length ∧ ∃ ls fs : List Int, m' = ls.length ∧ σ' = [some (.ref p), some (.int n), some (.ref l), some (.ref g)] ∧ But p H H' ∧ Row K H' p ∧ H' l = some (.lst (ls.map V.int)) ∧ H' g = some (.lst (fs.map V.int)) ∧ (fs ++ ls).Perm (rg n), fun _ _ h => h, ?_⟩
      refine ⟨_, rfl, .inl ⟨rfl, _, lstAt e2z⟩, _, rfl, .inl ⟨rfl, _, lstAt e1z⟩, _, rfl, _, rfl, l, _, rfl, .inl (lstAt e1z), p, _, rfl, hRz, ?_, ?_, fun k H3 k0 k1 hB3 hR3 => ?_⟩
      · rw [List.length_map, List.length_cons]
        omega
      · rw [List.length_map]
        omega
      rw [List.length_map] at k1
      have e1' := hB3 _ _ e1z (Ne.symm hpl)
      have e2' := hB3 _ _ e2z (Ne.symm hpg)
      have hk : k.toNat < (y :: ls).length := by omega
      obtain ⟨v, hv⟩ : ∃ v, (y :: ls)[k.toNat]? = some v := ⟨_, List.getElem?_eq_getElem hk⟩
      have e2u : (upd H3 l (.lst (((y :: ls).map V.int).eraseIdx k.toNat))) g = some (.lst (fs.map V.int)) := by
        rw [upd_ne (Ne.symm hlg)]
        exact e2'
      refine ⟨l, _, k, k.toNat, .int v, rfl, rfl, e1', by omega, by omega, ?_, at_map hv, g, _, .int v, rfl, rfl, e2u, ?_, ?_⟩
      · rw [List.length_map]
        exact ix_nat k0 k1
      · rw [List.length_map]
        exact small1000 (by have := List.length_cons (a := y) (as := ls); omega)
      · refine ⟨((y :: ls).eraseIdx k.toNat).length, ?_, (y :: ls).eraseIdx k.toNat, fs ++ [v], rfl, rfl, ?_, ?_, ?_, ?_, ?_⟩
        · rw [List.length_eraseIdx_of_lt hk]
          omega
        · exact (((hB.trans (But.same sz)).trans hB3).fresh hl).fresh hgH
        · exact (hR3.lst_upd e1' hpl).lst_upd e2u hpg
        · rw [upd_ne hlg, upd_same, map_erase]
        · rw [upd_same, List.map_append]
          rfl
        · have hp2 := perm_erase hv
          refine List.Perm.trans ?_ hpm
          rw [List.append_assoc]
          exact List.Perm.append_left fs hp2.symm
end
end RH
set_option Elab.async false
set_option linter.all false
set_option maxRecDepth 100000
set_option maxHeartbeats 2000000
namespace RH
open PySem PySem.Spec PyProof.Rows L2
section
variable {P : Program} {w : World} {K : PySem.W.Frag} {mg : Str → Option Value} {base : Heap}
def spLot (K : PySem.W.Frag) : Sp := fun vs H Q _ => ∃ (p : Addr) (n : Nat), vs = [.ref p, .int n] ∧ Row K H p ∧ 1 ≤ n ∧ n ≤ 1000 ∧
  ∀ (H' : Hp) (q : Addr) (ns : List Int), ns.Pairwise (· < ·) → 1 ≤ ns.length → ns.length ≤ n → (∀ i ∈ ns, InR n i) → But p H H' → Row K H' p → H' q = some (.tup (ns.map V.int)) → Q (.ref q) H'
theorem rg_lt (p : Nat) : (rg p).Pairwise (· < ·) := by
  unfold rg
  rw [List.pairwise_map]
  exact (List.pairwise_lt_range (n := p)).imp fun h => by omega
theorem ok_lot (F : Df K mg "_law_lot" st__law_lot ["row", "places"]) (B : Bu mg) (CT : Cal P w K mg base 1 "_law_taken" (spTaken K)) : Cal P w K mg base 2 "_law_lot" (spLot K) := by
  refine mkCal F sc__law_lot (fun vs H Q E h => ?_) (fun f cdv A outer s H vs Q E hr h => ?_)
  · obtain ⟨p, n, rfl, _⟩ := h
    rfl
  · obtain ⟨p, n, rfl, hR, n1, n2, q⟩ := h
    refine ⟨_, pss_cons (ps_setLc (i := 2) (own := [("place", 3)]) (g := gName 3) rfl sc__law_lot.nd rfl rfl (sw_true rfl rfl rfl (by decide +kernel)) (pi_range1 (by rfl) B.range (pa_cons (pv 1) pa_nil))
        (blkOk_by (N := ["row", "places", "found", "place"]) (sc := defScope st__law_lot) (by decide +kernel)) (fun _ _ _ _ _ => pg_name (i := 3) sc__law_lot.nd rfl (Or.inl rfl))
        (fun _ _ _ _ _ => pts_one (pt_cmpR op_gt (pc CT hr (pa_cons (pv 0) (pa_cons pe_int pa_nil))) pe_int (nomark _))) (fun _ _ _ _ _ => pv 3))
      (pss_one (ps_ret (pe_ifExp (pt_cmpR (op_neD hr.units) (pv 2) (pe_lst pa_nil) (nomark _)) (pe_tupleOf (by rfl) B.tuple (pv 2)) (pe_tupRg rfl (by rfl) B.tuple (prg_1 (by rfl) B.range (pv 1)))))), ?_⟩
    refine ⟨_, rfl, n, rfl, by omega, by omega, fun D hD => ?_⟩
    have hpD : p ≠ D := hR.ne hD
    rw [Int.toNat_natCast]
    refine lc_range (lo := 0) (n := n) (fun i H' => ∃ fs : List Int, But p H H' ∧ Row K H' p ∧ H' D = some (.lst (fs.map V.int)) ∧ fs.Pairwise (· < ·) ∧ (∀ x ∈ fs, InR i x) ∧ fs.length ≤ i)
      ⟨[], But.same (same_new hD), hR.new hD, upd_same, List.Pairwise.nil, fun x hx => absurd hx (List.not_mem_nil), Nat.le_refl _⟩ (fun i H' hi h' => ?_) (fun H' h' => ?_)
    · obtain ⟨fs, hB, hR', eD, hp, hin, hl⟩ := h'
      refine ⟨rfl, _, rfl, p, 3, rfl, hR', by decide, by decide, fun k H3 k0 k1 hB3 hR3 => ⟨_, _, rfl, rfl, _, rfl, ite2 (fun e => ?_) (fun e => ?_)⟩⟩
      · have eD3 := hB3 _ _ eD (Ne.symm hpD)
        refine ⟨_, rfl, _, eD3, ?_, fs ++ [(i : Int)], ?_, hR3.lst_upd eD3 hpD, ?_, ?_, ?_, ?_⟩
        · rw [List.length_map]
          exact small1000 (by omega)
        · exact (hB.trans hB3).fresh hD
        · rw [upd_same, List.map_append, Int.zero_add]
          rfl
        · rw [List.pairwise_append]
          refine ⟨hp, List.pairwise_singleton _ _, fun a ha b hb => ?_⟩
          have := (hin a ha).2
          have := List.mem_singleton.mp hb
          omega
        · intro x hx
          rcases List.mem_append.mp hx with h1 | h1
          · exact ⟨(hin x h1).1, by have := (hin x h1).2; omega⟩
          · have := List.mem_singleton.mp h1
            exact ⟨by omega, by omega⟩
        · rw [List.length_append]
          show fs.length + 1 ≤ i + 1
          omega
      · exact ⟨fs, hB.trans hB3, hR3, hB3 _ _ eD (Ne.symm hpD), hp, fun x hx => ⟨(hin x hx).1, by have := (hin x hx).2; omega⟩, by omega⟩
    · obtain ⟨fs, hB, hR', eD, hp, hin, hl⟩ := h'
      refine ⟨_, rfl, Nat.zero_le _, fun z hz => ⟨_, _, dp_lst (ns := fs) (lstAt (same_new hz _ _ eD)), dp_lst (ns := []) (lstAt upd_same), PySem.W.ke_shaped_ints _, PySem.W.ke_shaped_ints _, _, rfl, ?_⟩⟩
      rw [eqv_lst]
      refine ite2 (fun e => ?_) (fun e => ?_)
      · refine ⟨_, rfl, .inl ⟨D, _, rfl, lstAt (same_new hz _ _ eD), fun t ht => ?_⟩⟩
        have st := Same.trans (same_new (o := .lst []) hz) (same_new (o := .tup (fs.map V.int)) ht)
        refine q _ t fs hp ?_ hl hin (hB.trans (But.same st)) (hR'.same st) upd_same
        cases fs with
        | nil => exact absurd e (by decide)
        | cons x fs => exact Nat.succ_le_succ (Nat.zero_le _)
      · refine ⟨_, rfl, n, rfl, ⟨by omega, by omega, by omega, by omega, by omega⟩, fun t ht => ?_⟩
        rw [rgV_rg] at *
        have st := Same.trans (same_new (o := .lst []) hz) (same_new (o := .tup ((rg n).map V.int)) ht)
        exact q _ t (rg n) (rg_lt n) (by rw [rg_len]; exact n1) (by rw [rg_len]; exact Nat.le_refl _) (fun i hi => rg_mem.mp hi) (hB.trans (But.same st)) (hR'.same st) upd_same
/-! ### _law_alike: an int with an int, a tuple of ints with a tuple of ints -/
end
end RH
set_option Elab.async false
set_option linter.all false
set_option maxRecDepth 100000
set_option maxHeartbeats 2000000
namespace RH
open PySem PySem.Spec PyProof.Rows L2
/-! ### _law_alike of equal data -/
theorem Dp.on {K : PySem.W.Frag} {H H' : Hp} (s : Same H H') : ∀ (d : PyData) (v : V), Dp K H v d → Dp K H' v d
  | d, v, h => by
    refine Dp.rec (motive_1 := fun v d _ => Dp K H' v d) (motive_2 := fun vs ds _ => DpAll K H' vs ds) .non .bl .int .str ?_ ?_ .nil ?_ h
    · intro a xs ds h1 _ h2
      exact .lst (s.seq h1) h2
    · intro a xs ds h1 _ h2
      exact .tup (onT s h1) h2
    · intro v vs d ds _ _ h1 h2
      exact .cons h1 h2
theorem DpAll.len {K : PySem.W.Frag} {H : Hp} : ∀ {vs : List V} {ds : List PyData}, DpAll K H vs ds → vs.length = ds.length
  | _, _, .nil => rfl
  | _, _, .cons _ t => congrArg (· + 1) (DpAll.len t)
theorem DpAll.of {K : PySem.W.Frag} {H : Hp} : ∀ {vs : List V} {ds : List PyData} {i : Nat} {d : PyData}, DpAll K H vs ds → ds[i]? = some d → ∃ v, vs[i]? = some v ∧ Dp K H v d
  | _, _, _, _, .nil, e => by simp at e
  | _, _, 0, _, .cons h _, e => by
    have e' := Option.some.inj e
    subst e'
    exact ⟨_, rfl, h⟩
  | _, _, i + 1, _, .cons _ t, e => DpAll.of (i := i) t e
def okD : Nat → PyData → Prop
  | 0, .none => True
  | 0, .bool _ => True
  | 0, .int _ => True
  | 0, .str _ => True
  | 0, _ => False
  | _ + 1, .none => True
  | _ + 1, .bool _ => True
  | _ + 1, .int _ => True
  | _ + 1, .str _ => True
  | k + 1, .list ds => ds.length ≤ 1000 ∧ ∀ d ∈ ds, okD k d
  | k + 1, .tuple ds => ds.length ≤ 1000 ∧ ∀ d ∈ ds, okD k d
  | _ + 1, .dict _ => False
theorem kit2 {K : PySem.W.Frag} {t : String} {b1 b2 : Bool} (h1 : kitB t "tuple" = some b1) (h2 : kitB t "list" = some b2) : PySem.W.kitAny K (.type t) [.type "tuple", .type "list"] = some (b1 || b2) := by
  cases b1 with
  | true => exact kitAny_cons (kit_ty h1) (fun z => nomatch z) (fun _ => rfl)
  | false =>
    cases b2 with
    | true => exact kitAny_cons (kit_ty h1) (fun _ => kitAny_cons (kit_ty h2) (fun z => nomatch z) (fun _ => rfl)) (fun z => nomatch z)
    | false => exact kitAny_cons (kit_ty h1) (fun _ => kitAny_cons (kit_ty h2) (fun _ => kitAny_nil) (fun z => nomatch z)) (fun z => nomatch z)
theorem cls2 : Paired ClsV [V.ty "tuple", V.ty "list"] [Value.type "tuple", Value.type "list"] := .cons (.ty _) (.cons (.ty _) .nil)
theorem ixS {X : Cx} (K : PySem.W.Frag) (h : X.K = K := by rfl) : IxR X (rIx K) := by
  subst h
  exact ix_seq
/-- a list or a tuple -/
structure Sq2 (K : PySem.W.Frag) (H : Hp) (a : Addr) (xs : List V) (T : String) (b : Bool) : Prop where
  ty : TyX K H (.ref a) (.type T)
  sq : SqL K H a xs ∨ SqT K H a xs
  k1 : PySem.W.kitAny K (.type T) [.type "tuple", .type "list"] = some true
  k2 : PySem.W.kitOne K (.type T) (.type "list") = some b
  ix : ∀ (i : Nat) (x : V) (Q : VK), xs[i]? = some x → Q x H → rIx K (.ref a) (.int (i : Int)) H Q
theorem sq2T {K : PySem.W.Frag} {H : Hp} {a : Addr} {xs : List V} (h : SqT K H a xs) : Sq2 K H a xs "tuple" false :=
  ⟨ty_tup h, .inr h, kit2 (b1 := true) (b2 := false) (by decide +kernel) (by decide +kernel), kit_ty (by decide +kernel), fun i x Q e q => .inr (.inl ⟨a, xs, i, x, rfl, rfl, h, atI_nat e, q⟩)⟩
theorem ty_lst {K : PySem.W.Frag} {H : Hp} {a : Addr} {xs : List V} (h : SqL K H a xs) : TyX K H (.ref a) (.type "list") := by
  rcases h with (h | ⟨o, h⟩) | ⟨o, vz, n, h, c, _⟩
  · exact .base (.lst h)
  · exact .base (.frz h)
  · exact .kList h c
theorem sq2L {K : PySem.W.Frag} {H : Hp} {a : Addr} {xs : List V} (h : SqL K H a xs) : Sq2 K H a xs "list" true :=
  ⟨ty_lst h, .inl h, kit2 (b1 := false) (b2 := true) (by decide +kernel) (by decide +kernel), kit_ty (by decide +kernel), fun i x Q e q => .inl ⟨a, xs, i, x, rfl, rfl, h, atI_nat e, q⟩⟩
theorem pss_no {X : Cx} {sts : List Stmt} : PSs X sts (fun _ _ _ => False) := ⟨fun _ _ _ _ _ _ h => h.elim⟩
section
variable {P : Program} {w : World} {K : PySem.W.Frag} {mg : Str → Option Value} {base : Heap}
def spAlike (K : PySem.W.Frag) (k : Nat) : Sp := fun vs H Q _ => ∃ (v u : V) (d : PyData), vs = [v, u] ∧ Dp K H v d ∧ Dp K H u d ∧ okD k d ∧ ∀ H', Same H H' → Q (.bl true) H'
theorem ok_alike0 (F : Df K mg "_law_alike" st__law_alike ["found", "due"]) (B : Bu mg) : Cal P w K mg base 1 "_law_alike" (spAlike K 0) := by
  refine mkCal F sc__law_alike (fun vs H Q E h => ?_) (fun f cdv A outer s H vs Q E hr h => ?_)
  · obtain ⟨v, u, d, rfl, _⟩ := h
    rfl
  · obtain ⟨v, u, d, rfl, hv, hu, hk, q⟩ := h
    refine ⟨_, pss_cons (ps_if (pt_val (pe_callB call_isiT (by rfl) B.isi (by decide +kernel) (pa_cons (pv 1) (pa_cons (pe_tup (pa_cons (pe_bltn (v := .ty "tuple") (by rfl) B.tuple (by decide +kernel) rfl) (pa_cons (pe_bltn (v := .ty "list") (by rfl) B.list (by decide +kernel) rfl) pa_nil))) pa_nil)))) pss_no pss_nil)
      (pss_cons (ps_if (PW.pt (pw_or (pt_cmp (pc_isN (pv 1))) (pw_or1 (pt_val (pe_callB call_isi (by rfl) B.isi (by decide +kernel) (pa_cons (pv 1) (pa_cons (pe_bltn (v := .ty "str") (by rfl) B.str (by decide +kernel) rfl) pa_nil)))))))
        (pss_one (ps_ret (pe_and (pe_cmpR op_eq (pv 0) (pv 1) (nomark _)) (pe_one (pe_cmpR op_eq (pe_callB call_isi (by rfl) B.isi (by decide +kernel) (pa_cons (pv 0) (pa_cons (pe_bltn (v := .ty "str") (by rfl) B.str (by decide +kernel) rfl) pa_nil)))
          (pe_callB call_isi (by rfl) B.isi (by decide +kernel) (pa_cons (pv 1) (pa_cons (pe_bltn (v := .ty "str") (by rfl) B.str (by decide +kernel) rfl) pa_nil))) (nomark _)))))) pss_nil)
      (pss_one (ps_ret (pe_and (pe_callB call_isi (by rfl) B.isi (by decide +kernel) (pa_cons (pv 0) (pa_cons (pe_bltn (v := .ty "int") (by rfl) B.int (by decide +kernel) rfl) pa_nil)))
        (pe_and (pe_cmpR op_eq (pe_callB call_isi (by rfl) B.isi (by decide +kernel) (pa_cons (pv 0) (pa_cons (pe_bltn (v := .ty "bool") (by rfl) B.bool (by decide +kernel) rfl) pa_nil)))
          (pe_callB call_isi (by rfl) B.isi (by decide +kernel) (pa_cons (pv 1) (pa_cons (pe_bltn (v := .ty "bool") (by rfl) B.bool (by decide +kernel) rfl) pa_nil))) (nomark _)) (pe_one (pe_cmpR op_eq (pv 0) (pv 1) (nomark _)))))))), ?_⟩
    cases hv with
    | non =>
      cases hu
      refine ⟨_, rfl, (by show 2 ≤ sizeLine; decide), fun t ht => ⟨.non, t, _, _, _, false, rfl, upd_same, cls2, .base .non, kit2 (b1 := false) (b2 := false) (by decide +kernel) (by decide +kernel), _, rfl, ifF rfl ?_⟩⟩
      refine ⟨_, rfl, _, rfl, ifT (decide_eq_true rfl) (ifT rfl ?_)⟩
      exact ⟨_, rfl, _, rfl, rfl, _, rfl, ifT (decide_eq_true rfl) ⟨_, rfl, .non, .ty "str", _, _, false, rfl, .ty "str", .base .non, kit_ty (by decide +kernel), _, rfl, .non, .ty "str", _, _, false, rfl, .ty "str", .base .non, kit_ty (by decide +kernel), rfl, q _ (same_new ht)⟩⟩
    | bl b =>
      cases hu
      refine ⟨_, rfl, (by show 2 ≤ sizeLine; decide), fun t ht => ⟨.bl b, t, _, _, _, false, rfl, upd_same, cls2, .base (.bl b), kit2 (b1 := false) (b2 := false) (by decide +kernel) (by decide +kernel), _, rfl, ifF rfl ?_⟩⟩
      refine ⟨_, rfl, _, rfl, ifF (decide_eq_false (fun z => nomatch z)) ⟨_, rfl, .bl b, .ty "str", _, _, false, rfl, .ty "str", .base (.bl b), kit_ty (by decide +kernel), _, rfl, ifF rfl ?_⟩⟩
      refine ⟨_, rfl, .bl b, .ty "int", _, _, true, rfl, .ty "int", .base (.bl b), kit_ty (by decide +kernel), _, rfl, ifT rfl ?_⟩
      refine ⟨_, rfl, .bl b, .ty "bool", _, _, true, rfl, .ty "bool", .base (.bl b), kit_ty (by decide +kernel), _, rfl, .bl b, .ty "bool", _, _, true, rfl, .ty "bool", .base (.bl b), kit_ty (by decide +kernel), rfl, _, rfl, ifT (decide_eq_true rfl) ?_⟩
      refine ⟨_, rfl, _, rfl, rfl, ?_⟩
      rw [decide_eq_true (rfl : V.bl b = V.bl b)]
      exact q _ (same_new ht)
    | int i =>
      cases hu
      refine ⟨_, rfl, (by show 2 ≤ sizeLine; decide), fun t ht => ⟨.int i, t, _, _, _, false, rfl, upd_same, cls2, .base (.int i), kit2 (b1 := false) (b2 := false) (by decide +kernel) (by decide +kernel), _, rfl, ifF rfl ?_⟩⟩
      refine ⟨_, rfl, _, rfl, ifF (decide_eq_false (fun z => nomatch z)) ⟨_, rfl, .int i, .ty "str", _, _, false, rfl, .ty "str", .base (.int i), kit_ty (by decide +kernel), _, rfl, ifF rfl ?_⟩⟩
      refine ⟨_, rfl, .int i, .ty "int", _, _, true, rfl, .ty "int", .base (.int i), kit_ty (by decide +kernel), _, rfl, ifT rfl ?_⟩
      refine ⟨_, rfl, .int i, .ty "bool", _, _, false, rfl, .ty "bool", .base (.int i), kit_ty (by decide +kernel), _, rfl, .int i, .ty "bool", _, _, false, rfl, .ty "bool", .base (.int i), kit_ty (by decide +kernel), rfl, _, rfl, ifT (decide_eq_true rfl) ?_⟩
      refine ⟨_, rfl, _, rfl, rfl, ?_⟩
      rw [decide_eq_true (rfl : V.int i = V.int i)]
      exact q _ (same_new ht)
    | str x =>
      cases hu
      refine ⟨_, rfl, (by show 2 ≤ sizeLine; decide), fun t ht => ⟨.str x, t, _, _, _, false, rfl, upd_same, cls2, .base (.str x), kit2 (b1 := false) (b2 := false) (by decide +kernel) (by decide +kernel), _, rfl, ifF rfl ?_⟩⟩
      refine ⟨_, rfl, _, rfl, ifF (decide_eq_false (fun z => nomatch z)) ⟨_, rfl, .str x, .ty "str", _, _, true, rfl, .ty "str", .base (.str x), kit_ty (by decide +kernel), _, rfl, ifT rfl ?_⟩⟩
      exact ⟨_, rfl, _, rfl, rfl, _, rfl, ifT (decide_eq_true rfl) ⟨_, rfl, .str x, .ty "str", _, _, true, rfl, .ty "str", .base (.str x), kit_ty (by decide +kernel), _, rfl, .str x, .ty "str", _, _, true, rfl, .ty "str", .base (.str x), kit_ty (by decide +kernel), rfl, q _ (same_new ht)⟩⟩
    | lst _ _ => exact hk.elim
    | tup _ _ => exact hk.elim
end
end RH
set_option Elab.async false
set_option linter.all false
set_option maxRecDepth 100000
set_option maxHeartbeats 2000000
namespace RH
open PySem PySem.Spec PyProof.Rows L2
theorem alike_cases {K : PySem.W.Frag} {H : Hp} {k : Nat} {v u : V} {d : PyData} (hv : Dp K H v d) (hu : Dp K H u d) (hk : okD (k + 1) d) : okD 0 d ∨ ∃ (a b : Addr) (xs ys : List V) (ds : List PyData) (T : String) (bl : Bool), v = .ref a ∧ u = .ref b ∧
    (∀ H', Same H H' → Sq2 K H' a xs T bl) ∧ (∀ H', Same H H' → Sq2 K H' b ys T bl) ∧ DpAll K H xs ds ∧ DpAll K H ys ds ∧ ds.length ≤ 1000 ∧ ∀ d ∈ ds, okD k d := by
  cases hv with
  | non => exact .inl True.intro
  | bl _ => exact .inl True.intro
  | int _ => exact .inl True.intro
  | str _ => exact .inl True.intro
  | @lst a xs ds h1 h2 =>
    cases hu with
    | @lst b ys _ h3 h4 => exact .inr ⟨a, b, xs, ys, ds, "list", true, rfl, rfl, fun _ s => sq2L (s.seq h1), fun _ s => sq2L (s.seq h3), h2, h4, hk.1, hk.2⟩
  | @tup a xs ds h1 h2 =>
    cases hu with
    | @tup b ys _ h3 h4 => exact .inr ⟨a, b, xs, ys, ds, "tuple", false, rfl, rfl, fun _ s => sq2T (onT s h1), fun _ s => sq2T (onT s h3), h2, h4, hk.1, hk.2⟩
section
variable {P : Program} {w : World} {K : PySem.W.Frag} {mg : Str → Option Value} {base : Heap}
theorem ok_alikeS (k : Nat) (F : Df K mg "_law_alike" st__law_alike ["found", "due"]) (B : Bu mg) (C : Cal P w K mg base (k + 1) "_law_alike" (spAlike K k)) : Cal P w K mg base (k + 2) "_law_alike" (spAlike K (k + 1)) := by
  refine mkCal F sc__law_alike (fun vs H Q E h => ?_) (fun f cdv A outer s H vs Q E hr h => ?_)
  · obtain ⟨v, u, d, rfl, _⟩ := h
    rfl
  · obtain ⟨v, u, d, rfl, hv, hu, hk, q⟩ := h
    refine ⟨_, pss_cons (ps_if (pt_val (pe_callB call_isiT (by rfl) B.isi (by decide +kernel) (pa_cons (pv 1) (pa_cons (pe_tup (pa_cons (pe_bltn (v := .ty "tuple") (by rfl) B.tuple (by decide +kernel) rfl) (pa_cons (pe_bltn (v := .ty "list") (by rfl) B.list (by decide +kernel) rfl) pa_nil))) pa_nil))))
        (pss_cons (ps_if (PW.pt (pw_or (pt_not (pt_val (pe_callB call_isiT (by rfl) B.isi (by decide +kernel) (pa_cons (pv 0) (pa_cons (pe_tup (pa_cons (pe_bltn (v := .ty "tuple") (by rfl) B.tuple (by decide +kernel) rfl) (pa_cons (pe_bltn (v := .ty "list") (by rfl) B.list (by decide +kernel) rfl) pa_nil))) pa_nil)))))
            (pw_or1 (pt_cmpR op_ne (pe_callB call_isi (by rfl) B.isi (by decide +kernel) (pa_cons (pv 0) (pa_cons (pe_bltn (v := .ty "list") (by rfl) B.list (by decide +kernel) rfl) pa_nil)))
              (pe_callB call_isi (by rfl) B.isi (by decide +kernel) (pa_cons (pv 1) (pa_cons (pe_bltn (v := .ty "list") (by rfl) B.list (by decide +kernel) rfl) pa_nil))) (nomark _))))) (pss_one (ps_ret pe_bl)) pss_nil)
        (pss_cons (ps_if (pt_cmpR op_ne (pe_callB (cl_len K) (by rfl) B.len PySem.boot_len (pa_cons (pv 0) pa_nil)) (pe_callB (cl_len K) (by rfl) B.len PySem.boot_len (pa_cons (pv 1) pa_nil)) (nomark _)) (pss_one (ps_ret pe_bl)) pss_nil)
        (pss_one (ps_ret (pe_cmpR (op_eqD hr.units) (pe_lc (own := [("k", 2)]) (g := gName 2) rfl sc__law_alike.nd (pi_range1 (by rfl) B.range (pa_cons (pe_callB (cl_len K) (by rfl) B.len PySem.boot_len (pa_cons (pv 1) pa_nil)) pa_nil))
          (blkOk_by (N := ["found", "due", "k"]) (sc := defScope st__law_alike) (by decide +kernel)) (fun _ _ _ _ _ => pg_name (i := 2) sc__law_alike.nd rfl (Or.inl rfl))
          (fun _ _ _ _ _ => pts_one (pt_not (pt_val (pc C hr (pa_cons (pe_ix (ixS K) (pv 0) (pv 2) (fun _ _ => rfl)) (pa_cons (pe_ix (ixS K) (pv 1) (pv 2) (fun _ _ => rfl)) pa_nil)) (hk := Nat.le_refl _))))) (fun _ _ _ _ _ => pv 2)) (pe_lst pa_nil) (nomark _)))))) pss_nil)
      (pss_cons (ps_if (PW.pt (pw_or (pt_cmp (pc_isN (pv 1))) (pw_or1 (pt_val (pe_callB call_isi (by rfl) B.isi (by decide +kernel) (pa_cons (pv 1) (pa_cons (pe_bltn (v := .ty "str") (by rfl) B.str (by decide +kernel) rfl) pa_nil)))))))
        (pss_one (ps_ret (pe_and (pe_cmpR op_eq (pv 0) (pv 1) (nomark _)) (pe_one (pe_cmpR op_eq (pe_callB call_isi (by rfl) B.isi (by decide +kernel) (pa_cons (pv 0) (pa_cons (pe_bltn (v := .ty "str") (by rfl) B.str (by decide +kernel) rfl) pa_nil)))
          (pe_callB call_isi (by rfl) B.isi (by decide +kernel) (pa_cons (pv 1) (pa_cons (pe_bltn (v := .ty "str") (by rfl) B.str (by decide +kernel) rfl) pa_nil))) (nomark _)))))) pss_nil)
      (pss_one (ps_ret (pe_and (pe_callB call_isi (by rfl) B.isi (by decide +kernel) (pa_cons (pv 0) (pa_cons (pe_bltn (v := .ty "int") (by rfl) B.int (by decide +kernel) rfl) pa_nil)))
        (pe_and (pe_cmpR op_eq (pe_callB call_isi (by rfl) B.isi (by decide +kernel) (pa_cons (pv 0) (pa_cons (pe_bltn (v := .ty "bool") (by rfl) B.bool (by decide +kernel) rfl) pa_nil)))
          (pe_callB call_isi (by rfl) B.isi (by decide +kernel) (pa_cons (pv 1) (pa_cons (pe_bltn (v := .ty "bool") (by rfl) B.bool (by decide +kernel) rfl) pa_nil))) (nomark _)) (pe_one (pe_cmpR op_eq (pv 0) (pv 1) (nomark _)))))))), ?_⟩
    rcases alike_cases hv hu hk with hk0 | ⟨a, b, xs, ys, ds, T, bl, rfl, rfl, ha, hb, hx, hy, hl, hd⟩
    · clear hk
      cases hv with
      | non =>
        cases hu
        refine ⟨_, rfl, (by show 2 ≤ sizeLine; decide), fun t ht => ⟨.non, t, _, _, _, false, rfl, upd_same, cls2, .base .non, kit2 (b1 := false) (b2 := false) (by decide +kernel) (by decide +kernel), _, rfl, ifF rfl ?_⟩⟩
        refine ⟨_, rfl, _, rfl, ifT (decide_eq_true rfl) (ifT rfl ?_)⟩
        exact ⟨_, rfl, _, rfl, rfl, _, rfl, ifT (decide_eq_true rfl) ⟨_, rfl, .non, .ty "str", _, _, false, rfl, .ty "str", .base .non, kit_ty (by decide +kernel), _, rfl, .non, .ty "str", _, _, false, rfl, .ty "str", .base .non, kit_ty (by decide +kernel), rfl, q _ (same_new ht)⟩⟩
      | bl b =>
        cases hu
        refine ⟨_, rfl, (by show 2 ≤ sizeLine; decide), fun t ht => ⟨.bl b, t, _, _, _, false, rfl, upd_same, cls2, .base (.bl b), kit2 (b1 := false) (b2 := false) (by decide +kernel) (by decide +kernel), _, rfl, ifF rfl ?_⟩⟩
        refine ⟨_, rfl, _, rfl, ifF (decide_eq_false (fun z => nomatch z)) ⟨_, rfl, .bl b, .ty "str", _, _, false, rfl, .ty "str", .base (.bl b), kit_ty (by decide +kernel), _, rfl, ifF rfl ?_⟩⟩
        refine ⟨_, rfl, .bl b, .ty "int", _, _, true, rfl, .ty "int", .base (.bl b), kit_ty (by decide +kernel), _, rfl, ifT rfl ?_⟩
        refine ⟨_, rfl, .bl b, .ty "bool", _, _, true, rfl, .ty "bool", .base (.bl b), kit_ty (by decide +kernel), _, rfl, .bl b, .ty "bool", _, _, true, rfl, .ty "bool", .base (.bl b), kit_ty (by decide +kernel), rfl, _, rfl, ifT (decide_eq_true rfl) ?_⟩
        refine ⟨_, rfl, _, rfl, rfl, ?_⟩
        rw [decide_eq_true (rfl : V.bl b = V.bl b)]
        exact q _ (same_new ht)
      | int i =>
        cases hu
        refine ⟨_, rfl, (by show 2 ≤ sizeLine; decide), fun t ht => ⟨.int i, t, _, _, _, false, rfl, upd_same, cls2, .base (.int i), kit2 (b1 := false) (b2 := false) (by decide +kernel) (by decide +kernel), _, rfl, ifF rfl ?_⟩⟩
        refine ⟨_, rfl, _, rfl, ifF (decide_eq_false (fun z => nomatch z)) ⟨_, rfl, .int i, .ty "str", _, _, false, rfl, .ty "str", .base (.int i), kit_ty (by decide +kernel), _, rfl, ifF rfl ?_⟩⟩
        refine ⟨_, rfl, .int i, .ty "int", _, _, true, rfl, .ty "int", .base (.int i), kit_ty (by decide +kernel), _, rfl, ifT rfl ?_⟩
        refine ⟨_, rfl, .int i, .ty "bool", _, _, false, rfl, .ty "bool", .base (.int i), kit_ty (by decide +kernel), _, rfl, .int i, .ty "bool", _, _, false, rfl, .ty "bool", .base (.int i), kit_ty (by decide +kernel), rfl, _, rfl, ifT (decide_eq_true rfl) ?_⟩
        refine ⟨_, rfl, _, rfl, rfl, ?_⟩
        rw [decide_eq_true (rfl : V.int i = V.int i)]
        exact q _ (same_new ht)
      | str x =>
        cases hu
        refine ⟨_, rfl, (by show 2 ≤ sizeLine; decide), fun t ht => ⟨.str x, t, _, _, _, false, rfl, upd_same, cls2, .base (.str x), kit2 (b1 := false) (b2 := false) (by decide +kernel) (by decide +kernel), _, rfl, ifF rfl ?_⟩⟩
        refine ⟨_, rfl, _, rfl, ifF (decide_eq_false (fun z => nomatch z)) ⟨_, rfl, .str x, .ty "str", _, _, true, rfl, .ty "str", .base (.str x), kit_ty (by decide +kernel), _, rfl, ifT rfl ?_⟩⟩
        exact ⟨_, rfl, _, rfl, rfl, _, rfl, ifT (decide_eq_true rfl) ⟨_, rfl, .str x, .ty "str", _, _, true, rfl, .ty "str", .base (.str x), kit_ty (by decide +kernel), _, rfl, .str x, .ty "str", _, _, true, rfl, .ty "str", .base (.str x), kit_ty (by decide +kernel), rfl, q _ (same_new ht)⟩⟩
      | lst _ _ => exact hk0.elim
      | tup _ _ => exact hk0.elim
    · have lx : xs.length = ds.length := DpAll.len hx
      have ly : ys.length = ds.length := DpAll.len hy
      refine ⟨_, rfl, (by show 2 ≤ sizeLine; decide), fun t ht => ?_⟩
      have s1 : Same H (upd H t (.tup [.ty "tuple", .ty "list"])) := same_new ht
      have b1 := hb _ s1
      refine ⟨.ref b, t, _, _, _, true, rfl, upd_same, cls2, b1.ty, b1.k1, _, rfl, ifT rfl ?_⟩
      refine ⟨_, rfl, (by show 2 ≤ sizeLine; decide), fun t2 ht2 => ?_⟩
      have s2 := s1.trans (same_new (o := .tup [.ty "tuple", .ty "list"]) ht2)
      have a2 := ha _ s2
      have b2 := hb _ s2
      refine ⟨.ref a, t2, _, _, _, true, rfl, upd_same, cls2, a2.ty, a2.k1, _, rfl, ifF rfl ?_⟩
      refine ⟨_, rfl, .ref a, .ty "list", _, _, bl, rfl, .ty "list", a2.ty, a2.k2, _, rfl, .ref b, .ty "list", _, _, bl, rfl, .ty "list", b2.ty, b2.k2, rfl, _, rfl, ifF (by rw [decide_eq_true (rfl : V.bl bl = V.bl bl)]; rfl) ?_⟩
      refine ⟨_, rfl, a, xs, rfl, a2.sq, _, rfl, b, ys, rfl, b2.sq, rfl, _, rfl, ifF (by rw [lx, ly, decide_eq_true rfl]; rfl) ?_⟩
      refine ⟨_, rfl, b, ys, rfl, b2.sq, _, rfl, by omega, by omega, fun D hD => ?_⟩
      rw [Int.toNat_natCast]
      refine lc_range (lo := 0) (n := ys.length) (fun i H' => Same (upd (upd H t (.tup [.ty "tuple", .ty "list"])) t2 (.tup [.ty "tuple", .ty "list"])) H' ∧ H' D = some (.lst [])) ⟨same_new hD, upd_same⟩ (fun i H' hi h' => ?_) (fun H' h' => ?_)
      · obtain ⟨sm, eD⟩ := h'
        have s3 := s2.trans sm
        obtain ⟨d, hdi⟩ : ∃ d, ds[i]? = some d := ⟨_, List.getElem?_eq_getElem (by omega)⟩
        obtain ⟨x, hxi, hxd⟩ := DpAll.of hx hdi
        obtain ⟨y, hyi, hyd⟩ := DpAll.of hy hdi
        rw [Int.zero_add]
        refine ⟨rfl, _, rfl, _, rfl, ?_⟩
        refine (ha _ s3).ix i x _ hxi ⟨_, rfl, _, rfl, ?_⟩
        refine (hb _ s3).ix i y _ hyi ⟨x, y, d, rfl, Dp.on s3 d x hxd, Dp.on s3 d y hyd, hd d (List.mem_of_getElem? hdi), fun H4 s4 => ⟨_, rfl, ifF rfl ⟨?_, s4 _ _ eD⟩⟩⟩
        exact sm.trans s4
      · obtain ⟨sm, eD⟩ := h'
        refine ⟨Nat.zero_le _, fun z hz => ?_⟩
        refine ⟨_, _, dp_lst (ns := []) (lstAt (same_new hz _ _ eD)), dp_lst (ns := []) (lstAt upd_same), PySem.W.ke_shaped_ints _, PySem.W.ke_shaped_ints _, ?_⟩
        exact q _ (s2.trans (sm.trans (same_new hz)))
end
end RH
set_option Elab.async false
set_option linter.all false
set_option maxRecDepth 100000
set_option maxHeartbeats 2000000
namespace RH
open PySem PySem.Spec PyProof.Rows L2
theorem ixN_int {n : Nat} {k : Int} (h0 : 0 ≤ k) (h1 : k < n) : ixN n k = some k.toNat := by
  unfold ixN
  rw [if_pos h0, if_pos h1]
def tF (n pl : Nat) : List Int := (List.range n).map fun s : Nat => ((s : Int) + (pl : Int)) % (n : Int)
def mF (n pl : Nat) : List Int := (List.range n).map fun s : Nat => (s : Int) + (if decide ((s : Int) < (pl : Int)) = true then 1 else 0)
def fF (n pl : Nat) : List Int := (mF n pl).take pl ++ [0] ++ (mF n pl).drop (pl + 1)
def sF (n pl : Nat) : List Int := ((rg n).set pl ((pl - 1 : Nat) : Int)).set (pl - 1) (pl : Int)
theorem perm_all : ∀ n, n < 6 → ∀ pl, pl < n → (tF n pl).isPerm (rg n) = true ∧ (fF n pl).isPerm (rg n) = true ∧ (sF n pl).isPerm (rg n) = true := by decide +kernel
theorem mF_len (n pl : Nat) : (mF n pl).length = n := by
  unfold mF
  rw [List.length_map, List.length_range]
theorem range_more {f : Nat → Int} (i : Nat) : ((List.range (i + 1)).map f).map V.int = ((List.range i).map f).map V.int ++ [V.int (f i)] := by
  rw [List.range_succ, List.map_append, List.map_append]
  rfl
/-- the permutations found so far -/
def HI (K : PySem.W.Frag) (p g : Addr) (H : Hp) (n i : Nat) (H' : Hp) : Prop := ∃ (xs : List V) (hs : List (List Int)), But p H H' ∧ Row K H' p ∧ H' g = some (.lst xs) ∧ Each (TI K H') xs hs ∧ hs.length = i ∧ ∀ ns ∈ hs, ns.Perm (rg n)
theorem HI.step {K : PySem.W.Frag} {p g : Addr} {H H1 H5 : Hp} {n i : Nat} (h : HI K p g H n i H1) (hg : H g = none) (hpg : p ≠ g) (b : But p H1 H5) (r : Row K H5 p) :
    ∃ xs, H5 g = some (.lst xs) ∧ xs.length = i ∧ ∀ (q : Addr) (ns : List Int) (H6 : Hp), Same H5 H6 → SqT K H6 q (ns.map V.int) → ns.Perm (rg n) → HI K p g H n (i + 1) (upd H6 g (.lst (xs ++ [.ref q]))) := by
  obtain ⟨xs, hs, hB, hR, e, hE, hl, hp⟩ := h
  have e5 := b _ _ e (Ne.symm hpg)
  refine ⟨xs, e5, hE.len.trans hl, fun q ns H6 s6 hq hpm => ⟨xs ++ [.ref q], hs ++ [ns], ?_, ?_, upd_same, ?_, ?_, ?_⟩⟩
  · exact ((hB.trans b).trans (But.same s6)).fresh hg
  · exact (r.same s6).lst_upd (s6 _ _ e5) hpg
  · have f1 : Fix H1 (upd H6 g (.lst (xs ++ [.ref q]))) := (hR.fix b).trans ((Fix.same s6).trans (Fix.lst (s6 _ _ e5)))
    exact Each.snoc ⟨q, rfl, Fix.tups (Fix.lst (s6 _ _ e5)) _ _ hq⟩ (hE.imp fun _ _ z => z.on f1.tups)
  · rw [List.length_append, hl]
    rfl
  · intro ns' hm
    rcases List.mem_append.mp hm with h1 | h1
    · exact hp _ h1
    · rw [List.mem_singleton.mp h1]
      exact hpm
section
variable {P : Program} {w : World} {K : PySem.W.Frag} {mg : Str → Option Value} {base : Heap}
def spHabit (K : PySem.W.Frag) : Sp := fun vs H Q _ => ∃ (p : Addr) (n : Nat), vs = [.ref p, .int n] ∧ Row K H p ∧ 2 ≤ n ∧ n ≤ 5 ∧ ∀ (H' : Hp) (v : V) (h : List (List Int)), Hb n h → But p H H' → Row K H' p → TII K H' v h → Q v H'
theorem ok_habit (F : Df K mg "_law_habit" st__law_habit ["row", "places"]) (B : Bu mg) (CT : Cal P w K mg base 1 "_law_taken" (spTaken K)) (CO : Cal P w K mg base 2 "_law_order" (spOrder K)) : Cal P w K mg base 3 "_law_habit" (spHabit K) := by
  refine mkCal F sc__law_habit (fun vs H Q E h => ?_) (fun f cdv A outer s H vs Q E hr h => ?_)
  · obtain ⟨p, n, rfl, _⟩ := h
    rfl
  · obtain ⟨p, n, rfl, hR, n2, n5, q⟩ := h
    refine ⟨_, pss_cons (ps_par (i := 2) (j := 3) rfl sc__law_habit.nd rfl rfl (by decide) rfl rfl (pa_cons (pc CT hr (pa_cons (pv 0) (pa_cons pe_int pa_nil))) (pa_cons (pe_lst pa_nil) pa_nil)) rfl)
      (pss_cons (ps_for PassesOwn.never rfl (pi_range1 (by rfl) B.range (pa_cons (pv 1) pa_nil)) (pg_name (i := 4) sc__law_habit.nd rfl (Or.inr rfl))
        (pss_one (ps_if (pt_cmpR op_eq (pv 2) pe_int (nomark _))
          (pss_one (ps_expr (pe_bm PySem.F.plainAttrs_list PySem.F.slot_list_append PySem.F.type_list_append mt_append (pv 3) (pa_cons (pe_tupleOf (by rfl) B.tuple (pe_lc (own := [("spot", 7)]) (g := gName 7) (tt := tYes) rfl sc__law_habit.nd
            (pi_range1 (by rfl) B.range (pa_cons (pv 1) pa_nil)) (blkOk_by (N := ["row", "places", "way", "found", "place", "moved", "other", "spot"]) (sc := defScope st__law_habit) (by decide +kernel)) (fun _ _ _ _ _ => pg_name (i := 7) sc__law_habit.nd rfl (Or.inl rfl))
            (fun _ _ _ _ _ => pts_nil) (fun _ _ _ _ _ => pe_op op_mod (pe_op op_add (pv 7) (pv 4)) (pv 1)))) pa_nil))))
        (pss_one (ps_if (pt_cmpR op_eq (pv 2) pe_int (nomark _))
          (pss_cons (ps_setLc (i := 5) (own := [("spot", 7)]) (g := gName 7) (tt := tYes) rfl sc__law_habit.nd rfl rfl (sw_true rfl rfl rfl (by decide +kernel)) (pi_range1 (by rfl) B.range (pa_cons (pv 1) pa_nil))
            (blkOk_by (N := ["row", "places", "way", "found", "place", "moved", "other", "spot"]) (sc := defScope st__law_habit) (by decide +kernel)) (fun _ _ _ _ _ => pg_name (i := 7) sc__law_habit.nd rfl (Or.inl rfl))
            (fun _ _ _ _ _ => pts_nil) (fun _ _ _ _ _ => pe_op op_add (pv 7) (pe_callTy call_int1 (by rfl) B.int (by decide +kernel) (pa_cons (pe_cmpR op_lt (pv 7) (pv 4) (nomark _)) pa_nil))))
          (pss_one (ps_expr (pe_bm PySem.F.plainAttrs_list PySem.F.slot_list_append PySem.F.type_list_append mt_append (pv 3) (pa_cons (pe_tupleOf (by rfl) B.tuple (pe_op op_cat (pe_op op_cat (pe_slice sl_list (pv 5) po_none (po_some (pv 4))) (pe_lst (pa_cons pe_int pa_nil)))
            (pe_slice sl_list (pv 5) (po_some (pe_op op_add (pv 4) pe_int)) po_none))) pa_nil)))))
        (pss_one (ps_if (pt_cmpR op_eq (pv 2) pe_int (nomark _))
          (pss_cons (ps_set (i := 6) sc__law_habit.nd rfl (.inl rfl) (pe_callB (call_max2 rfl) (by rfl) B.max (by decide +kernel) (pa_cons pe_int (pa_cons (pe_op op_sub (pv 4) pe_int) pa_nil))))
          (pss_cons (ps_set (i := 5) sc__law_habit.nd rfl (.inl rfl) (pe_listRg rfl (by rfl) B.list (prg_1 (by rfl) B.range (pv 1))))
          (pss_cons (ps_asg (pe_tup (pa_cons (pv 6) (pa_cons (pv 4) pa_nil))) (pg_tup rfl (pgs_cons (pg_sub (pv 5) (pv 4) set_list) (pgs_cons (pg_sub (pv 5) (pv 6) set_list) pgs_nil))))
          (pss_one (ps_expr (pe_bm PySem.F.plainAttrs_list PySem.F.slot_list_append PySem.F.type_list_append mt_append (pv 3) (pa_cons (pe_tupleOf (by rfl) B.tuple (pv 5)) pa_nil)))))))
        (pss_one (ps_if (PW.pt (pw_and (pt_cmpR op_eq (pv 2) pe_int (nomark _)) (pw_and1 (pt_cmpR op_eq (pc CT hr (pa_cons (pv 0) (pa_cons pe_int pa_nil))) pe_int (nomark _)))))
          (pss_one (ps_expr (pe_bm PySem.F.plainAttrs_list PySem.F.slot_list_append PySem.F.type_list_append mt_append (pv 3) (pa_cons (pe_tupRg rfl (by rfl) B.tuple (prg_1 (by rfl) B.range (pv 1))) pa_nil))))
          (pss_one (ps_expr (pe_bm PySem.F.plainAttrs_list PySem.F.slot_list_append PySem.F.type_list_append mt_append (pv 3) (pa_cons (pc CO hr (pa_cons (pv 0) (pa_cons (pv 1) pa_nil))) pa_nil))))))))))))) 
      (pss_one (ps_ret (pe_tupleOf (by rfl) B.tuple (pv 3))))), ?_⟩
    refine ⟨_, rfl, p, 5, rfl, hR, by decide, by decide, fun wy H0 w0 w1 hB0 hR0 => ⟨Nat.zero_le _, fun g hg0 => ⟨_, _, rfl, ?_⟩⟩⟩
    have hpg : p ≠ g := hR0.ne hg0
    have hg : H g = none := by
      cases e : H g with
      | none => rfl
      | some o =>
        rw [hB0 _ _ e (Ne.symm hpg)] at hg0
        cases hg0
    refine ⟨_, rfl, n, rfl, by omega, by omega, ?_⟩
    rw [Int.toNat_natCast]
    refine for_range (lo := 0) (n := n) (fun i σ H' => HI K p g H n i H' ∧ ∃ y4 y5 y6 y7, σ = [some (.ref p), some (.int n), some (.int wy), some (.ref g), y4, y5, y6, y7])
      ⟨⟨[], [], hB0.fresh hg, hR0.new hg0, upd_same, .nil, rfl, fun _ hm => absurd hm (List.not_mem_nil)⟩, none, none, none, none, rfl⟩ (fun i σ H1 hi h' => ?_) (fun σ H' h' => ?_)
    · obtain ⟨hI, y4, y5, y6, y7, rfl⟩ := h'
      obtain ⟨pT, pF, pS⟩ := perm_all n (by omega) i hi
      have hR1 : Row K H1 p := hI.choose_spec.choose_spec.2.1
      rw [Int.zero_add]
      refine ⟨_, rfl, rfl, _, rfl, ite2 (fun _ => ?_) (fun _ => ?_)⟩
      · -- turned round
        obtain ⟨xs, e1, xl, st⟩ := hI.step hg hpg (But.refl p H1) hR1
        refine ⟨_, rfl, .inl ⟨rfl, _, lstAt e1⟩, _, rfl, n, rfl, by omega, by omega, fun D hD => ?_⟩
        rw [Int.toNat_natCast]
        refine lc_range (lo := 0) (n := n) (fun j H' => Same H1 H' ∧ H' D = some (.lst (((List.range j).map fun s : Nat => ((s : Int) + (i : Int)) % (n : Int)).map V.int))) ⟨same_new hD, upd_same⟩ (fun j H' hj h' => ?_) (fun H' h' => ?_)
        · obtain ⟨sm, eD⟩ := h'
          refine ⟨rfl, _, rfl, _, rfl, _, _, rfl, rfl, _, rfl, _, n, rfl, rfl, by omega, _, eD, ?_, ?_, ?_⟩
          · rw [List.length_map, List.length_map, List.length_range]
            exact small1000 (by omega)
          · intro b o e
            rw [upd_ne (ne_of_none e hD)]
            exact sm b o e
          · rw [upd_same, range_more, Int.zero_add]
        · obtain ⟨sm, eD⟩ := h'
          refine .inl ⟨D, _, rfl, lstAt eD, fun t ht => ?_⟩
          have sT := sm.trans (same_new (o := .tup ((tF n i).map V.int)) ht)
          refine ⟨g, xs, .ref t, rfl, rfl, sT _ _ e1, small1000 (by omega), st t (tF n i) _ sT (tupAt upd_same) (List.isPerm_iff.mp pT), _, _, _, _, rfl⟩
      · refine ⟨_, rfl, rfl, _, rfl, ite2 (fun _ => ?_) (fun _ => ?_)⟩
        · -- to the front
          refine ⟨_, rfl, n, rfl, by omega, by omega, fun D hD => ?_⟩
          rw [Int.toNat_natCast]
          refine lc_range (lo := 0) (n := n) (fun j H' => Same H1 H' ∧ H' D = some (.lst (((List.range j).map fun s : Nat => (s : Int) + (if decide ((s : Int) < (i : Int)) = true then 1 else 0)).map V.int))) ⟨same_new hD, upd_same⟩ (fun j H' hj h' => ?_) (fun H' h' => ?_)
          · obtain ⟨sm, eD⟩ := h'
            refine ⟨rfl, _, rfl, _, rfl, _, rfl, _, _, rfl, rfl, .inr ⟨_, rfl, _, _, rfl, rfl, _, eD, ?_, ?_, ?_⟩⟩
            · rw [List.length_map, List.length_map, List.length_range]
              exact small1000 (by omega)
            · intro b o e
              rw [upd_ne (ne_of_none e hD)]
              exact sm b o e
            · rw [upd_same, range_more, Int.zero_add]
          · obtain ⟨sm, eD⟩ := h'
            have hR2 := hR1.same sm
            obtain ⟨xs, e1, xl, st⟩ := hI.step hg hpg (But.same sm) hR2
            have hDl : ((List.range n).map fun s : Nat => (s : Int) + (if decide ((s : Int) < (i : Int)) = true then 1 else 0)) = mF n i := rfl
            rw [hDl] at eD
            refine ⟨_, rfl, .inl ⟨rfl, _, lstAt e1⟩, _, rfl, _, rfl, (i : Int), rfl, D, _, rfl, lstAt eD, fun a1 ha1 => ⟨by show 1 ≤ sizeLine; decide, fun a2 ha2 => ?_⟩⟩
            rw [cut_to] at *
            have q1 := same_new (o := .lst (((mF n i).map V.int).take i)) ha1
            have q2 := same_new (o := .lst [.int 0]) ha2
            refine ⟨a1, a2, ((mF n i).map V.int).take i, [.int 0], rfl, rfl, q2 _ _ upd_same, upd_same, ?_, fun a3 ha3 => ?_⟩
            · rw [List.length_take, List.length_map, mF_len]
              exact Nat.le_of_lt (small1000 (by show min i n + 1 ≤ 1000; omega))
            have q3 := same_new (o := .lst (((mF n i).map V.int).take i ++ [.int 0])) ha3
            refine ⟨_, rfl, _, rfl, (i : Int), 1, rfl, rfl, (i : Int) + 1, rfl, D, _, rfl, lstAt (q3 _ _ (q2 _ _ (q1 _ _ eD))), fun a4 ha4 => ?_⟩
            have q4 := same_new (o := .lst (cutV ((mF n i).map V.int) (some ((i : Int) + 1)) none)) ha4
            have ec : cutV ((mF n i).map V.int) (some ((i : Int) + 1)) none = ((mF n i).map V.int).drop (i + 1) := cut_from _ (i + 1)
            refine ⟨a3, a4, _, _, rfl, rfl, q4 _ _ upd_same, upd_same, ?_, fun a5 ha5 => ?_⟩
            · rw [ec, List.length_append, List.length_take, List.length_drop, List.length_map, mF_len]
              exact Nat.le_of_lt (small1000 (by show min i n + 1 + (n - (i + 1)) ≤ 1000; omega))
            have q5 := same_new (o := .lst ((((mF n i).map V.int).take i ++ [.int 0]) ++ cutV ((mF n i).map V.int) (some ((i : Int) + 1)) none)) ha5
            refine .inl ⟨a5, _, rfl, lstAt upd_same, fun t ht => ?_⟩
            have q6 := same_new (o := .tup ((((mF n i).map V.int).take i ++ [.int 0]) ++ cutV ((mF n i).map V.int) (some ((i : Int) + 1)) none)) ht
            have qq := q1.trans (q2.trans (q3.trans (q4.trans (q5.trans q6))))
            have et : ((((mF n i).map V.int).take i ++ [.int 0]) ++ cutV ((mF n i).map V.int) (some ((i : Int) + 1)) none) = (fF n i).map V.int := by
              rw [ec]
              unfold fF
              rw [List.map_append, List.map_append, List.map_take, List.map_drop]
              rfl
            exact ⟨g, xs, .ref t, rfl, rfl, qq _ _ e1, small1000 (by omega), st t (fF n i) _ qq (tupAt (by rw [upd_same, et])) (List.isPerm_iff.mp pF), _, _, _, _, rfl⟩
        · refine ⟨_, rfl, rfl, _, rfl, ite2 (fun _ => ?_) (fun _ => ?_)⟩
          · -- neighbours
            refine ⟨_, rfl, (i : Int), 1, rfl, rfl, 0, (i : Int) - 1, rfl, ?_⟩
            have eo : (if (i : Int) - 1 > 0 then (i : Int) - 1 else 0) = ((i - 1 : Nat) : Int) := by
              split <;> omega
            rw [eo]
            refine ⟨_, rfl, n, rfl, ⟨by omega, by omega, by omega, by omega, by omega⟩, fun m hm => ?_⟩
            rw [rgV_rg] at *
            have hpm : p ≠ m := hR1.ne hm
            have s1 := same_new (o := .lst ((rg n).map V.int)) hm
            refine ⟨_, rfl, _, rfl, by show 2 ≤ sizeLine; decide, fun t ht => ?_⟩
            have s2 := same_new (o := .tup [.int ((i - 1 : Nat) : Int), .int (i : Int)]) ht
            have em := s2 _ _ (upd_same (H := H1) (a := m) (o := .lst ((rg n).map V.int)))
            have ll : ((rg n).map V.int).length = n := by rw [List.length_map, rg_len]
            refine ⟨t, _, rfl, tupAt upd_same, rfl, _, _, rfl, _, rfl, _, rfl, m, _, (i : Int), i, rfl, rfl, em, ?_, ?_⟩
            · have := ixN_int (n := ((rg n).map V.int).length) (k := (i : Int)) (by omega) (by omega)
              exact this
            refine ⟨_, _, rfl, _, rfl, _, rfl, m, _, ((i - 1 : Nat) : Int), i - 1, rfl, rfl, upd_same, ?_, rfl, ?_⟩
            · have := ixN_int (n := (((rg n).map V.int).set i (.int ((i - 1 : Nat) : Int))).length) (k := ((i - 1 : Nat) : Int)) (by omega) (by rw [List.length_set]; omega)
              exact this
            have et : (((rg n).map V.int).set i (.int ((i - 1 : Nat) : Int))).set (i - 1) (.int (i : Int)) = (sF n i).map V.int := by
              unfold sF
              rw [List.map_set, List.map_set]
            rw [et]
            have hR5 := ((hR1.same (s1.trans s2)).lst_upd (o := .lst (((rg n).map V.int).set i (.int ((i - 1 : Nat) : Int)))) em hpm).lst_upd (o := .lst ((sF n i).map V.int)) upd_same hpm
            obtain ⟨xs, e1, xl, st⟩ := hI.step hg hpg (((But.same (s1.trans s2)).fresh (o := .lst (((rg n).map V.int).set i (.int ((i - 1 : Nat) : Int)))) hm).fresh (o := .lst ((sF n i).map V.int)) hm) hR5
            refine ⟨_, rfl, .inl ⟨rfl, _, lstAt e1⟩, _, rfl, .inl ⟨m, _, rfl, lstAt upd_same, fun t2 ht2 => ?_⟩⟩
            have s6 := same_new (o := .tup ((sF n i).map V.int)) ht2
            exact ⟨g, xs, .ref t2, rfl, rfl, s6 _ _ e1, small1000 (by omega), st t2 (sF n i) _ s6 (tupAt upd_same) (List.isPerm_iff.mp pS), _, _, _, _, rfl⟩
          · have any : ∀ H3, But p H1 H3 → Row K H3 p → ∃ xs, H3 g = some (.lst xs) ∧ xs.length = i ∧ ∀ (q : Addr) (ns : List Int) (H6 : Hp), Same H3 H6 → SqT K H6 q (ns.map V.int) → ns.Perm (rg n) → HI K p g H n (i + 1) (upd H6 g (.lst (xs ++ [.ref q]))) := fun H3 b3 r3 => hI.step hg hpg b3 r3
            refine ⟨_, rfl, rfl, _, rfl, ite2 (fun _ => ?_) (fun _ => ?_)⟩
            · refine ⟨_, rfl, p, 2, rfl, hR1, by decide, by decide, fun k H3 k0 k1 hB3 hR3 => ⟨rfl, _, rfl, ite2 (fun _ => ?_) (fun _ => ?_)⟩⟩
              · obtain ⟨xs, e1, xl, st⟩ := any H3 hB3 hR3
                refine ⟨_, rfl, .inl ⟨rfl, _, lstAt e1⟩, _, rfl, n, rfl, ⟨by omega, by omega, by omega, by omega, by omega⟩, fun t ht => ?_⟩
                rw [rgV_rg] at *
                have s6 := same_new (o := .tup ((rg n).map V.int)) ht
                exact ⟨g, xs, .ref t, rfl, rfl, s6 _ _ e1, small1000 (by omega), st t (rg n) _ s6 (tupAt upd_same) (List.Perm.refl _), _, _, _, _, rfl⟩
              · obtain ⟨xs, e1, xl, st⟩ := any H3 hB3 hR3
                refine ⟨_, rfl, .inl ⟨rfl, _, lstAt e1⟩, _, rfl, _, rfl, p, n, rfl, hR3, by omega, fun H4 t ns pm b4 r4 _ e4 => ?_⟩
                obtain ⟨xs', e1', xl', st'⟩ := any H4 (hB3.trans b4) r4
                exact ⟨g, xs', .ref t, rfl, rfl, e1', small1000 (by omega), st' t ns _ (Same.refl H4) (tupAt e4) pm, _, _, _, _, rfl⟩
            · obtain ⟨xs, e1, xl, st⟩ := any H1 (But.refl p H1) hR1
              refine iteF ⟨_, rfl, .inl ⟨rfl, _, lstAt e1⟩, _, rfl, _, rfl, p, n, rfl, hR1, by omega, fun H4 t ns pm b4 r4 _ e4 => ?_⟩
              obtain ⟨xs', e1', xl', st'⟩ := any H4 b4 r4
              exact ⟨g, xs', .ref t, rfl, rfl, e1', small1000 (by omega), st' t ns _ (Same.refl H4) (tupAt e4) pm, _, _, _, _, rfl⟩
    · obtain ⟨⟨xs, hs, hB, hR', e, hE, hl, hp⟩, y4, y5, y6, y7, rfl⟩ := h'
      refine ⟨_, rfl, .inl ⟨g, xs, rfl, lstAt e, fun t ht => q _ _ hs ⟨hl, hp, n2, n5⟩ (hB.trans (But.same (same_new ht))) (hR'.new ht) ⟨t, xs, rfl, tupAt upd_same, hE.imp fun _ _ z => z.on (Same.tups (same_new ht))⟩⟩⟩
end
end RH
set_option Elab.async false
set_option linter.all false
set_option maxRecDepth 100000
set_option maxHeartbeats 2000000
namespace RH
open PySem PySem.Spec PyProof.Rows L2
theorem cl_listOf {X : Cx} (K : PySem.W.Frag) (h : X.K = K := by rfl) : CallR X (.type "list") (fun xs H Q => ∃ p ys, xs = [.ref p] ∧ (SqL K H p ys ∨ SqT K H p ys) ∧ ∀ l, H l = none → Q (.ref l) (upd H l (.lst ys))) := by
  subst h
  exact call_list_of
theorem okD_ints (ns : List Int) (h : ns.length ≤ 1000) : okD 1 (.tuple (ns.map PyData.int)) := by
  refine ⟨by rw [List.length_map]; exact h, fun d hd => ?_⟩
  obtain ⟨i, _, rfl⟩ := List.mem_map.mp hd
  exact True.intro
section
variable {P : Program} {w : World} {K : PySem.W.Frag} {mg : Str → Option Value} {base : Heap}
def spLaw (K : PySem.W.Frag) : Sp := fun vs H Q _ => ∃ (a : Addr) (ns : List Int), vs = [.ref a] ∧ Fz K H a (ns.map V.int) ∧ ∀ H', Q (.bl true) H'
theorem ok_law {f : Addr} {fd : FuncData} (F : Fun K "law" "law" st_law f fd) (B : Bu mg) (CT : Cal P w K mg base 1 "_law_taken" (spTaken K)) (CP : Cal P w K mg base 2 "_law_pick" (spPick K)) (CLo : Cal P w K mg base 2 "_law_lot" (spLot K)) (CH : Cal P w K mg base 3 "_law_habit" (spHabit K))
    (CA : Cal P w K mg base 2 "_law_alike" (spAlike K 1)) (CHL : Cal P w K mg base 8 "habits_left" (spLeft K)) : FnOk P w K mg base CX0 9 f fd ["script"] (spLaw K) := by
  refine F.ok sc_law (fun vs H Q E h => ?_) (fun cdv A outer s H vs Q E hr h => ?_)
  · obtain ⟨a, ns, rfl, _⟩ := h
    rfl
  · obtain ⟨a, scr, rfl, hZ, q⟩ := h
    refine ⟨_, pss_cons (ps_set (i := 1) sc_law.nd rfl (.inr rfl) (pe_lst (pa_cons (pv 0) (pa_cons pe_int (pa_cons pe_int (pa_cons pe_int pa_nil))))))
      (pss_cons (ps_set (i := 2) sc_law.nd rfl (.inr rfl) (pe_op op_add pe_int (pc CT hr (pa_cons (pv 1) (pa_cons pe_int pa_nil)))))
      (pss_cons (ps_set (i := 3) sc_law.nd rfl (.inl rfl) (pe_tupleOf (by rfl) B.tuple (pe_lc (own := [("turn", 5)]) (g := gName 5) (tt := tYes) rfl sc_law.nd (pi_range1 (by rfl) B.range (pa_cons (pe_op op_add pe_int (pc CT hr (pa_cons (pv 1) (pa_cons pe_int pa_nil)))) pa_nil))
        (blkOk_by (N := ["script", "row", "places", "habits", "lot", "turn", "place", "read", "word", "ends", "habit", "stands", "spot", "marked", "due", "step", "at"]) (sc := defScope st_law) (by decide +kernel)) (fun _ _ _ _ _ => pg_name (i := 5) sc_law.nd rfl (Or.inl rfl)) (fun _ _ _ _ _ => pts_nil)
        (fun _ _ _ _ _ => pc CH hr (pa_cons (pv 1) (pa_cons (pv 2) pa_nil))))))
      (pss_cons (ps_set (i := 4) sc_law.nd rfl (.inr rfl) (pc CLo hr (pa_cons (pv 1) (pa_cons (pv 2) pa_nil))))
      (pss_cons (ps_for PassesOwn.never rfl (pi_range1 (by rfl) B.range (pa_cons pe_int pa_nil)) (pg_name (i := 5) sc_law.nd rfl (.inl rfl))
        (pss_cons (ps_par (i := 6) (j := 7) rfl sc_law.nd rfl rfl (by decide) rfl rfl (pa_cons (pc CP hr (pa_cons (pv 1) (pa_cons (pe_callTy (cl_listOf K) (by rfl) B.list (by decide +kernel) (pa_cons (pv 4) pa_nil)) pa_nil)))
          (pa_cons (pc CP hr (pa_cons (pv 1) (pa_cons (pe_callTy (cl_listOf K) (by rfl) B.list (by decide +kernel) (pa_cons (pv 4) pa_nil)) pa_nil))) pa_nil)) rfl)
        (pss_cons (ps_set (i := 8) sc_law.nd rfl (.inl rfl) (pe_tupleOf (by rfl) B.tuple (pe_lc (own := [("step", 15)]) (g := gName 15) (tt := tYes) rfl sc_law.nd (pi_range1 (by rfl) B.range (pa_cons (pc CT hr (pa_cons (pv 1) (pa_cons pe_int pa_nil))) pa_nil))
          (blkOk_by (N := ["script", "row", "places", "habits", "lot", "turn", "place", "read", "word", "ends", "habit", "stands", "spot", "marked", "due", "step", "at"]) (sc := defScope st_law) (by decide +kernel)) (fun _ _ _ _ _ => pg_name (i := 15) sc_law.nd rfl (Or.inl rfl)) (fun _ _ _ _ _ => pts_nil)
          (fun _ _ _ _ _ => pc CP hr (pa_cons (pv 1) (pa_cons (pe_callTy (cl_listOf K) (by rfl) B.list (by decide +kernel) (pa_cons (pv 4) pa_nil)) pa_nil))))))
        (pss_cons (ps_set (i := 9) sc_law.nd rfl (.inr rfl) (pe_lst pa_nil))
        (pss_cons (ps_for PassesOwn.never rfl (pi_tup (pv 3)) (pg_name (i := 10) sc_law.nd rfl (.inl rfl))
          (pss_cons (ps_set (i := 11) sc_law.nd rfl (.inl rfl) (pe_ix ix_tup (pe_ix ix_tup (pv 10) (pv 6) (fun _ _ => rfl)) (pv 6) (fun _ _ => rfl)))
          (pss_cons (ps_for PassesOwn.never rfl (pi_tup (pv 8)) (pg_name (i := 12) sc_law.nd rfl (.inl rfl)) (pss_one (ps_set (i := 11) sc_law.nd rfl (.inl rfl) (pe_ix ix_tup (pe_ix ix_tup (pv 10) (pv 12) (fun _ _ => rfl)) (pv 11) (fun _ _ => rfl)))))
          (pss_one (ps_expr (pe_bm PySem.F.plainAttrs_list PySem.F.slot_list_append PySem.F.type_list_append mt_append (pv 9) (pa_cons (pe_cmpR op_eq (pv 11) (pv 7) (nomark _)) pa_nil)))))))
        (pss_one (ps_for PassesOwn.never rfl (pi_list (pe_lst (pa_cons pe_bl (pa_cons pe_bl pa_nil)))) (pg_name (i := 13) sc_law.nd rfl (.inr rfl))
          (pss_cons (ps_set (i := 14) sc_law.nd rfl (.inl rfl) (pe_tupleOf (by rfl) B.tuple (pe_lc (own := [("at", 16)]) (g := gName 16) rfl sc_law.nd (pi_range1 (by rfl) B.range (pa_cons (pe_callB (cl_len K) (by rfl) B.len PySem.boot_len (pa_cons (pv 3) pa_nil)) pa_nil))
            (blkOk_by (N := ["script", "row", "places", "habits", "lot", "turn", "place", "read", "word", "ends", "habit", "stands", "spot", "marked", "due", "step", "at"]) (sc := defScope st_law) (by decide +kernel)) (fun _ _ _ _ _ => pg_name (i := 16) sc_law.nd rfl (Or.inl rfl))
            (fun _ _ _ _ _ => pts_one (pt_cmpR op_eq (pe_ix (ixL K) (pv 9) (pv 16) (fun _ _ => rfl)) (pv 13) (nomark _))) (fun _ _ _ _ _ => pv 16))))
          (pss_one (ps_if (pt_not (pt_val (pc CA hr (pa_cons (pc CHL hr (pa_cons (pv 3) (pa_cons (pv 4) (pa_cons (pv 6) (pa_cons (pv 8) (pa_cons (pv 7) (pa_cons (pv 13) pa_nil)))))) (hk := Nat.le_refl _)) (pa_cons (pv 14) pa_nil))))) (pss_one (ps_ret pe_bl)) pss_nil))))))))))
      (pss_one (ps_ret pe_bl)))))), ?_⟩
    -- row, places
    refine ⟨_, rfl, by show 4 ≤ sizeLine; decide, fun p hp => ?_⟩
    have hR1 : Row K (upd H p (.lst [.ref a, .int 0, .int 5015, .int 0])) p := ⟨a, scr, 0, 5015, 0, upd_same, hZ.on (Fix.same (same_new hp)), Int.le_refl _⟩
    refine ⟨_, rfl, p, 4, rfl, hR1, by decide, by decide, fun k H2 k0 k1 hB2 hR2 => ⟨2, k, rfl, rfl, ?_⟩⟩
    obtain ⟨n, hn⟩ : ∃ n : Nat, 2 + k = (n : Int) := ⟨(2 + k).toNat, by omega⟩
    show gName 2 (V.int (2 + k)) _ _ _
    rw [hn]
    have n2 : 2 ≤ n := by omega
    have n5 : n ≤ 5 := by omega
    -- habits
    refine ⟨_, rfl, p, 3, rfl, hR2, by decide, by decide, fun k' H3 k0' k1' hB3 hR3 => ⟨1, k', rfl, rfl, 1 + k', rfl, by omega, by omega, fun D hD => ?_⟩⟩
    obtain ⟨m, hm⟩ : ∃ m : Nat, 1 + k' = (m : Int) := ⟨(1 + k').toNat, by omega⟩
    rw [hm, Int.toNat_natCast]
    have m1 : 1 ≤ m := by omega
    have m3 : m ≤ 3 := by omega
    have hpD : p ≠ D := hR3.ne hD
    refine lc_range (lo := 0) (n := m) (fun i H' => ∃ (xs : List V) (hs : List (List (List Int))), But p H3 H' ∧ Row K H' p ∧ H' D = some (.lst xs) ∧ Each (TII K H') xs hs ∧ hs.length = i ∧ ∀ h ∈ hs, Hb n h)
      ⟨[], [], But.same (same_new hD), hR3.new hD, upd_same, .nil, rfl, fun _ hm => absurd hm (List.not_mem_nil)⟩ (fun i H' hi h' => ?_) (fun H4 h4 => ?_)
    · obtain ⟨xs, hs, hB, hR', eD, hE, hl, hb⟩ := h'
      refine ⟨rfl, _, rfl, _, rfl, p, n, rfl, hR', n2, n5, fun H5 v h hbh hB5 hR5 hT => ?_⟩
      have eD5 := hB5 _ _ eD (Ne.symm hpD)
      refine ⟨xs, eD5, small1000 (by rw [hE.len]; omega), xs ++ [v], hs ++ [h], (hB.trans hB5).fresh hD, hR5.lst_upd eD5 hpD, upd_same, ?_, ?_, ?_⟩
      · have f1 : Fix H5 (upd H5 D (.lst (xs ++ [v]))) := Fix.lst eD5
        exact Each.snoc (hT.on f1.tups) (hE.imp fun _ _ z => z.on ((hR'.fix hB5).trans f1).tups)
      · rw [List.length_append, hl]
        rfl
      · intro h' hm
        rcases List.mem_append.mp hm with h1 | h1
        · exact hb _ h1
        · rw [List.mem_singleton.mp h1]
          exact hbh
    obtain ⟨xs, hs, hB4, hR4, eD4, hE4, hl, hb⟩ := h4
    refine .inl ⟨D, xs, rfl, lstAt eD4, fun ah hah => ?_⟩
    have s5 := same_new (o := .tup xs) hah
    have hT5 : THs K (upd H4 ah (.tup xs)) (.ref ah) hs := ⟨ah, xs, rfl, tupAt upd_same, hE4.imp fun _ _ z => z.on (Same.tups s5)⟩
    have hR5 : Row K (upd H4 ah (.tup xs)) p := hR4.same s5
    -- lot
    refine ⟨_, rfl, _, rfl, p, n, rfl, hR5, by omega, by omega, fun H6 al ns hri l1 l2 hin hB6 hR6 eL => ?_⟩
    have hT6 : THs K H6 (.ref ah) hs := hT5.on (hR5.fix hB6).tups
    -- four turns
    refine ⟨4, rfl, by decide, by decide, ?_⟩
    show (∃ W, _)
    refine for_range (lo := 0) (n := 4) (fun i σ H' => Row K H' p ∧ THs K H' (.ref ah) hs ∧ SqT K H' al (ns.map V.int) ∧ ∃ y5 y6 y7 y8 y9 y10 y11 y12 y13 y14 y15 y16, σ = [some (.ref a), some (.ref p), some (.int n), some (.ref ah), some (.ref al), y5, y6, y7, y8, y9, y10, y11, y12, y13, y14, y15, y16])
      ⟨hR6, hT6, tupAt eL, none, none, none, none, none, none, none, none, none, none, none, none, rfl⟩ (fun i σ H1 hi h' => ?_) (fun σ H' _ => q H')
    obtain ⟨hRa, hTa, hLa, y5, y6, y7, y8, y9, y10, y11, y12, y13, y14, y15, y16, rfl⟩ := h'
    have lns : (ns.map V.int).length = ns.length := List.length_map ..
    -- place, read
    refine ⟨_, rfl, _, rfl, al, _, rfl, .inr hLa, fun b1 hb1 => ?_⟩
    have t1 := same_new (o := .lst (ns.map V.int)) hb1
    refine ⟨p, b1, _, rfl, hRa.same t1, upd_same, Ne.symm (hRa.ne hb1), by omega, by omega, fun i1 x1 H7 hx1 hB7 hR7 => ?_⟩
    obtain ⟨pl, hpl, rfl⟩ := map_at hx1
    have f7 : Fix H1 H7 := (Fix.same t1).trans ((hRa.same t1).fix hB7)
    refine ⟨_, rfl, _, rfl, al, _, rfl, .inr (f7.tups _ _ hLa), fun b2 hb2 => ?_⟩
    have t2 := same_new (o := .lst (ns.map V.int)) hb2
    refine ⟨p, b2, _, rfl, hR7.same t2, upd_same, Ne.symm (hR7.ne hb2), by omega, by omega, fun i2 x2 H8 hx2 hB8 hR8 => ⟨_, _, rfl, ?_⟩⟩
    obtain ⟨rd, hrd, rfl⟩ := map_at hx2
    have f8 : Fix H1 H8 := f7.trans ((Fix.same t2).trans ((hR7.same t2).fix hB8))
    have pm : pl ∈ ns := List.mem_of_getElem? hpl
    have rm : rd ∈ ns := List.mem_of_getElem? hrd
    -- word
    refine ⟨_, rfl, p, 6, rfl, hR8, by decide, by decide, fun kw H9 kw0 kw1 hB9 hR9 => ⟨kw, rfl, by omega, by omega, fun D9 hD9 => ?_⟩⟩
    have f9 : Fix H1 H9 := f8.trans (hR8.fix hB9)
    have hpD9 : p ≠ D9 := hR9.ne hD9
    refine lc_range (lo := 0) (n := kw.toNat) (fun i H' => ∃ ws : List Int, But p H9 H' ∧ Row K H' p ∧ H' D9 = some (.lst (ws.map V.int)) ∧ ws.length = i ∧ ∀ t ∈ ws, t ∈ ns)
      ⟨[], But.same (same_new hD9), hR9.new hD9, upd_same, rfl, fun _ hm => absurd hm (List.not_mem_nil)⟩ (fun j H' hj h' => ?_) (fun H10 h10 => ?_)
    · obtain ⟨ws, hB, hR', eD, hl', hws⟩ := h'
      refine ⟨rfl, _, rfl, _, rfl, al, _, rfl, .inr ((f9.trans (hR9.fix hB)).tups _ _ hLa), fun b3 hb3 => ?_⟩
      have t3 := same_new (o := .lst (ns.map V.int)) hb3
      refine ⟨p, b3, _, rfl, hR'.same t3, upd_same, Ne.symm (hR'.ne hb3), by omega, by omega, fun i3 x3 H11 hx3 hB11 hR11 => ?_⟩
      obtain ⟨z, hz, rfl⟩ := map_at hx3
      have eD11 := hB11 _ _ (t3 _ _ eD) (Ne.symm hpD9)
      refine ⟨_, eD11, ?_, ws ++ [z], ((hB.trans (But.same t3)).trans hB11).fresh hD9, hR11.lst_upd eD11 hpD9, ?_, ?_, ?_⟩
      · rw [List.length_map]
        exact small1000 (by omega)
      · rw [upd_same, List.map_append]
        rfl
      · rw [List.length_append, hl']
        rfl
      · intro t hm
        rcases List.mem_append.mp hm with h1 | h1
        · exact hws _ h1
        · rw [List.mem_singleton.mp h1]
          exact List.mem_of_getElem? hz
    obtain ⟨ws, hB10, hR10, eD10, lw, hws⟩ := h10
    refine .inl ⟨D9, _, rfl, lstAt eD10, fun aw haw => ?_⟩
    have s11 := same_new (o := .tup (ws.map V.int)) haw
    -- ends
    refine ⟨Nat.zero_le _, fun e he => ?_⟩
    have s12 := same_new (o := .lst []) he
    have hRe : Row K (upd (upd H10 aw (.tup (ws.map V.int))) e (.lst [])) p := (hR10.same s11).same s12
    have hpe : p ≠ e := (hR10.same s11).ne he
    have f12 : Fix H1 (upd (upd H10 aw (.tup (ws.map V.int))) e (.lst [])) := f9.trans ((hR9.fix hB10).trans (Fix.same (s11.trans s12)))
    have hW12 : SqT K (upd (upd H10 aw (.tup (ws.map V.int))) e (.lst [])) aw (ws.map V.int) := tupAt (s12 _ _ upd_same)
    have hT12 : THs K (upd (upd H10 aw (.tup (ws.map V.int))) e (.lst [])) (.ref ah) hs := hTa.on f12.tups
    have hL12 : SqT K (upd (upd H10 aw (.tup (ws.map V.int))) e (.lst [])) al (ns.map V.int) := f12.tups _ _ hLa
    have e12 : (upd (upd H10 aw (.tup (ws.map V.int))) e (.lst [])) e = some (.lst []) := upd_same
    generalize (upd (upd H10 aw (.tup (ws.map V.int))) e (.lst [])) = HE at *
    obtain ⟨_, xs', e', hSx, hEx⟩ := hT12
    cases e'
    have lx : xs'.length = hs.length := hEx.len
    have hwl : ws.length ≤ 1000 := by omega
    have hws' : ∀ t ∈ ws, InR n t := fun t ht => hin t (hws t ht)
    -- what is read on each shelf
    refine ⟨_, rfl, ah, rfl, ⟨_, hSx⟩, ?_⟩
    refine for_tup (xs := xs') (fun j σ H' => But e HE H' ∧ H' e = some (.lst (((hs.take j).map fun h => decide (mark h pl ws = rd)).map V.bl)) ∧ ∃ z10 z11 z12, σ = [some (.ref a), some (.ref p), some (.int n), some (.ref ah), some (.ref al), some (.int (0 + (i : Int))), some (.int pl), some (.int rd), some (.ref aw), some (.ref e), z10, z11, z12, y13, y14, y15, y16])
      ⟨But.refl e HE, e12, y10, y11, y12, rfl⟩ (fun j σ H' _ h' => (But.fix e12 h'.1).tups _ _ hSx) (fun j x σ H' hx h' => ?_) (fun σ HF h' => ?_)
    · obtain ⟨hB, eE, z10, z11, z12, rfl⟩ := h'
      have fH := But.fix e12 hB
      obtain ⟨h, hh, hTx⟩ := hEx.at hx
      have hbh := hb h (List.mem_of_getElem? hh)
      obtain ⟨ax, xx, rfl, hS2, hE2⟩ := hTx.on fH.tups
      obtain ⟨a1, ns1, e1, s1, e2⟩ := ix2 hE2 hbh (hin pl pm) (hin pl pm)
      refine ⟨_, rfl, _, rfl, ax, xx, pl, _, rfl, rfl, hS2, e1, _, rfl, a1, _, pl, _, rfl, rfl, s1, e2, ?_⟩
      refine ⟨_, rfl, aw, rfl, ⟨_, fH.tups _ _ hW12⟩, ?_⟩
      refine for_tup (xs := ws.map V.int) (fun l σ H2 => H2 = H' ∧ ∃ y, σ = [some (.ref a), some (.ref p), some (.int n), some (.ref ah), some (.ref al), some (.int (0 + (i : Int))), some (.int pl), some (.int rd), some (.ref aw), some (.ref e), some (.ref ax), some (.int (mark h pl (ws.take l))), y, y13, y14, y15, y16])
        ⟨rfl, z12, rfl⟩ (fun l σ H2 _ h2 => by rw [h2.1]; exact fH.tups _ _ hW12) (fun l x σ H2 hx2 h2 => ?_) (fun σ H2 h2 => ?_)
      · obtain ⟨t, ht, rfl⟩ := map_at hx2
        obtain ⟨rfl, y, rfl⟩ := h2
        have hm' : InR n (mark h pl (ws.take l)) := hbh.mark (hin pl pm) _ fun u hu => hws' u (List.mem_of_mem_take hu)
        obtain ⟨a2, ns2, e3, s2, e4⟩ := ix2 hE2 hbh (hws' t (List.mem_of_getElem? ht)) hm'
        refine ⟨_, rfl, _, rfl, ax, xx, t, _, rfl, rfl, hS2, e3, _, rfl, a2, _, _, _, rfl, rfl, s2, e4, rfl, some (.int t), ?_⟩
        rw [take_more ht, mark_snoc]
        rfl
      · obtain ⟨rfl, y, rfl⟩ := h2
        rw [List.length_map, List.take_length]
        refine ⟨_, rfl, .inl ⟨rfl, _, lstAt eE⟩, _, rfl, _, rfl, rfl, e, _, _, rfl, rfl, eE, ?_, ?_, ?_, _, _, _, rfl⟩
        · rw [List.length_map, List.length_map, List.length_take]
          exact small1000 (by omega)
        · exact But.upd hB
        · rw [upd_same, all_snoc _ hh, List.map_append, V_int]
          rfl
    obtain ⟨hBF, eF, z10, z11, z12, rfl⟩ := h'
    rw [lx, List.take_length] at eF
    have fF := But.fix e12 hBF
    have hRF : Row K HF p := by
      refine hRe.on fF ?_
      obtain ⟨l0, el0⟩ := hRe.lst
      rw [el0]
      exact hBF _ _ el0 hpe
    -- True and False
    refine ⟨by show 2 ≤ sizeLine; decide, fun lm hlm => ⟨lm, rfl, ⟨_, lstAt upd_same⟩, ?_⟩⟩
    have sG := same_new (o := .lst [.bl true, .bl false]) hlm
    have eL2 : (upd HF lm (.lst [.bl true, .bl false])) lm = some (.lst [.bl true, .bl false]) := upd_same
    have fG : Fix HE (upd HF lm (.lst [.bl true, .bl false])) := fF.trans (Fix.same sG)
    have hRG := hRF.same sG
    have eG := sG _ _ eF
    generalize (upd HF lm (.lst [.bl true, .bl false])) = HG at *
    refine for_list (xs := [.bl true, .bl false]) (fun j σ H' => Same HG H' ∧ ∃ z13 z14, σ = [some (.ref a), some (.ref p), some (.int n), some (.ref ah), some (.ref al), some (.int (0 + (i : Int))), some (.int pl), some (.int rd), some (.ref aw), some (.ref e), z10, z11, z12, z13, z14, y15, y16])
      ⟨Same.refl HG, y13, y14, rfl⟩ (fun j σ H' _ h' => lstAt (h'.1 _ _ eL2)) (fun j x σ H' hx h' => ?_) (fun σ H' h' => ?_)
    · obtain ⟨sm, z13, z14, rfl⟩ := h'
      obtain ⟨mk, rfl⟩ : ∃ mk : Bool, x = .bl mk := by
        match j, hx with
        | 0, h => exact ⟨true, (Option.some.inj h).symm⟩
        | 1, h => exact ⟨false, (Option.some.inj h).symm⟩
        | j + 2, h => simp at h
      have fH : Fix HE H' := fG.trans (Fix.same sm)
      have hSh := fH.tups _ _ hSx
      refine ⟨_, rfl, ah, xs', rfl, .inr hSh, (xs'.length : Int), rfl, by omega, by omega, fun D2 hD2 => ?_⟩
      rw [Int.toNat_natCast]
      refine lc_range (lo := 0) (n := xs'.length) (fun l H2 => Same H' H2 ∧ H2 D2 = some (.lst ((lft hs pl ws rd mk l).map V.int))) ⟨same_new hD2, upd_same⟩ (fun l H2 hl2 h2 => ?_) (fun H2 h2 => ?_)
      · obtain ⟨sm2, eD⟩ := h2
        obtain ⟨h, hh⟩ : ∃ h, hs[l]? = some h := ⟨_, List.getElem?_eq_getElem (by omega)⟩
        have ev : ((hs.map fun h => decide (mark h pl ws = rd)).map V.bl)[l]? = some (.bl (decide (mark h pl ws = rd))) := by
          rw [List.getElem?_map, List.getElem?_map, hh]
          rfl
        have eg : hs.getD l [] = h := by
          rw [List.getD_eq_getElem?_getD, hh]
          rfl
        have el : isLeft hs pl ws rd mk l = decide (decide (mark h pl ws = rd) = mk) := by
          unfold isLeft
          rw [eg]
        rw [Int.zero_add]
        refine ⟨rfl, _, rfl, _, rfl, e, _, (l : Int), _, rfl, rfl, lstAt (sm2 _ _ (sm _ _ eG)), atI_nat ev, _, rfl, rfl, _, rfl, ?_⟩
        rw [V_bl, ← el]
        refine ite2 (fun et => ⟨_, rfl, _, eD, ?_, ?_, ?_⟩) (fun et => ⟨sm2, ?_⟩)
        · rw [List.length_map]
          exact small1000 (by have := lft_len hs pl ws rd mk l; omega)
        · intro b o eb
          rw [upd_ne (ne_of_none eb hD2)]
          exact sm2 b o eb
        · rw [upd_same, lft_more, if_pos et, List.map_append]
          rfl
        · rw [lft_more, if_neg et, List.append_nil]
          exact eD
      · obtain ⟨sm2, eD⟩ := h2
        rw [lx] at eD
        refine .inl ⟨D2, _, rfl, lstAt eD, fun t ht => ?_⟩
        have sT := same_new (o := .tup ((lft hs pl ws rd mk hs.length).map V.int)) ht
        have sAll := sm2.trans sT
        have fT : Fix HE (upd H2 t (.tup ((lft hs pl ws rd mk hs.length).map V.int))) := fH.trans (Fix.same sAll)
        have et : (upd H2 t (.tup ((lft hs pl ws rd mk hs.length).map V.int))) t = some (.tup ((lft hs pl ws rd mk hs.length).map V.int)) := upd_same
        generalize (upd H2 t (.tup ((lft hs pl ws rd mk hs.length).map V.int))) = HT at *
        refine ⟨_, rfl, _, rfl, _, rfl, _, rfl, _, rfl, _, rfl, .ref ah, hs, n, .ref al, ns, pl, .ref aw, ws, rd, mk, rfl, ?_, by omega, by omega, hb, ⟨al, rfl, fT.tups _ _ hL12⟩, l1, l2, hin, hri, pm, rm, ⟨aw, rfl, fT.tups _ _ hW12⟩, hws, hwl, fun H3 qq sm3 eq => ?_⟩
        · exact ⟨ah, xs', rfl, fT.tups _ _ hSx, hEx.imp fun _ _ z => z.on fT.tups⟩
        · refine ⟨_, rfl, .ref qq, .ref t, .tuple ((lft hs pl ws rd mk hs.length).map PyData.int), rfl, dp_tup (tupAt eq), dp_tup (tupAt (sm3 _ _ et)), okD_ints _ (by have := lft_len hs pl ws rd mk hs.length; omega), fun H4' sm4 => ⟨_, rfl, ifF rfl ⟨sm.trans (sAll.trans (sm3.trans sm4)), _, _, rfl⟩⟩⟩
    · obtain ⟨sm, z13, z14, rfl⟩ := h'
      have fH : Fix HE H' := fG.trans (Fix.same sm)
      exact ⟨hRG.same sm, ⟨ah, xs', rfl, fH.tups _ _ hSx, hEx.imp fun _ _ z => z.on fH.tups⟩, fH.tups _ _ hL12, _, _, _, _, _, _, _, _, _, _, _, _, rfl⟩
end
end RH
set_option Elab.async false
set_option linter.all false
set_option maxRecDepth 100000
set_option maxHeartbeats 2000000
namespace RH
open PySem PySem.Spec PyProof.Rows L2
/-! ### what the top has left -/
theorem df_mk {K : PySem.W.Frag} {h : Heap} {mg : Str → Option Value} (X : K.In h) (G : h.Ns mainGlobals mg) {x : Str} {st : Stmt} {ps : List Str} {f : Addr} {od an : Option Addr} {sl : Array (Option Value)} {oc kV dc pm cd ct : Value}
    (a : PySem.W.nsIn K mainGlobals x = some (some (.ref f))) (l : K.lookup f = some ⟨oc, od, .func (PySem.W.fnOf x x (defArgs st) (defBody st) (defScope st) .none kV dc pm an cd ct), sl⟩) (c : PySem.W.codeIn K cd x = true) (k : PySem.W.keepIn K (.ref f) = true)
    (b : ∀ (kV doc pm : Value) (an : Option Addr) (cdv ct : Value) (us : List Value), us.length = ps.length → bindArgs (PySem.W.fnOf x x (defArgs st) (defBody st) (defScope st) .none kV doc pm an cdv ct) ⟨us, []⟩ = pure (ps.zip us)) : Df K mg x st ps := by
  have F := fun_mk (st := st) l c k
  exact ⟨f, _, F, PySem.W.mg_of X G a, F.binds b⟩
theorem dfD_mk {K : PySem.W.Frag} {h : Heap} {mg : Str → Option Value} (X : K.In h) (G : h.Ns mainGlobals mg) {x : Str} {st : Stmt} {ps : List Str} {f T : Addr} {od an : Option Addr} {sl : Array (Option Value)} {oc kV dc pm cd ct : Value} {o : Obj} {its : List Value} {m n0 : Nat} {dvs : List V}
    (a : PySem.W.nsIn K mainGlobals x = some (some (.ref f))) (l : K.lookup f = some ⟨oc, od, .func (PySem.W.fnOf x x (defArgs st) (defBody st) (defScope st) (.ref T) kV dc pm an cd ct), sl⟩) (c : PySem.W.codeIn K cd x = true) (k : PySem.W.keepIn K (.ref f) = true)
    (lT : K.lookup T = some o) (oT : o.data = .seq its.toArray m) (hv : Vals dvs its) (hne : dvs ≠ []) (hn : n0 + (dvs.length - 0) = ps.length)
    (b : ∀ (T : Addr) (kV doc pm : Value) (an : Option Addr) (cdv ct : Value) (us its : List Value), us.length = n0 → its.length = dvs.length →
      ∃ k, bindArgs (PySem.W.fnOf x x (defArgs st) (defBody st) (defScope st) (.ref T) kV doc pm an cdv ct) ⟨us, []⟩ = seqItems? (.ref T) >>= k ∧ k (some its.toArray) = pure (ps.zip (us ++ its.drop 0))) : DfD K mg x st ps dvs := by
  have F : FunD K x x (defArgs st) (defBody st) (defScope st) dvs [] f _ := ⟨⟨oc, od, .ref T, kV, dc, pm, an, cd, ct, sl, rfl, l, c, .inr ⟨hne, T, o, its, m, rfl, lT, oT, hv⟩, .inl rfl⟩, k⟩
  obtain ⟨ds, h1, h2⟩ := F.binds1 n0 0 hne hn b
  exact ⟨f, _, F, PySem.W.mg_of X G a, ds, h1, h2⟩
/-- the written part that is meant -/
abbrev kOf {K : PySem.W.Frag} {h : Heap} (_ : K.In h) : PySem.W.Frag := K
theorem const_mk {K : PySem.W.Frag} {h : Heap} {mg : Str → Option Value} (X : K.In h) (G : h.Ns mainGlobals mg) {x : Str} {i : Int} {t : Tok} (a : PySem.W.nsIn K mainGlobals x = some (some (.int i t))) : ∃ t, mg x = some (.int i t) := ⟨t, PySem.W.mg_of X G a⟩
theorem top {P : Program} {w : World} {K : PySem.W.Frag} {mg : Str → Option Value} {fa : Addr} (hfa : mg "law" = some (.ref fa)) (B : Bu mg) (c2 : ∃ t, mg "FEWEST_PLACES" = some (.int 2 t)) (c5 : ∃ t, mg "MOST_PLACES" = some (.int 5 t))
    (F_is_integer : Df K mg "is_integer" st_is_integer ["value"])
    (F_is_number : Df K mg "is_number" st_is_number ["value", "low", "high"])
    (F_is_row : Df K mg "is_row" st_is_row ["value", "low", "high"])
    (F_is_place : Df K mg "is_place" st_is_place ["value", "places"])
    (F_are_places : Df K mg "are_places" st_are_places ["value", "places"])
    (F_is_rising : Df K mg "is_rising" st_is_rising ["row"])
    (F_is_layout : Df K mg "is_layout" st_is_layout ["value", "places"])
    (F_is_habit : Df K mg "is_habit" st_is_habit ["value"])
    (F_check_habits : DfD K mg "check_habits" st_check_habits ["habits", "most"] [.int 3])
    (F_is_lot : Df K mg "is_lot" st_is_lot ["value", "places"])
    (F_check_lot : Df K mg "check_lot" st_check_lot ["lot", "places"])
    (F_habits_left : Df K mg "habits_left" st_habits_left ["habits", "lot", "place", "word", "read", "is_marked"])
    (F_is_of_lot : Df K mg "is_of_lot" st_is_of_lot ["value", "lot", "places"])
    (F_is_test : Df K mg "is_test" st_is_test ["place", "word", "read", "lot", "places"])
    (F_reads_mark : Df K mg "reads_mark" st_reads_mark ["habit", "place", "word", "read"])
    (F__law_taken : Df K mg "_law_taken" st__law_taken ["row", "many"])
    (F__law_order : Df K mg "_law_order" st__law_order ["row", "many"])
    (F__law_habit : Df K mg "_law_habit" st__law_habit ["row", "places"])
    (F__law_lot : Df K mg "_law_lot" st__law_lot ["row", "places"])
    (F__law_pick : Df K mg "_law_pick" st__law_pick ["row", "things"])
    (F__law_alike : Df K mg "_law_alike" st__law_alike ["found", "due"])
    (F_law : Df K mg "law" st_law ["script"])
    : ∃ fd : FuncData, (∀ (s : Shared) (v : Value), BindsTo s fd ⟨[v], []⟩ [("script", v)]) ∧ ∀ base : Heap, FnOk P w K mg base CX0 9 fa fd ["script"] (spLaw K) := by
  obtain ⟨f, fd, F, g, b⟩ := F_law.ex
  have e := hfa.symm.trans g
  cases e
  refine ⟨fd, fun s v => ?_, fun base => ?_⟩
  · obtain ⟨oc, od, kV, doc, pm, an, cdv, ct, osl, rfl, _⟩ := F.ex
    exact .of_eq rfl
  · have C1 := ok_is_integer (P := P) (w := w) (base := base) F_is_integer B
    have C2 := ok_is_number F_is_number C1
    have CR := ok_is_row (P := P) (w := w) (K := K) (base := base) F_is_row B
    have C3 := ok_is_place F_is_place C2
    have C4 := ok_are_places F_are_places B C3
    have CI := ok_is_rising (P := P) (w := w) (base := base) F_is_rising B
    have C5 := ok_is_layout F_is_layout B C4
    have C6 := ok_is_habit F_is_habit B c2 c5 CR C5
    have C7 := ok_check_habits F_check_habits B CR C6
    have CL := ok_check_lot F_check_lot (ok_is_lot F_is_lot CR C4 CI)
    have CO := ok_is_of_lot F_is_of_lot C3
    have CT := ok_is_test F_is_test B CO C4
    have CM := ok_reads_mark (P := P) (w := w) (base := base) F_reads_mark
    have CHL := ok_habits_left F_habits_left B C7 CL CT CM
    have T := ok_taken (P := P) (w := w) (K := K) (base := base) F__law_taken B
    exact ok_law F B T (ok_pick F__law_pick B T) (ok_lot F__law_lot B T) (ok_habit F__law_habit B T (ok_order F__law_order B T)) (ok_alikeS 0 F__law_alike B (ok_alike0 F__law_alike B)) CHL
end RH
set_option Elab.async false
set_option linter.all false
open PySem PySem.W PyProof.Rows
set_option maxRecDepth 100000 in
set_option maxHeartbeats 0 in
theorem PySem.Challenge.cw_restlesshelf_k15_whole_left_holds : PySem.Challenge.rw_restlesshelf_k15_whole_left.Holds := by
  w_on; o_law; k_head; (case hw => w_witness2)
  k_fill
  refine L2.walk_of (l := PySem.Challenge.rw_restlesshelf_k15_whole_left) (n := 63) (k := 9) (x := "script") (CX := fun _ => L2.CX0) (sp := fun w => RH.spLaw _) rfl (by decide) rfl ⟨rfl, by decide, by decide⟩ (fun w h Y => PySem.W.kIn_of Y) ?F (fun _ _ a ns hl ho hS => ⟨a, ns, rfl, RH.Fz.of ho hS, fun _ => rfl⟩) (fun _ _ _ _ _ h => h)
  case F =>
    intro w mg fa h KX G hmg
    have B : RH.Bu mg := by
      refine' RH.Bu.mk (PySem.W.mg_none_of KX G ?z0) (PySem.W.mg_none_of KX G ?z1) (PySem.W.mg_none_of KX G ?z2) (PySem.W.mg_none_of KX G ?z3) (PySem.W.mg_none_of KX G ?z4) (PySem.W.mg_none_of KX G ?z5) (PySem.W.mg_none_of KX G ?z6) (PySem.W.mg_none_of KX G ?z7) (PySem.W.mg_none_of KX G ?z8) (PySem.W.mg_none_of KX G ?z9) (PySem.W.mg_none_of KX G ?z10) (PySem.W.mg_none_of KX G ?z11) (PySem.W.mg_none_of KX G ?z12)
      (case z0 => k_is); (case z1 => k_is); (case z2 => k_is); (case z3 => k_is); (case z4 => k_is); (case z5 => k_is); (case z6 => k_is); (case z7 => k_is); (case z8 => k_is); (case z9 => k_is); (case z10 => k_is); (case z11 => k_is); (case z12 => k_is)
    have c_FEWEST_PLACES : ∃ t, mg "FEWEST_PLACES" = some (.int 2 t) := by
      refine' RH.const_mk KX G ?a
      (case a => k_is)
    have c_MOST_PLACES : ∃ t, mg "MOST_PLACES" = some (.int 5 t) := by
      refine' RH.const_mk KX G ?a
      (case a => k_is)
    have F_is_integer : RH.Df (RH.kOf KX) mg "is_integer" RH.st_is_integer ["value"] := by
      refine' RH.df_mk KX G ?a ?l ?c ?k (fun _ _ _ _ _ _ us hl => match us, hl with | [_], _ => rfl)
      (case a => k_is); (case l => k_is); (case c => k_is); (case k => k_is)
    have F_is_number : RH.Df (RH.kOf KX) mg "is_number" RH.st_is_number ["value", "low", "high"] := by
      refine' RH.df_mk KX G ?a ?l ?c ?k (fun _ _ _ _ _ _ us hl => match us, hl with | [_, _, _], _ => rfl)
      (case a => k_is); (case l => k_is); (case c => k_is); (case k => k_is)
    have F_is_row : RH.Df (RH.kOf KX) mg "is_row" RH.st_is_row ["value", "low", "high"] := by
      refine' RH.df_mk KX G ?a ?l ?c ?k (fun _ _ _ _ _ _ us hl => match us, hl with | [_, _, _], _ => rfl)
      (case a => k_is); (case l => k_is); (case c => k_is); (case k => k_is)
    have F_is_place : RH.Df (RH.kOf KX) mg "is_place" RH.st_is_place ["value", "places"] := by
      refine' RH.df_mk KX G ?a ?l ?c ?k (fun _ _ _ _ _ _ us hl => match us, hl with | [_, _], _ => rfl)
      (case a => k_is); (case l => k_is); (case c => k_is); (case k => k_is)
    have F_are_places : RH.Df (RH.kOf KX) mg "are_places" RH.st_are_places ["value", "places"] := by
      refine' RH.df_mk KX G ?a ?l ?c ?k (fun _ _ _ _ _ _ us hl => match us, hl with | [_, _], _ => rfl)
      (case a => k_is); (case l => k_is); (case c => k_is); (case k => k_is)
    have F_is_rising : RH.Df (RH.kOf KX) mg "is_rising" RH.st_is_rising ["row"] := by
      refine' RH.df_mk KX G ?a ?l ?c ?k (fun _ _ _ _ _ _ us hl => match us, hl with | [_], _ => rfl)
      (case a => k_is); (case l => k_is); (case c => k_is); (case k => k_is)
    have F_is_layout : RH.Df (RH.kOf KX) mg "is_layout" RH.st_is_layout ["value", "places"] := by
      refine' RH.df_mk KX G ?a ?l ?c ?k (fun _ _ _ _ _ _ us hl => match us, hl with | [_, _], _ => rfl)
      (case a => k_is); (case l => k_is); (case c => k_is); (case k => k_is)
    have F_is_habit : RH.Df (RH.kOf KX) mg "is_habit" RH.st_is_habit ["value"] := by
      refine' RH.df_mk KX G ?a ?l ?c ?k (fun _ _ _ _ _ _ us hl => match us, hl with | [_], _ => rfl)
      (case a => k_is); (case l => k_is); (case c => k_is); (case k => k_is)
    have F_check_habits : RH.DfD (RH.kOf KX) mg "check_habits" RH.st_check_habits ["habits", "most"] [.int 3] := by
      refine' RH.dfD_mk (n0 := 1) KX G ?a ?l ?c ?k ?lT ?oT ?hv (by simp) rfl (fun _ _ _ _ _ _ _ us its hl h2 => match us, its, hl, h2 with | [_], [_], _, _ => ⟨_, rfl, rfl⟩)
      (case a => k_is); (case l => k_is); (case c => k_is); (case k => k_is); (case lT => k_is); (case oT => exact rfl); (case hv => exact .cons ⟨_, rfl⟩ .nil)
    have F_is_lot : RH.Df (RH.kOf KX) mg "is_lot" RH.st_is_lot ["value", "places"] := by
      refine' RH.df_mk KX G ?a ?l ?c ?k (fun _ _ _ _ _ _ us hl => match us, hl with | [_, _], _ => rfl)
      (case a => k_is); (case l => k_is); (case c => k_is); (case k => k_is)
    have F_check_lot : RH.Df (RH.kOf KX) mg "check_lot" RH.st_check_lot ["lot", "places"] := by
      refine' RH.df_mk KX G ?a ?l ?c ?k (fun _ _ _ _ _ _ us hl => match us, hl with | [_, _], _ => rfl)
      (case a => k_is); (case l => k_is); (case c => k_is); (case k => k_is)
    have F_habits_left : RH.Df (RH.kOf KX) mg "habits_left" RH.st_habits_left ["habits", "lot", "place", "word", "read", "is_marked"] := by
      refine' RH.df_mk KX G ?a ?l ?c ?k (fun _ _ _ _ _ _ us hl => match us, hl with | [_, _, _, _, _, _], _ => rfl)
      (case a => k_is); (case l => k_is); (case c => k_is); (case k => k_is)
    have F_is_of_lot : RH.Df (RH.kOf KX) mg "is_of_lot" RH.st_is_of_lot ["value", "lot", "places"] := by
      refine' RH.df_mk KX G ?a ?l ?c ?k (fun _ _ _ _ _ _ us hl => match us, hl with | [_, _, _], _ => rfl)
      (case a => k_is); (case l => k_is); (case c => k_is); (case k => k_is)
    have F_is_test : RH.Df (RH.kOf KX) mg "is_test" RH.st_is_test ["place", "word", "read", "lot", "places"] := by
      refine' RH.df_mk KX G ?a ?l ?c ?k (fun _ _ _ _ _ _ us hl => match us, hl with | [_, _, _, _, _], _ => rfl)
      (case a => k_is); (case l => k_is); (case c => k_is); (case k => k_is)
    have F_reads_mark : RH.Df (RH.kOf KX) mg "reads_mark" RH.st_reads_mark ["habit", "place", "word", "read"] := by
      refine' RH.df_mk KX G ?a ?l ?c ?k (fun _ _ _ _ _ _ us hl => match us, hl with | [_, _, _, _], _ => rfl)
      (case a => k_is); (case l => k_is); (case c => k_is); (case k => k_is)
    have F__law_taken : RH.Df (RH.kOf KX) mg "_law_taken" RH.st__law_taken ["row", "many"] := by
      refine' RH.df_mk KX G ?a ?l ?c ?k (fun _ _ _ _ _ _ us hl => match us, hl with | [_, _], _ => rfl)
      (case a => k_is); (case l => k_is); (case c => k_is); (case k => k_is)
    have F__law_order : RH.Df (RH.kOf KX) mg "_law_order" RH.st__law_order ["row", "many"] := by
      refine' RH.df_mk KX G ?a ?l ?c ?k (fun _ _ _ _ _ _ us hl => match us, hl with | [_, _], _ => rfl)
      (case a => k_is); (case l => k_is); (case c => k_is); (case k => k_is)
    have F__law_habit : RH.Df (RH.kOf KX) mg "_law_habit" RH.st__law_habit ["row", "places"] := by
      refine' RH.df_mk KX G ?a ?l ?c ?k (fun _ _ _ _ _ _ us hl => match us, hl with | [_, _], _ => rfl)
      (case a => k_is); (case l => k_is); (case c => k_is); (case k => k_is)
    have F__law_lot : RH.Df (RH.kOf KX) mg "_law_lot" RH.st__law_lot ["row", "places"] := by
      refine' RH.df_mk KX G ?a ?l ?c ?k (fun _ _ _ _ _ _ us hl => match us, hl with | [_, _], _ => rfl)
      (case a => k_is); (case l => k_is); (case c => k_is); (case k => k_is)
    have F__law_pick : RH.Df (RH.kOf KX) mg "_law_pick" RH.st__law_pick ["row", "things"] := by
      refine' RH.df_mk KX G ?a ?l ?c ?k (fun _ _ _ _ _ _ us hl => match us, hl with | [_, _], _ => rfl)
      (case a => k_is); (case l => k_is); (case c => k_is); (case k => k_is)
    have F__law_alike : RH.Df (RH.kOf KX) mg "_law_alike" RH.st__law_alike ["found", "due"] := by
      refine' RH.df_mk KX G ?a ?l ?c ?k (fun _ _ _ _ _ _ us hl => match us, hl with | [_, _], _ => rfl)
      (case a => k_is); (case l => k_is); (case c => k_is); (case k => k_is)
    have F_law : RH.Df (RH.kOf KX) mg "law" RH.st_law ["script"] := by
      refine' RH.df_mk KX G ?a ?l ?c ?k (fun _ _ _ _ _ _ us hl => match us, hl with | [_], _ => rfl)
      (case a => k_is); (case l => k_is); (case c => k_is); (case k => k_is)
    obtain ⟨fd, hb, hF⟩ := RH.top (P := (PySem.Challenge.rw_restlesshelf_k15_whole_left).prog) (w := w) hmg B c_FEWEST_PLACES c_MOST_PLACES F_is_integer F_is_number F_is_row F_is_place F_are_places F_is_rising F_is_layout F_is_habit F_check_habits F_is_lot F_check_lot F_habits_left F_is_of_lot F_is_test F_reads_mark F__law_taken F__law_order F__law_habit F__law_lot F__law_pick F__law_alike F_law
    exact ⟨fd, hb, fun base _ _ => hF base⟩
