import PyProof.Rows.All
import Wide.All
import OpenK.AllK
import Wide.FinOn
import HandS.ForMost
import HandS.Exc
import HandS.TryOnly
import HandS.ExcOwn
import HandS.WordsExc
import HandS.IsInst
import HandS.Conv
import HandS.Sort
import HandS.SortInts
import HandS.Zip
import HandS.Zip0
import HandS.Wide
import HandS.Deep
import HandS.Flow
import HandS.Style
import HandS.TupAny
import KE.GoesEnum
import KE.KEqSeq
import KE.KEqDeep
import PyProof.TupleOfSeq
import HandS.Lambda
import HandS.Nested
import HandS.EndTab
import KE.KDictDisplayH
import KE.KDictCopyH
import KE.KIndexOf
import HandS.Dict
import HandS.DictTup
import HandS.TupLen
import HandS.Defaults
import HandS.SortRule
import KE.GoesZip
import HandS.ExcIs
import HandS.RaiseMore
import HandS.FStr
import HandS.Property
import PySem.Challenge.RW_restlesshelf_k20_whole_benches
set_option Elab.async false
set_option linter.all false
set_option maxRecDepth 100000
set_option maxHeartbeats 2000000
/-! Two rules more: a walk over enumerate of a tuple, sorted of a tuple of ints. -/
namespace RH
open PySem PySem.Spec PyProof.Rows L2
theorem made_enumB {v : Value} {o : Obj} {H : Heap → Prop} (B : Begins v o H) :
    Meets (Builtin.«enumerate.__new__» ⟨[.type "enumerate", v], []⟩) (fun _ R s => H s.heap ∧
      R (.ok (.ret (.ref (s.heap.push o).objs.size))) { s with heap := (s.heap.push o).push { cls := .type "enumerate", data := .fields #[.none, .bool false, .ref s.heap.objs.size, rawInt 0, .none, .none] } }) :=
  .of_wp fun prog w A R s h => by
    obtain ⟨hp, g, d, tz, oz⟩ := s; obtain ⟨h1, h⟩ := h
    have hsub := sub_enumerate
    have q1 : ∀ {A' : Around} {E : Value → Shared → Prop} {Q : Value → Shared → Prop}, Q (.ref hp.objs.size) ⟨hp.push o, g, d, tz, oz⟩ → wpAny (model prog w) A' (pyIter v) Q E ⟨hp, g, d, tz, oz⟩ :=
      fun q => B.iter prog w _ _ ⟨hp, g, d, tz, oz⟩ _ h1 q
    wp_walk using q1
    refine wpAny_stack_any fun st => wpAny_pure ?_
    split
    · rename_i c _ _ _ _ _
      cases (c == Value.type "enumerate")
      · wp_walk using q1
        exact ⟨_, rfl, h⟩
      · wp_walk using q1
        exact ⟨_, rfl, h⟩
    · wp_walk using q1
      exact ⟨_, rfl, h⟩
section
variable {prog : Program} {w : World} {A : Around} {E : Value → Shared → Prop} {s : Shared}
theorem enum_one {v : Value} {o : Obj} {H : Heap → Prop} {Q : Value → Shared → Prop} (B : Begins v o H) (h1 : H s.heap)
    (h : ∀ h', IsEnum h' (s.heap.objs.size + 1) s.heap.objs.size 0 .none → h'.get? s.heap.objs.size = some o → h'.objs.size = s.heap.objs.size + 2 →
      (∀ b o, s.heap.get? b = some o → h'.get? b = some o) → Q (.ref (s.heap.objs.size + 1)) { s with heap := h' }) :
    wpAny (model prog w) A (call (.type "enumerate") [v]) Q E s := by
  refine callType_new F.called_enumerate (by decide) (F.typeCall_enumerate_1 _) (F.newCall_enumerate_1 _) (fun obj => F.args_object_init_2 obj _) F.entry_enumerate_new
    (made_enumB B) ⟨h1, ?_⟩
  have hZ : (s.heap.push o).objs.size = s.heap.objs.size + 1 := Heap.size_push ..
  show _ ∧ _
  rw [hZ]
  have he : IsEnum ((s.heap.push o).push { cls := .type "enumerate", data := .fields #[.none, .bool false, .ref s.heap.objs.size, rawInt 0, .none, .none] }) (s.heap.objs.size + 1) s.heap.objs.size 0 .none := by
    have := Heap.get?_push_size (s.heap.push o) (o := { cls := .type "enumerate", data := .fields #[.none, .bool false, .ref s.heap.objs.size, rawInt 0, .none, .none] }) rfl
    rw [hZ] at this; exact this
  refine ⟨⟨_, he, rfl⟩, h _ he (Heap.get?_push_of_some _ (Heap.get?_push_size _ B.free)) (by rw [Heap.size_push, hZ]) fun b o x => Heap.get?_push_of_some _ (Heap.get?_push_of_some _ x)⟩
end
/-- the tuple at a, each item with vz number in a new pair -/
def IteT (K : PySem.W.Frag) (a : Addr) : It :=
  ⟨fun i H => ∃ (xs : List V) (x : V), SqT K H a xs ∧ xs[i]? = some x, fun i H v H' => ∃ T x, v = .ref T ∧ H T = none ∧ H' = upd H T (.tup [.int (i : Nat), x]) ∧ ∀ xs, SqT K H a xs → xs[i]? = some x, fun i H => ∃ xs : List V, SqT K H a xs ∧ xs.length ≤ i⟩
theorem ne_enum {h : Heap} {e it a : Addr} {i : Int} {old : Value} {vz : Array Value} (he : IsEnum h e it i old) (p : IsTup h a vz) : e ≠ a := fun z => by
  obtain ⟨o, hO, hC, _⟩ := p
  rw [← z, he] at hO
  cases hO
  exact absurd (Value.type.inj hC) (by decide)
theorem turn_enumT {P : Program} {w : World} {K : PySem.W.Frag} {elts : List Expr} {kk : Nat} {tpos : Pos} (a e it : Addr) :
    Turn P w K (.Tuple elts kk tpos) (IteT K a) [e, it] e (fun i h => (∃ old, IsEnum h e it ((i : Nat) : Int) old) ∧ h.IsTupleIter it a i ∧ e ≠ it ∧ a ≠ it) where
  mem := by simp
  obj := fun i h st b hb => by
    obtain ⟨⟨old, he⟩, ⟨o, hO, hC, hD⟩, _⟩ := st
    have e' : b = e ∨ b = it := by simpa using hb
    rcases e' with z | z
    · rw [z]; exact ⟨_, he, fun v q => nomatch q⟩
    · rw [z]; exact ⟨o, hO, fun v q => by rw [hD] at q; cases q⟩
  keep := fun i h h' st k => let ⟨⟨old, he⟩, hi, nEI⟩ := st; ⟨⟨old, k e (by simp) _ he⟩, hi.at fun o q => k it (by simp) o q, nEI⟩
  item := by
    intro X hP hw hK hC i pins s σ H E I hf st hg
    subst hP hw hK
    obtain ⟨⟨old, he⟩, hIt, nEI, nAI⟩ := st
    obtain ⟨xs, x, hSq, hx⟩ := hg
    obtain ⟨vz, rz, p, hZ⟩ := I.tuple hSq
    obtain ⟨u, hu, ru⟩ := rz.get hx
    have ltE : e < s.heap.objs.size := Heap.lt_size he
    have ltI : it < s.heap.objs.size := by obtain ⟨_, q, _⟩ := hIt; exact Heap.lt_size q
    have hlt : i < vz.toArray.size := by
      have := (List.getElem?_eq_some_iff.mp hu).1
      simpa using this
    refine wpAny_pyNext_enum_itemD (Draws.tuple (show X.A.in1.handled = none from I.ok.hd hC) it a nAI vz.toArray) he ⟨hIt, p⟩ hlt nEI (by
      intro hm
      have e' : e = it ∨ e = a := by simpa using hm
      rcases e' with z | z
      · exact nEI z
      · exact ne_enum he p z) fun x' h' tz hP' hO hit' hT hSz kp => ?_
    have ex : x' = u := by
      have h2 : vz.toArray[i]? = some u := by simpa using hu
      rw [h2] at hP'
      exact (Option.some.inj hP').symm
    subst ex
    refine ⟨_, rfl, wpAny_letOwnedTupleGo_enum (s := { s with heap := h', toks := tz + 1 }) hO fun h'' he' sbu => ?_⟩
    have hT2 : h''.get? s.heap.objs.size = some { cls := .type "tuple", data := .seq #[.int i tz, x'] } := (sbu.2 _ (Nat.ne_of_gt ltE)).trans hT
    have new : ObjOk X.prog X.w (upd H s.heap.objs.size (.tup [.int (i : Nat), x])) h'' s.heap.objs.size (.tup [.int (i : Nat), x]) :=
      ⟨by show 2 ≤ sizeLine; decide, [.int i tz, x'], .cons ⟨_, rfl⟩ (.cons ru .nil), ⟨_, hT2, rfl, _, rfl⟩⟩
    have I1 : Inv X pins σ (upd H s.heap.objs.size (.tup [.int (i : Nat), x])) { s with heap := h'', toks := tz + 1 } :=
      I.turnedNew (ch := [e, it]) (fun b ob hb q => (sbu.2 b (fun z => hb (by simp [z]))).trans (kp b ob (fun z => hb (by simp [z])) (fun z => hb (by simp [z])) q)) hf (Nat.le_refl _) new
    refine ⟨.ref s.heap.objs.size, _, I1, rfl, ⟨_, x, rfl, I.hok.fresh (Nat.le_refl _), rfl, fun ys hy => by rw [I.tuple_inj hy hSq]; exact hx⟩, ⟨⟨x', ?_⟩, hit'.1.at fun o q => (sbu.2 it (Ne.symm nEI)).trans q, nEI, nAI⟩, fun b hb => ?_⟩
    · have e1 : ((i + 1 : Nat) : Int) = (i : Int) + 1 := by omega
      rw [e1]; exact he'
    · have hb' : b < s.heap.objs.size := by
        have e' : b = e ∨ b = it := by simpa using hb
        rcases e' with z | z
        · rw [z]; exact ltE
        · rw [z]; exact ltI
      rw [upd_ne (Nat.ne_of_lt hb')]
      exact (hf b hb).1
  done := by
    intro X hP hw hK hC i pins s σ H E I hf st hg
    subst hP hw hK
    obtain ⟨⟨old, he⟩, hIt, nEI, nAI⟩ := st
    obtain ⟨xs, hSq, hx⟩ := hg
    obtain ⟨vz, rz, p, hZ⟩ := I.tuple hSq
    obtain ⟨f0, f1, f2, f3, f4, f5⟩ := hf it (by simp)
    have hl := rz.length
    have hT : s.TypeIs (.ref e) "enumerate" := ⟨_, he, rfl⟩
    unfold pyNext
    refine wpAny_bind (wpAny_attempt (wpAny_callSpecial?_slot (name := Str.ofString "__next__") hT F.slot_enumerate_next
      (wpAny_call_entry F.slot_enumerate_next hT F.entry_enumerate_next ?_ (F.args_enumerate_next_1 _))))
    show wpAny _ _ (field (.ref e) 2 >>= _) _ _ _
    refine wpAny_bind (wpAny_field he rfl (x := .ref it) rfl ?_)
    refine wpAny_bind (wpAny_nextOf_tuple_end (show X.A.in1.handled = none from I.ok.hd hC) hIt p (by simp; omega) fun h' x he' hx' => ?_)
    obtain ⟨o, hO, hc'⟩ := hx'
    refine wpAny_bind (wpAny_isInstance (T := "StopIteration") (b := true) ⟨o, hO, hc'⟩ isSubtype_stop ?_)
    exact wpAny_pure ⟨rfl, I.turned (t' := s.toks) (fun b o hb q => he' b o hb q) f0 f1 f3 f4 f5⟩
  self := fun A i s Q E st h => let ⟨⟨_, he⟩, _⟩ := st; wpAny_pyIter_enum he h
def iEnumT (K : PySem.W.Frag) (ta : TA) : TI := fun σ H R => ta σ H fun vs H1 => ∃ a xs, vs = [.ref a] ∧ SqT K H1 a xs ∧ R (IteT K a) H1
theorem pi_enumT {X : Cx} {e : Expr} {ta : TA} {p pos tpos : Pos} {elts : List Expr} {kk : Nat} (hg : Gl X "enumerate") (hm : X.mg "enumerate" = none) (ha : PA X [e] ta) (hs : starEach [e] X.env = [(false, eval e X.env)] := by rfl) :
    PI X (.Tuple elts kk tpos) (.Call (.Name "enumerate" p) [e] [] pos) (iEnumT X.K ta) := by
  refine ⟨fun pins s σ H R I h => ?_⟩
  refine Call_ (ld_blt I hg hm boot_enumerate (PyProof.Rows.callWith_type1 (thn (ha.run pos pins s σ H _ I h) fun us s1 ⟨vs, H1, I1, r1, q1⟩ => ?_) hs rfl))
  obtain ⟨a, xs, ex, hSq, q⟩ := q1
  subst ex
  cases r1 with
  | cons r rr =>
    cases rr
    cases r
    obtain ⟨vz, rz, p', hZ⟩ := I1.tuple hSq
    have hal : a < s1.heap.objs.size := by obtain ⟨_, q', _⟩ := id p'; exact Heap.lt_size q'
    refine enum_one (begins_tuple a vz.toArray) p' fun h' he hIt hSz kp => wpAny_pyIter_enum he ?_
    have I2 : Inv X pins σ H1 { s1 with heap := h' } := I1.kept (t' := s1.toks) kp
    refine ⟨s1.heap.objs.size + 1, [s1.heap.objs.size + 1, s1.heap.objs.size], _, _, H1, rfl, I2, turn_enumT a (s1.heap.objs.size + 1) s1.heap.objs.size, ⟨⟨.none, he⟩, ⟨_, hIt, rfl, rfl⟩, Nat.succ_ne_self _, Nat.ne_of_lt hal⟩, fun b hb => ?_, q⟩
    have e' : b = s1.heap.objs.size + 1 ∨ b = s1.heap.objs.size := by simpa using hb
    have hle : s1.heap.objs.size ≤ b := by
      rcases e' with z | z
      · rw [z]; exact Nat.le_add_right _ _
      · rw [z]; exact Nat.le_refl _
    exact I1.fpOk hle (I1.hok.fresh hle)
/-! ### sorted(a tuple of ints) -/
def rSortedTup (K : PySem.W.Frag) : List V → Hp → VK → Prop := fun vs H Q => ∃ (a : Addr) (ns : List Int), vs = [V.ref a] ∧ SqT K H a (ns.map V.int) ∧ ns.length < 64 ∧
  ∀ (ns' : List Int) (p : Addr), ns'.Perm ns → ns'.Pairwise (· ≤ ·) → H p = none → Q (.ref p) (upd H p (.lst (ns'.map V.int)))
section
variable {prog : Program} {w : World} {A : Around} {E : Value → Shared → Prop} {s : Shared}
theorem collect_tup {l : Addr} {vs : List Value} {Q : List Value → Shared → Prop} (hl : IsTup s.heap l vs.toArray)
    (h : Q vs { s with heap := (s.heap.push (seqObj "list" #[] 0)).update s.heap.objs.size (Obj.mapSeq (· ++ vs.toArray)) }) (hSz : vs.length ≤ sizeLine := by size_fits) :
    wpAny (model prog w) A (collect (.ref l)) Q E s := by
  obtain ⟨o, hO, hC, n, hD⟩ := id hl
  unfold collect
  refine wpAny_bind (wpAny_runValue (codeAny_builtin F.entry_proto_collect ?_))
  rw [Around.under_plainId F.plain_proto_collect _]
  show wpAny _ A.in1 (newList [] >>= fun l' => again (.builtin "list.__iadd__" ⟨[l', .ref l], []⟩)) _ _ s
  refine wpAny_bind (wpAny_newList (wpAny_pure ⟨plainId_quiet F.plain_list_iadd _, codeAny_builtin F.entry_list_iadd ?_⟩))
  rw [Around.under_plainId F.plain_list_iadd _]
  show wpAny _ _ (Builtin.List.listExtendWith (.ref s.heap.objs.size) (.ref l) (.ref s.heap.objs.size)) _ _ { s with heap := s.heap.push (seqObj "list" #[] 0) }
  unfold Builtin.List.listExtendWith
  have ho' : (s.heap.push (seqObj "list" #[] 0)).get? l = some o := Heap.get?_push_of_some _ hO
  refine wpAny_bind (wpAny_typeOf (T := "tuple") ⟨o, ho', hC⟩ ?_)
  have hT0 : (Value.type "tuple" == Value.type "tuple") = true := by rfl
  rw [if_pos (by rw [hT0]; simp)]
  refine wpAny_bind (listItems_at ho' hD ?_)
  refine wpAny_bind (listItems_at (xs := #[]) (n := 0) (Heap.get?_push_size _ rfl) rfl ?_)
  rw [if_neg (by simp)]
  refine wpAny_bind (listUpdate_at (xs := #[]) (n := 0) (Heap.get?_push_size _ rfl) rfl ?_ (Nat.zero_le _) (by show (#[] ++ vs.toArray).size ≤ sizeLine + 1; simp only [Array.size_append, List.size_toArray, List.length_nil]; omega))
  refine wpAny_pure ?_
  show wpAny (model prog w) A (do
      let o ← load s.heap.objs.size
      match o.data with
      | .seq xs _ => pure xs.toList
      | _ => unsupported "internal:collect") Q E { s with heap := (s.heap.push (seqObj "list" #[] 0)).update s.heap.objs.size (Obj.mapSeq (· ++ vs.toArray)) }
  refine wpAny_bind (wpAny_load (get?_update_seq (Heap.get?_push_size _ rfl) _) ?_)
  show wpAny _ _ (pure ((#[] : Array Value) ++ vs.toArray).toList) Q E _
  rw [show ((#[] : Array Value) ++ vs.toArray).toList = vs by simp]
  exact wpAny_pure h
theorem sorted_intsT {l : Addr} {vs : List Value} {ns : List Int} {Q : Value → Shared → Prop} (hl : IsTup s.heap l vs.toArray) (hI : IntsAre vs ns) (h64 : vs.length < 64)
    (h : ∀ (out : Array Value) (ns' : List Int), IntsAre out.toList ns' → ns'.Perm ns → ns'.Pairwise (· ≤ ·) → Q (.ref (s.heap.objs.size + 1)) { s with heap := sortedAll s.heap vs out }) :
    wpAny (model prog w) A (call (.builtin "sorted") [.ref l]) Q E s := by
  refine Calls.call_function_entry kind_sorted plain_sorted entry_sorted (args_sorted1 _) ?_
  unfold Builtin.«sorted»
  refine wpAny_bind (m := checkCount "sorted" 1 1 _) (wpAny_pure ?_)
  have hsz0 : vs.length ≤ sizeLine := by
    rw [sizeLine_eq]
    omega
  refine wpAny_bind (collect_tup (hSz := hsz0) hl ?_)
  refine wpAny_bind (wpAny_newList ?_)
  have hSz : ((s.heap.push (seqObj "list" #[] 0)).update s.heap.objs.size (Obj.mapSeq (· ++ vs.toArray))).objs.size = s.heap.objs.size + 1 := by
    rw [Heap.size_update, size_push']
  have hOL : (((s.heap.push (seqObj "list" #[] 0)).update s.heap.objs.size (Obj.mapSeq (· ++ vs.toArray))).push (seqObj "list" vs.toArray 0)).get? (s.heap.objs.size + 1) = some (seqObj "list" vs.toArray 0) := by
    rw [← hSz]; exact Heap.get?_push_size _ rfl
  show wpAny _ _ _ _ _ { s with heap := ((s.heap.push (seqObj "list" #[] 0)).update s.heap.objs.size (Obj.mapSeq (· ++ vs.toArray))).push (seqObj "list" vs.toArray 0) }
  rw [hSz]
  refine wpAny_bind (wpAny_holding (wpAny_call_entry slot_list_sort ⟨_, hOL, rfl⟩ entry_list_sort (list_sort_tree hOL hI h64 fun out ns' a1 a2 a3 => ⟨_, rfl, ?_⟩) (args_list_sort _)))
  exact wpAny_pure ⟨_, rfl, h out ns' a1 a2 a3⟩
end
theorem cr_sortedTup {X : Cx} : CallR X (.builtin "sorted") (rSortedTup X.K) := by
  intro pins s σ H vs us Q I r h
  obtain ⟨a, ns, rfl, hs, h64, q⟩ := h
  obtain ⟨vz, rz, hl, _⟩ := I.tuple hs
  rw [Vals.ref1 r]
  have hi := rz.ints
  refine sorted_intsT hl hi (by rw [hi.length]; exact h64) fun out ns' h1 h2 h3 => ?_
  obtain ⟨ep, he'⟩ := PyProof.Rows.sortedAll_at s.heap vz out
  have hLn : (ns'.map V.int).length ≤ sizeLine := by rw [List.length_map, h2.length_eq]; exact small64 h64
  exact ⟨.ref _, upd H (s.heap.objs.size + 1) (.lst (ns'.map V.int)), I.laid (t' := s.toks) (fun _ _ => PyProof.Rows.sortedAll_old) (Nat.le_succ _) ⟨hLn, out.toList, ep, vals_of_ints h1, he'⟩, rfl, q ns' _ h2 h3 (I.hok.fresh (Nat.le_succ _))⟩
end RH
set_option Elab.async false
set_option linter.all false
set_option maxRecDepth 100000
set_option maxHeartbeats 2000000
/-! Lambdas with parameters and captured names, as values: made, handed to a def of the text, called there. -/
namespace RH
open PySem PySem.Spec PyProof.Rows L2
open LamX (Tabs TabS TabB ExtN CodeO codeO_ne inv_table among_app)
open NdefX (NF CellsAt NScope startF ncx inv_startN codeO_at slotAt Caps cells_of upd_none)
/-- a lambda's words, what it captured, its code object -/
structure LF where
  qual : Str
  params : Arguments
  body : Expr
  scope : Scope
  cl : List (Str × Addr)
  c : Addr
abbrev LF.fd (F : LF) (pm ctv : Value) : FuncData := PySem.W.kla_fn "<lambda>" F.qual F.params F.body F.scope F.cl pm (.ref F.c) ctv
abbrev LF.nf (F : LF) : NF := ⟨"<lambda>", F.qual, F.params, [], F.scope, F.cl, F.c⟩
/-- the object at f is this lambda -/
def FnL (f : Addr) (F : LF) : HO := .ext fun h => ∃ (od : Option Addr) (sl : Array (Option Value)) (pm ctv : Value), h.get? f = some (⟨.type "function", od, .func (F.fd pm ctv), sl⟩ : Obj)
theorem fnL_ne {f : Addr} {F : LF} (ps : Array Value) : FnL f F ≠ .tbl ps := fun z => by
  unfold FnL at z
  cases z
theorem fnL_at {P : Program} {w : World} {H : Hp} {h : Heap} {f : Addr} {F : LF} (hok : HOk P w H h) (e : H f = some (FnL f F)) : ∃ (od : Option Addr) (sl : Array (Option Value)) (pm ctv : Value), h.get? f = some (⟨.type "function", od, .func (F.fd pm ctv), sl⟩ : Obj) := (hok f _ e).1
section
variable {X : Cx} {pins : List (Addr × Obj)} {σ : L2.St} {H : Hp} {s : Shared}
theorem inv_lam {F : LF} {h' : Heap} {t' : Nat} {pm ctv : Value} (I : Inv X pins σ H { s with heap := h', toks := t' }) :
    Inv X pins σ (upd H h'.objs.size (FnL h'.objs.size F)) { s with heap := h'.push { cls := .type "function", data := .func (F.fd pm ctv) }, toks := t' } := by
  refine I.laid (t' := t') (a := h'.objs.size) (fun b u e => Heap.get?_push_of_some _ e) (Nat.le_refl _) ?_
  have e : (h'.push ({ cls := .type "function", data := .func (F.fd pm ctv) } : Obj)).get? h'.objs.size = some ({ cls := .type "function", data := .func (F.fd pm ctv) } : Obj) := Heap.get?_push_size _ rfl
  exact ⟨⟨_, _, pm, ctv, e⟩, ⟨_, e⟩, fun h1 h2 ⟨od, sl, p, t, z⟩ st => ⟨od, sl, p, t, st _ z⟩⟩
/-- the lambda is made -/
theorem lam_made {T : List (Addr × Str)} {c P : Addr} {params : Arguments} {body : Expr} {scope : Scope} {pos : Pos} {E : Value → Shared → Prop} {Q : Value → Shared → Prop} (I : Inv X pins σ H s) (TB : TabB X.base X.mg c P) (hcode : X.env.code = .ref c)
    (hm : (P, X.env.qual ++ "<lambda>") ∈ T) (hu : ∀ p ∈ T, p.1 = P → p.2 = X.env.qual ++ "<lambda>") (hT : Tabs T H) (hdef : defaultsOf params X.env = ([], [])) (hfree : ∀ y ∈ scope.names, y.2 = .free → ∃ c, X.env.cells.lookup y.1 = some c)
    (h : ∀ (f c' : Addr) (H1 : Hp) (s' : Shared), Inv X pins σ H1 s' → ExtN H H1 → (∀ b, H1 b = none → H b = none) → Tabs T H1 → H f = none →
      H1 f = some (FnL f ⟨X.env.qual ++ "<lambda>", params, body, scope, cloFrom X.env.cells scope.names [], c'⟩) → H1 c' = some (CodeO c' (X.env.qual ++ "<lambda>")) → Q (.ref f) s') :
    wpAny (model X.prog X.w) X.A (eval (.Lambda params body scope pos) X.env) Q E s := by
  obtain ⟨ps, hP, ht, ha⟩ := hT _ hm
  refine PySem.W.kla_eval hdef ?_
  have bP : s.heap.BuiltinsAt X.mg P := TB.bm.keeps I.bk
  have hP' : s.heap.get? P = some { cls := .none, data := .fields ps } := I.hok P _ hP
  cases hc : codeAmong pos ps.toList with
  | none =>
    refine PySem.W.kla_makeFunction (mg := X.mg) (c := c) (P := P) (ps := ps) (closure_ok hfree) I.ok.glob (I.mod.glob.keeps I.bk) hcode (TB.code.keeps I.bk) hP' ht hc TB.gP bP fun c' ctv h' tk hx hge hlt hrec htb => ?_
    obtain ⟨c2, oc, vs, t, e2, hoc, hd, hv⟩ := hrec
    cases e2
    have nC : H c' = none := I.hok.fresh hge
    have I1 := inv_table (t' := tk) (more := #[rawInt pos.line, rawInt pos.col, .ref c']) (h' := h') I hP (fun b o hb e => hx b o hb e) htb hge ⟨oc, vs, t, hoc, hd, hv⟩
    generalize hG : upd (upd H P (.tbl (ps ++ #[rawInt pos.line, rawInt pos.col, .ref c']))) c' (CodeO c' (X.env.qual ++ "<lambda>")) = G at I1
    have hE : ExtN H G := fun b o e n => by
      rw [← hG, upd_ne (ne_of_none e nC), upd_ne (fun z => n ps (Option.some.inj (e.symm.trans (by rw [z]; exact hP))))]
      exact e
    have gP : G P = some (.tbl (ps ++ #[rawInt pos.line, rawInt pos.col, .ref c'])) := by rw [← hG, upd_ne (ne_of_none hP nC), upd_same]
    have gC : G c' = some (CodeO c' (X.env.qual ++ "<lambda>")) := by rw [← hG, upd_same]
    have gO : ∀ b ps', b ≠ P → H b = some (.tbl ps') → G b = some (.tbl ps') := fun b ps' nb e => by
      rw [← hG, upd_ne (ne_of_none e nC), upd_ne nb]
      exact e
    have gN : ∀ b, G b = none → H b = none := fun b e => by
      rw [← hG] at e
      exact upd_none (upd_none e)
    have eL : (ps ++ #[rawInt pos.line, rawInt pos.col, .ref c']).toList = ps.toList ++ [rawInt pos.line, rawInt pos.col, .ref c'] := by simp
    have T1 : Tabs T G := fun p hp => by
      by_cases hb : p.1 = P
      · rw [hu p hp hb, hb]
        refine ⟨_, gP, by rw [eL]; exact PySem.TriplesOk_snoc _ _ _ _ ht, fun p' cv hcv => ?_⟩
        rw [eL] at hcv
        rcases among_app _ ht hcv with z | z
        · obtain ⟨c0, e1, e2⟩ := ha p' cv z
          exact ⟨c0, e1, hE _ _ e2 codeO_ne⟩
        · exact ⟨c', z, gC⟩
      · obtain ⟨ps', a1, a2, a3⟩ := hT p hp
        refine ⟨ps', gO _ _ hb a1, a2, fun p' cv hcv => ?_⟩
        obtain ⟨c0, e1, e2⟩ := a3 p' cv hcv
        exact ⟨c0, e1, hE _ _ e2 codeO_ne⟩
    have nF : G h'.objs.size = none := I1.hok.fresh (Nat.le_refl _)
    have I2 := inv_lam (F := ⟨X.env.qual ++ "<lambda>", params, body, scope, cloFrom X.env.cells scope.names [], c'⟩) (pm := (X.mg "__name__").getD .none) (ctv := ctv) I1
    refine h h'.objs.size c' _ _ I2 (fun b o e n => ?_) (fun b e => gN b (upd_none e)) (T1.ext fun b o e => ?_) (gN _ nF) upd_same ?_
    · have e1 := hE b o e n
      exact (upd_ne (ne_of_none e1 nF)).trans e1
    · exact (upd_ne (ne_of_none e nF)).trans e
    · exact (upd_ne (ne_of_none gC nF)).trans gC
  | some cv =>
    obtain ⟨c', e, hco⟩ := ha pos cv hc
    subst e
    refine PySem.W.kla_makeFunctionHit (mg := X.mg) (c := c) (P := P) (ps := ps) (closure_ok hfree) I.ok.glob (I.mod.glob.keeps I.bk) hcode (TB.code.keeps I.bk) hP' ht hc bP fun ctv h' tk hx hsz => ?_
    have I1 : Inv X pins σ H { s with heap := h', toks := tk } := I.kept hx
    have nF : H h'.objs.size = none := I1.hok.fresh (Nat.le_refl _)
    have I2 := inv_lam (F := ⟨X.env.qual ++ "<lambda>", params, body, scope, cloFrom X.env.cells scope.names [], c'⟩) (pm := (X.mg "__name__").getD .none) (ctv := ctv) I1
    refine h h'.objs.size c' _ _ I2 (fun b o e n => ?_) (fun b e => upd_none e) (hT.ext fun b o e => ?_) nF upd_same ?_
    · exact (upd_ne (ne_of_none e nF)).trans e
    · exact (upd_ne (ne_of_none e nF)).trans e
    · exact (upd_ne (ne_of_none hco nF)).trans hco
end
/-- lambda a, b: .. as a value -/
def tLamE (T : List (Addr × Str)) (mk : Addr → LF) : TE := fun _ H Q => Tabs T H ∧ ∀ (f c' : Addr) (H1 : Hp), ExtN H H1 → (∀ b, H1 b = none → H b = none) → Tabs T H1 → H f = none → H1 f = some (FnL f (mk c')) → H1 c' = some (CodeO c' (mk c').qual) → Q (.ref f) H1
theorem pe_lam {X : Cx} {T : List (Addr × Str)} {c P : Addr} {params : Arguments} {body : Expr} {scope : Scope} {pos : Pos} (TB : TabB X.base X.mg c P) (hcode : X.env.code = .ref c)
    (hm : (P, X.env.qual ++ "<lambda>") ∈ T) (hu : ∀ p ∈ T, p.1 = P → p.2 = X.env.qual ++ "<lambda>") (hdef : defaultsOf params X.env = ([], []))
    (hfree : ∀ y ∈ scope.names, y.2 = .free → X.env.scope.names.lookup y.1 = some .cell ∨ X.env.scope.names.lookup y.1 = some .free) :
    PE X (.Lambda params body scope pos) (tLamE T fun c' => ⟨X.env.qual ++ "<lambda>", params, body, scope, cloFrom X.env.cells scope.names [], c'⟩) := by
  refine ⟨fun pins s σ H Q I h => ?_⟩
  obtain ⟨hT, q⟩ := h
  refine lam_made I TB hcode hm hu hT hdef (fun y hy e => (hfree y hy e).elim (fun z => I.ok.has _ (.inl z)) fun z => I.ok.has _ (.inr z)) fun f c' H1 s' I' e n T' hf h1 h2 => ?_
  exact ⟨.ref f, H1, I', rfl, q f c' H1 e n T' hf h1 h2⟩
/-! ### what a lambda promises -/
structure LOk (P : Program) (w : World) (K : PySem.W.Frag) (mg : Str → Option Value) (base : Heap) (CX : CXT) (k : Nat) (f : Addr) (F : LF) (ps fr : List Str) (sp : List (Option V) → Sp) : Prop where
  len : ∀ ws vs H Q E, sp ws vs H Q E → vs.length = ps.length
  run : ∀ (A : Around) (outer : List Env) (s : Shared) (H : Hp) (us : List Value) (vs : List V) (ws : List (Option V)) (Q : VK) (E : XK), Room k A → Env0 P w K mg base A outer s H → H f = some (FnL f F) → H F.c = some (CodeO F.c F.qual) →
    CellsAt F.cl fr ws s.heap H → Vals vs us → sp ws vs H Q E → codeAny (model P w) A (.call (.ref f) ⟨us, []⟩) (CR CX outer P w H s Q E) s
section
variable {CX : CXT} {P : Program} {w : World} {K : PySem.W.Frag} {mg : Str → Option Value} {base : Heap} {N ps fr : List Str} {F : LF} {f : Addr} {k j : Nat} {sp : List (Option V) → Sp}
/-- a lambda by its body -/
theorem lok_of (S : NScope N ps fr F.scope) (hb : ∀ (pm ctv : Value) (us : List Value), us.length = ps.length → bindArgs (F.fd pm ctv) ⟨us, []⟩ = pure (ps.zip us)) (len : ∀ ws vs H Q E, sp ws vs H Q E → vs.length = ps.length)
    (hbody : ∀ (A : Around) (outer : List Env) (s : Shared) (H : Hp) (vs : List V) (ws : List (Option V)) (Q : VK) (E : XK), Room k (A.deeper (NdefX.envF F.nf f s.heap.objs.size)) → ws.length = fr.length → sp ws vs H Q E →
      ∃ t, PE (ncx CX P w K mg base N F.nf f A outer s H E) F.body t ∧ t (startF N vs ws) H Q) :
    LOk P w K mg base CX (k + 1) f F ps fr sp := by
  refine ⟨len, fun A outer s H us vs ws Q E hr e0 hf hc C r hsp => ?_⟩
  have hl := len _ _ _ _ _ hsp
  have lim : s.heap.NoLimit := e0.mod.nolimit.keeps fun b o e => (e0.bs b o e).1
  obtain ⟨od, sl, pm, ctv, ho⟩ := fnL_at e0.hok hf
  refine PySem.W.kla_callFunE hr.depth ho rfl S.co S.gen rfl (codeO_at e0.hok hc) ?_
  rw [hb pm ctv us (by rw [← r.length]; exact hl)]
  refine wpAny_pure (wpAny_newFunctionEnv S.nocell (fun ⟨n, _⟩ hy => S.par n (List.of_mem_zip hy).1) (fun h₁ hns hsb => ⟨lim.fresh _ hsb, ?_⟩) S.kind)
  show codeAny _ _ (.expr F.body (NdefX.envF F.nf f s.heap.objs.size)) _ _
  have kp : ∀ b o, s.heap.get? b = some o → h₁.get? b = some o := fun b o e => hsb.extBut b o (Nat.ne_of_lt (Heap.lt_size e)) (Heap.get?_push_of_some _ e)
  obtain ⟨t, ht, hq⟩ := hbody A outer s H vs ws Q E (hr.deeper _) C.len hsp
  have I : Inv (ncx CX P w K mg base N F.nf f A outer s H E) [] (startF N vs ws) H { s with heap := h₁, toks := s.toks + (ps.zip us).length } := inv_startN (F := F.nf) S hr.hd e0 hl r C hns kp
  refine PySem.W.kla_codeExpr (wpAny_mono (ht.run [] _ (startF N vs ws) H Q I hq) (fun v s' hs => ?_) fun e s' hs => hs)
  obtain ⟨v', H', J, rv, q⟩ := hs
  exact ⟨v', H', J.os, J.bare, J.base, J.hok, rv, q⟩
end
/-! ### a def that is handed things that can be called -/
end RH
set_option Elab.async false
set_option linter.all false
set_option maxRecDepth 100000
set_option maxHeartbeats 2000000
/-! Dicts with tuples for keys: one pair written out, their values; where an int stands in a tuple. -/
set_option Elab.async false
set_option linter.all false
set_option maxRecDepth 100000
set_option maxHeartbeats 2000000
/-! Tuples told by their very object, and dicts whose keys are such tuples of ints. -/
namespace RH
open PySem PySem.Spec PyProof.Rows L2
def keyOf (s : List Int) : List L2.Key := s.map Sum.inl
/-- b is a tuple of these ints -/
def KX (H : Hp) (b : Addr) (s : List Int) : Prop := Rd H b (.tup (s.map V.int))
/-- the same, and its very object is known, one without a dict -/
def FT (H : Hp) (b : Addr) (s : List Int) : Prop := ∃ ob, H b = some (.frz ob (.tup (s.map V.int))) ∧ ob.dict = none
theorem FT.kx {H : Hp} {b : Addr} {s : List Int} (h : FT H b s) : KX H b s := let ⟨ob, h, _⟩ := h; .inr ⟨ob, h⟩
inductive XS : List (List Int × V) → List Addr → List (List L2.Key × Addr × Value) → Prop
  | nil : XS [] [] []
  | cons {q : List Int × V} {b : Addr} {u : Value} {as : List (List Int × V)} {bs : List Addr} {xs : List (List L2.Key × Addr × Value)} : RelV q.2 u → XS as bs xs → XS (q :: as) (b :: bs) ((keyOf q.1, b, u) :: xs)
inductive KB (H : Hp) : List (List Int × V) → List Addr → Prop
  | nil : KB H [] []
  | cons {q : List Int × V} {b : Addr} {as : List (List Int × V)} {bs : List Addr} : KX H b q.1 → KB H as bs → KB H (q :: as) (b :: bs)
theorem KB.snoc {H : Hp} {q : List Int × V} {b : Addr} (h : KX H b q.1) : ∀ {as : List (List Int × V)} {bs : List Addr}, KB H as bs → KB H (as ++ [q]) (bs ++ [b])
  | _, _, .nil => .cons h .nil
  | _, _, .cons g t => .cons g (t.snoc h)
theorem KB.imp {H H' : Hp} (f : ∀ b s, KX H b s → KX H' b s) : ∀ {as : List (List Int × V)} {bs : List Addr}, KB H as bs → KB H' as bs
  | _, _, .nil => .nil
  | _, _, .cons g t => .cons (f _ _ g) (t.imp f)
theorem XS.len : ∀ {as : List (List Int × V)} {bs : List Addr} {xs : List (List L2.Key × Addr × Value)}, XS as bs xs → xs.length = as.length
  | _, _, _, .nil => rfl
  | _, _, _, .cons _ t => congrArg (· + 1) t.len
theorem XS.snoc {q : List Int × V} {b : Addr} {u : Value} (h : RelV q.2 u) : ∀ {as : List (List Int × V)} {bs : List Addr} {xs : List (List L2.Key × Addr × Value)}, XS as bs xs → XS (as ++ [q]) (bs ++ [b]) (xs ++ [(keyOf q.1, b, u)])
  | _, _, _, .nil => .cons h .nil
  | _, _, _, .cons g t => .cons g (t.snoc h)
/-- the dict at d: as with its values, bs its keys' tuples -/
abbrev DE (P : Program) (w : World) (as : List (List Int × V)) (bs : List Addr) (d : Addr) : HO := .ext fun h => (d == sysModules) = false ∧ as.length ≤ sizeLine ∧ ∃ xs : List (List L2.Key × Addr × Value), XS as bs xs ∧
  ∃ o es ep, h.get? d = some o ∧ o.ExactDict ∧ o.data = .dict es ep ∧ es.toList = xs.map (entryOfKey (tupleKind (mixKind P w))) ∧ (xs.map (·.1)).Nodup
theorem DE.ok {P : Program} {w : World} {H : Hp} {h : Heap} {as : List (List Int × V)} {bs : List Addr} {d : Addr} {xs : List (List L2.Key × Addr × Value)} (hd : (d == sysModules) = false) (hl : as.length ≤ sizeLine) (hx : XS as bs xs) (dd : h.DictOfH (tupleKind (mixKind P w)) d xs) : ObjOk P w H h d (DE P w as bs d) := by
  obtain ⟨o, es, ep, h1, h2, h3, h4, _, h5⟩ := dd
  refine ⟨⟨hd, hl, xs, hx, o, es, ep, h1, h2, h3, h4, h5⟩, ⟨o, h1⟩, fun h1 h2 ⟨a1, a2, xs, a3, o, es, ep, b1, b2⟩ k => ⟨a1, a2, xs, a3, o, es, ep, k _ b1, b2⟩⟩
/-! ### the rules -/
section
variable {X : Cx} {o i k v value : Expr} {pos pos' tpos : Pos} {td ty tk tv : TE}
/-- tuple(xs) of a list, told by its very object -/
def kTupF (K : PySem.W.Frag) (x : V) (H : Hp) (Q : VK) : Prop := ∃ p xs, x = .ref p ∧ SqL K H p xs ∧ ∀ q ob, H q = none → ob.dict = none → Q (.ref q) (upd H q (.frz ob (.tup xs)))
theorem pe_tupleF {a : Expr} {ta : TE} {p : Pos} (hg : Gl X "tuple") (hm : X.mg "tuple" = none) (ha : PE X a ta) (na : starEach [a] X.env = (false, eval a X.env) :: starEach [] X.env := by rfl) : PE X (.Call (.Name "tuple" p) [a] [] pos) (tThen ta (kTupF X.K)) := by
  refine ⟨fun pins s σ H Q I h => ?_⟩
  refine Call_ (ld_blt I hg hm boot_tuple (PyProof.Rows.callWith_type1 (one_arg ha I h (fun v s2 x H2 I2 r q => ?_) na) na))
  obtain ⟨p, xs, rfl, hs, q⟩ := q
  obtain rfl : v = .ref p := r
  obtain ⟨its, rv, pl, hz⟩ := I2.list hs
  refine call_tuple_list pl.isList (fun h' hk => ?_) (by rw [List.size_toArray, ← rv.length]; exact hz)
  have I3 : Inv X pins σ H2 { s2 with heap := h' } := I2.kept (t' := s2.toks) hk
  have e : (h'.push { cls := .type "tuple", data := .seq its.toArray }).get? h'.objs.size = some { cls := .type "tuple", data := .seq its.toArray } := Heap.get?_push_size _ rfl
  have I4 : Inv X pins σ (upd H2 h'.objs.size (.frz { cls := .type "tuple", data := .seq its.toArray } (.tup xs))) { s2 with heap := h'.push { cls := .type "tuple", data := .seq its.toArray } } :=
    I3.laid (t' := s2.toks) (fun b o e => Heap.get?_push_of_some _ e) (Nat.le_refl _) ⟨e, hz, its, rv, IsTup.new _ _⟩
  exact ⟨.ref h'.objs.size, _, I4, rfl, q _ _ (I3.hok.fresh (Nat.le_refl _)) rfl⟩
/-- t.index(k) -/
def tTIdxF (to te : TE) : TE := fun σ H Q => to σ H fun x H1 => ∃ (p : Addr) (ns : List Int), x = .ref p ∧ FT H1 p ns ∧ te σ H1 fun y H2 => ∃ k : Int, y = .int k ∧ FT H2 p ns ∧ k ∈ ns ∧ Q (.int (ns.idxOf k : Nat)) H2
theorem pe_tidxF {e : Expr} {to te : TE} {apos cpos : Pos} (ho : PE X o to) (he : PE X e te)
    (hbase : attributeBase o "index" X.env (eval o X.env) = eval o X.env := by rfl) (hline : (apos.endLine == cpos.line) = true := by rfl) (htrees : backTo cpos (starEach [e] X.env) = [(false, eval e X.env)] := by rfl) :
    PE X (.Call (.Attribute o "index" apos) [e] [] cpos) (tTIdxF to te) := by
  refine ⟨fun pins s σ H Q I h => ?_⟩
  refine wpAny_Call_method1_late hbase hline htrees (thn (ho.run pins s σ H _ I h) fun v s1 ⟨x, H1, I1, r1, p, ns, ex, ⟨ob, hp, hdn⟩, q1⟩ => ?_)
  subst ex
  obtain rfl : v = Value.ref p := r1
  obtain ⟨g, z, its, rv, hl⟩ := (show ObjOk X.prog X.w H1 s1.heap p (.frz ob (.tup (ns.map V.int))) from I1.hok p _ hp)
  have tI : s1.TypeIs (.ref p) "tuple" := let ⟨o, ho, hc, _⟩ := hl; ⟨o, ho, hc⟩
  refine ⟨"tuple", "tuple.index", PySem.F.plainAttrs_tuple, PySem.F.slot_tuple_index, PySem.F.type_tuple_index, tI, fun b eb => by cases eb; exact ⟨ob, g, hdn⟩, ?_⟩
  refine Calls.callWith_builtin rfl (Calls.evalArgs_plain (Calls.spliced_cons (thn (he.run pins s1 σ H1 _ I1 q1) fun iv s2 ⟨y, H2, I2, ry, k, ey, ⟨ob2, hp2, _⟩, hk, q2⟩ => Calls.spliced_nil ?_)))
  subst ey
  obtain ⟨t, rfl⟩ := (show ∃ t, iv = Value.int k t from ry)
  obtain ⟨_, _, its2, rv2, hl2⟩ := (show ObjOk X.prog X.w H2 s2.heap p (.frz ob2 (.tup (ns.map V.int))) from I2.hok p _ hp2)
  exact PySem.SeqAt.tuple_index_ints hl2 rv2.ints hk ⟨.int (ns.idxOf k : Nat), H2, I2.tok _, ⟨_, rfl⟩, q2⟩
end
end RH
set_option Elab.async false
set_option linter.all false
set_option maxRecDepth 100000
set_option maxHeartbeats 2000000
/-! Sorted lists of tuples of ints, of any length; more rules for dicts whose keys are such tuples. -/
namespace RH
open PySem PySem.Spec PyProof.Rows L2
open SrtO (Swo Srtd Stb SortableO Cmp lt2)
open TS (TupInts intsOf code Bd lex_ints firsts_of)
/-- each of xs is a tuple of the ints -/
inductive EX (H : Hp) : List V → List (List Int) → Prop
  | nil : EX H [] []
  | cons {b : Addr} {s : List Int} {xs : List V} {ls : List (List Int)} : KX H b s → EX H xs ls → EX H (.ref b :: xs) (s :: ls)
theorem EX.len {H : Hp} : ∀ {xs : List V} {ls : List (List Int)}, EX H xs ls → xs.length = ls.length
  | _, _, .nil => rfl
  | _, _, .cons _ t => congrArg (· + 1) t.len
theorem EX.imp {H H' : Hp} (f : ∀ b s, KX H b s → KX H' b s) : ∀ {xs : List V} {ls : List (List Int)}, EX H xs ls → EX H' xs ls
  | _, _, .nil => .nil
  | _, _, .cons g t => .cons (f _ _ g) (t.imp f)
theorem EX.snoc {H : Hp} {b : Addr} {s : List Int} (h : KX H b s) : ∀ {xs : List V} {ls : List (List Int)}, EX H xs ls → EX H (xs ++ [.ref b]) (ls ++ [s])
  | _, _, .nil => .cons h .nil
  | _, _, .cons g t => .cons g (t.snoc h)
theorem EX.at {H : Hp} : ∀ {xs : List V} {ls : List (List Int)} {i : Nat} {s : List Int}, EX H xs ls → ls[i]? = some s → ∃ b, xs[i]? = some (V.ref b) ∧ KX H b s
  | _, _, _, _, .nil, e => by simp at e
  | _, _, 0, _, .cons h _, e => by
    cases Option.some.inj e
    exact ⟨_, rfl, h⟩
  | _, _, i + 1, _, .cons _ t, e => t.at (i := i) e
theorem EX.of {P : Program} {w : World} {H : Hp} {h : Heap} : ∀ {out : List Value}, (∀ v ∈ out, ∃ b, v = Value.ref b ∧ KX H b (intsOf h v)) → Vals (out.map backV) out ∧ EX H (out.map backV) (out.map (intsOf h))
  | [], _ => ⟨.nil, .nil⟩
  | v :: out, hv => by
    obtain ⟨r, e⟩ := EX.of (P := P) (w := w) (H := H) (h := h) (out := out) fun u hu => hv u (List.mem_cons_of_mem _ hu)
    obtain ⟨b, rfl, k⟩ := hv v (List.mem_cons_self ..)
    exact ⟨.cons rfl r, .cons k e⟩
end RH
set_option Elab.async false
set_option linter.all false
set_option maxRecDepth 100000
set_option maxHeartbeats 2000000
namespace RH
open PySem PySem.Spec PyProof.Rows L2
open SrtO (Swo Srtd Stb SortableO Cmp lt2)
open TS (TupInts intsOf code Bd lex_ints firsts_of)
theorem KB.ex {H : Hp} : ∀ {as : List (List Int × V)} {bs : List Addr}, KB H as bs → EX H (bs.map V.ref) (as.map Prod.fst)
  | _, _, .nil => .nil
  | _, _, .cons g t => .cons g t.ex
/-! ### get, in, a new one, [..] = -/
end RH
set_option Elab.async false
set_option linter.all false
set_option maxRecDepth 100000
set_option maxHeartbeats 2000000
/-! Lambdas that a def hands back: the cells that they caught are tracked from then on. -/
namespace RH
open PySem PySem.Spec PyProof.Rows L2
open LamX (Tabs TabS TabB ExtN CodeO codeO_ne)
open NdefX (NF CellsAt NScope startF ncx codeO_at slotAt Caps cells_of)
/-- the cell at c holds v -/
def CellO (c : Addr) (v : V) : HO := .ext fun h => ∃ u, L2.RelV v u ∧ h.IsCell c (some u)
theorem cellO_ne {c : Addr} {v : V} : (∀ y, CellO c v ≠ .own y) ∧ (∀ xs, CellO c v ≠ .tup xs) ∧ (∀ o u, CellO c v ≠ .frz o u) ∧ (∀ ps, CellO c v ≠ .tbl ps) := by
  unfold CellO
  exact ⟨fun _ z => (nomatch z), fun _ z => (nomatch z), fun _ _ z => (nomatch z), fun _ z => (nomatch z)⟩
theorem cellO_ok {P : Program} {w : World} {H : Hp} {h : Heap} {c : Addr} {v : V} (q : ∃ u, L2.RelV v u ∧ h.IsCell c (some u)) : ObjOk P w H h c (CellO c v) :=
  ⟨q, let ⟨_, _, o, e, _⟩ := q; ⟨o, e⟩, fun _ _ ⟨u, r, o, e, d⟩ st => ⟨u, r, o, st o e, d⟩⟩
abbrev CL := List (Addr × V)
/-- without the cells, with them -/
def era (l : CL) (H : Hp) : Hp := fun b => match l.lookup b with
  | some _ => none
  | none => H b
def lay (l : CL) (H : Hp) : Hp := fun b => match l.lookup b with
  | some v => some (CellO b v)
  | none => H b
theorem era_in {l : CL} {H : Hp} {b : Addr} {v : V} (e : l.lookup b = some v) : era l H b = none := by
  unfold era
  rw [e]
theorem era_no {l : CL} {H : Hp} {b : Addr} (e : l.lookup b = none) : era l H b = H b := by
  unfold era
  rw [e]
theorem lay_in {l : CL} {H : Hp} {b : Addr} {v : V} (e : l.lookup b = some v) : lay l H b = some (CellO b v) := by
  unfold lay
  rw [e]
theorem lay_no {l : CL} {H : Hp} {b : Addr} (e : l.lookup b = none) : lay l H b = H b := by
  unfold lay
  rw [e]
/-- the cells stand -/
def Stand (l : CL) (H : Hp) : Prop := ∀ b v, l.lookup b = some v → H b = some (CellO b v)
theorem Stand.ext {l : CL} {H H' : Hp} (s : Stand l H) (e : ExtN H H') : Stand l H' := fun b v q => e b _ (s b v q) cellO_ne.2.2.2
theorem Stand.same {l : CL} {H H' : Hp} (s : Stand l H) (e : Same H H') : Stand l H' := fun b v q => e b _ (s b v q)
theorem Stand.lay (l : CL) (H : Hp) : Stand l (lay l H) := fun _ _ q => lay_in q
theorem Stand.cases {l : CL} {H : Hp} (s : Stand l H) {b : Addr} {o : HO} (e : H b = some o) : (∃ v, l.lookup b = some v ∧ o = CellO b v) ∨ (l.lookup b = none ∧ era l H b = some o) := by
  cases q : l.lookup b with
  | some v => exact .inl ⟨v, rfl, Option.some.inj (e.symm.trans (s b v q))⟩
  | none => exact .inr ⟨rfl, (era_no q).trans e⟩
theorem Stand.tup {l : CL} {H : Hp} (s : Stand l H) {b : Addr} {xs : List V} (e : H b = some (.tup xs)) : era l H b = some (.tup xs) := by
  rcases s.cases e with ⟨v, _, z⟩ | ⟨_, z⟩
  · exact absurd z.symm (cellO_ne.2.1 xs)
  · exact z
theorem Stand.frz {l : CL} {H : Hp} (s : Stand l H) {b : Addr} {o : Obj} {u : HO} (e : H b = some (.frz o u)) : era l H b = some (.frz o u) := by
  rcases s.cases e with ⟨v, _, z⟩ | ⟨_, z⟩
  · exact absurd z.symm (cellO_ne.2.2.1 o u)
  · exact z
theorem Stand.rd {l : CL} {H : Hp} (s : Stand l H) {b : Addr} {xs : List V} (e : Rd H b (.tup xs)) : Rd (era l H) b (.tup xs) := by
  rcases e with e | ⟨o, e⟩
  · exact .inl (s.tup e)
  · exact .inr ⟨o, s.frz e⟩
/-- the heap with the cells goes on as the one without them does -/
theorem Stand.on {l : CL} {H H2 : Hp} (s : Stand l H) (e : Same (era l H) H2) : Same H (RH.lay l H2) := fun b o q => by
  rcases s.cases q with ⟨v, z, rfl⟩ | ⟨z, y⟩
  · exact lay_in z
  · exact (lay_no z).trans (e b o y)
theorem Stand.hok {P : Program} {w : World} {l : CL} {H : Hp} {h : Heap} (s : Stand l H) (k : HOk P w H h) : HOk P w (era l H) h := fun a o e => by
  cases q : l.lookup a with
  | some v =>
    rw [era_in q] at e
    cases e
  | none =>
    rw [era_no q] at e
    refine (k a o e).stay (fun _ _ _ z => z) (fun b z => ?_) fun b xs z => s.tup z
    rcases s.cases z with ⟨v, _, y⟩ | ⟨_, y⟩
    · exact absurd y.symm (cellO_ne.1 a)
    · exact y
/-- what a lambda caught, and where -/
structure Cap (F : LF) (fr : List Str) (ws : List V) (l : CL) : Prop where
  len : ws.length = fr.length
  all : ∀ y c, F.cl.lookup y = some c → ∃ v, l.lookup c = some v
  inj : ∀ x y c, F.cl.lookup x = some c → F.cl.lookup y = some c → x = y
  has : ∀ (i : Nat) (y : Str), fr[i]? = some y → ∃ c, F.cl.lookup y = some c ∧ ∀ v, ws[i]? = some v → l.lookup c = some v
/-- the lambda at f stands, with its code and its cells -/
structure LiveK (f : Addr) (F : LF) (l : CL) (H : Hp) : Prop where
  fn : H f = some (FnL f F)
  code : H F.c = some (CodeO F.c F.qual)
  st : Stand l H
theorem LiveK.same {f : Addr} {F : LF} {l : CL} {H H' : Hp} (k : LiveK f F l H) (e : Same H H') : LiveK f F l H' := ⟨e _ _ k.fn, e _ _ k.code, k.st.same e⟩
theorem LiveK.ext {f : Addr} {F : LF} {l : CL} {H H' : Hp} (k : LiveK f F l H) (e : ExtN H H') : LiveK f F l H' := ⟨e _ _ k.fn (fun ps => fnL_ne ps), e _ _ k.code (fun ps => codeO_ne ps), k.st.ext e⟩
section
variable {CX : CXT} {P : Program} {w : World} {K : PySem.W.Frag} {mg : Str → Option Value} {base : Heap} {ps fr : List Str} {k : Nat} {f : Addr} {F : LF} {ws : List V} {l : CL} {outer : List Env} {s : Shared} {H : Hp}
theorem LiveK.nofn {h : Heap} (L : LiveK f F l H) (hok : HOk P w H h) : l.lookup f = none ∧ l.lookup F.c = none := by
  constructor
  · cases q : l.lookup f with
    | none => rfl
    | some v =>
      exfalso
      obtain ⟨od, sl, pm, ctv, ho⟩ := fnL_at hok L.fn
      obtain ⟨⟨u, _, o, e, d⟩, _⟩ := hok f _ (L.st f v q)
      rw [ho] at e
      cases e
      cases d
  · cases q : l.lookup F.c with
    | none => rfl
    | some v =>
      exfalso
      obtain ⟨c, oc, vs, t, e0, h1, h2, _⟩ := codeO_at hok L.code
      cases e0
      obtain ⟨⟨u, _, o, e, d⟩, _⟩ := hok F.c _ (L.st F.c v q)
      rw [h1] at e
      cases e
      rw [h2] at d
      cases d
end
/-! ### a body that ends with a return, its names kept -/
structure PSR (X : Cx) (st : List Stmt) (tr : (V → L2.St → Hp → Prop) → L2.St → Hp → Prop) : Prop where
  run : ∀ (pins : List (Addr × Obj)) (s : Shared) (σ : L2.St) (H : Hp) (R : V → L2.St → Hp → Prop), Inv X pins σ H s → tr R σ H → wpAny (model X.prog X.w) X.A (execs st X.env) (fun fl s' => ∃ u v σ' H', fl = .ret u ∧ Inv X pins σ' H' s' ∧ L2.RelV v u ∧ R v σ' H') X.xe s
theorem psr_ret {X : Cx} {e : Expr} {te : TE} {pos : Pos} (he : PE X e te) : PSR X [.Return (some e) pos] (fun R σ H => te σ H fun v H1 => R v σ H1) := by
  refine ⟨fun pins s σ H R I h => ?_⟩
  refine wpAny_execs_cons (wpAny_Return_some (thn (he.run pins s σ H (fun v H1 => R v σ H1) I h) fun v s1 ⟨x, H1, I1, r1, q1⟩ => ?_))
  exact ⟨v, x, σ, H1, rfl, I1, r1, q1⟩
theorem psr_cons {X : Cx} {st : Stmt} {rest : List Stmt} {t : TS} {tr : (V → L2.St → Hp → Prop) → L2.St → Hp → Prop} (h1 : PS X st t) (h2 : PSR X rest tr) : PSR X (st :: rest) (fun R σ H => t { nx := fun σ' H' => tr R σ' H', rt := fun _ _ => False, bk := fun _ _ => False, ct := fun _ _ => False } σ H) := by
  refine ⟨fun pins s σ H R I h => ?_⟩
  refine wpAny_execs_cons (thn (h1.run pins s σ H _ I h) fun f s1 q => ?_)
  cases f with
  | next =>
    obtain ⟨σ', H', I', q⟩ := q
    exact h2.run pins s1 σ' H' R I' q
  | ret v =>
    obtain ⟨_, _, _, _, _, z⟩ := q
    exact z.elim
  | brk =>
    obtain ⟨_, _, _, z⟩ := q
    exact z.elim
  | cont =>
    obtain ⟨_, _, _, z⟩ := q
    exact z.elim
section
variable {P : Program} {w : World} {K : PySem.W.Frag} {mg : Str → Option Value} {base : Heap}
/-- a def whose end is told with its names and its frame -/
theorem fnR_of {k : Nat} {f : Addr} {name qual : Str} {params : Arguments} {body : List Stmt} {scope : Scope} {dV kV doc pm cdv ct oc : Value} {an od : Option Addr}
    {osl : Array (Option Value)} {N ps : List Str} {sp : Sp} (lk : K.lookup f = some ⟨oc, od, .func (PySem.W.fnOf name qual params body scope dV kV doc pm an cdv ct), osl⟩) (hcd : PySem.W.codeIn K cdv qual = true) (S : FnScope N ps scope)
    (len : ∀ vs H Q E, sp vs H Q E → vs.length = ps.length)
    (hbody : ∀ (A : Around) (outer : List Env) (s : Shared) (H : Hp) (vs : List V) (Q : VK) (E : XK), Room k (A.deeper (envOfC qual scope s.heap.objs.size f cdv)) → sp vs H Q E →
      ∃ (R : V → L2.St → Hp → Prop) (tr : (V → L2.St → Hp → Prop) → L2.St → Hp → Prop), PSR (cxOf CX0 P w K mg base N qual scope f cdv A outer s H E) body tr ∧ tr R (start N vs) H ∧
        ∀ (s' : Shared) (σ' : L2.St) (H' : Hp) (v : V) (u : Value), Inv (cxOf CX0 P w K mg base N qual scope f cdv A outer s H E) [] σ' H' s' → L2.RelV v u → R v σ' H' → CE outer P w H s Q u s') :
    FnOk P w K mg base CX0 (k + 1) f (PySem.W.fnOf name qual params body scope dV kV doc pm an cdv ct) ps sp := by
  refine ⟨len, fun A outer s H args us vs Q E hr e0 hb r hsp => ?_⟩
  have hl := len _ _ _ _ hsp
  have KX : K.In s.heap := e0.mod.kin.keeps fun b o e => (e0.bs b o e).1
  have lim : s.heap.NoLimit := e0.mod.nolimit.keeps fun b o e => (e0.bs b o e).1
  have hkind : ∀ y ∈ ps.zip us, scope.names.lookup y.1 = some .local ∨ (scope.names.lookup y.1 = some .cell ∧ ((cellsFrom (s.heap.objs.size + 1) scope.names []).lookup y.1).isSome = true) := fun ⟨n, v⟩ hy => by
    rcases S.par n (List.of_mem_zip hy).1 with q | q
    · exact .inl q
    · exact .inr ⟨q, PySem.W.cellsFrom_some _ _ _ (.inl q)⟩
  refine codeAny_call_function hr.depth (KX _ _ lk) rfl S.co S.gen rfl (PySem.W.codeRec_of KX hcd) (hb _ _ _ _ ?_)
  refine wpAny_newFunctionEnv_cells S.kind hkind fun env he s1 x => ?_
  subst he
  refine ⟨lim.keeps x.toInCall.keep, codeAny_func ?_⟩
  obtain ⟨R, tr, ht, hq, fin⟩ := hbody A outer s H vs Q E (hr.deeper _) hsp
  have I : Inv (cxOf CX0 P w K mg base N qual scope f cdv A outer s H E) [] (start N vs) H s1 := inv_start S hr.hd e0 hl r x
  refine wpAny_mono (ht.run [] s1 (start N vs) H R I hq) (fun fl s' hs => ?_) fun e s' hs => hs
  obtain ⟨u, v, σ', H', rfl, J, rv, q⟩ := hs
  exact fin s' σ' H' v u J rv q
/-- the end of a def that hands back lambdas: its cells are laid -/
theorem ce_lay {X : Cx} {pins : List (Addr × Obj)} {σ : L2.St} {H' : Hp} {s' : Shared} {v : V} {u : Value} {Q : VK} {l : CL} (hf : ∀ x, X.fn x = true) (J : Inv X pins σ H' s') (hx : X.ex = []) (hfs : X.fs = frs X.outer)
    (hl : ∀ b y, l.lookup b = some y → ∃ (x : Str) (i : Nat), X.env.cells.lookup x = some b ∧ X.N[i]? = some x ∧ σ[i]? = some (some y) ∧ X.env.scope.names.lookup x = some .cell)
    (rv : L2.RelV v u) (q : Q v (lay l H')) : CE X.outer X.prog X.w X.H_0 X.s_0 Q u s' := by
  have cell : ∀ b y, l.lookup b = some y → (∃ u, L2.RelV y u ∧ s'.heap.IsCell b (some u)) ∧ X.s_0.heap.objs.size ≤ b ∧ H' b = none := fun b y e => by
    obtain ⟨x, i, h1, h2, h3, h4⟩ := hl b y e
    refine ⟨?_, J.ok.cab x b (hf x) h1, J.freeC x b h1⟩
    obtain ⟨m, _, hm⟩ := J.loc
    obtain ⟨u, r, lk⟩ := hm i x y h2 h3 (.inr (.inl h4))
    rcases lk with ⟨z, _⟩ | ⟨_, a', ha', hc⟩
    · have z' : X.env.scope.names.lookup x = some .local := z
      rw [h4] at z'
      cases z'
    · rw [h1] at ha'
      cases ha'
      exact ⟨u, r, hc⟩
  have low : ∀ b o, X.s_0.heap.get? b = some o → l.lookup b = none := fun b o e => by
    cases q : l.lookup b with
    | none => rfl
    | some y => exact absurd (Nat.lt_of_lt_of_le (Heap.lt_size e) (cell b y q).2.1) (Nat.lt_irrefl _)
  have up : ∀ b o, H' b = some o → lay l H' b = some o := fun b o e => by
    cases q : l.lookup b with
    | none => exact (lay_no q).trans e
    | some y =>
      rw [(cell b y q).2.2] at e
      cases e
  have U := J.base
  rw [hx, hfs] at U
  refine ⟨v, lay l H', J.os, J.bare, ⟨U.keep, U.slot, fun b o e n x => (lay_no (low b o e)).trans (U.free b o e n x), U.there, fun b xs e => up _ _ (U.tups b xs e), fun b o w e => up _ _ (U.frzs b o w e), fun b ps e => ?_⟩, fun a o e => ?_, rv, q⟩
  · obtain ⟨more, z⟩ := U.tbls b ps e
    exact ⟨more, up _ _ z⟩
  · cases q : l.lookup a with
    | some y =>
      rw [lay_in q] at e
      cases e
      exact cellO_ok (cell a y q).1
    | none =>
      rw [lay_no q] at e
      exact (J.hok a o e).stay (fun _ _ _ z => z) (fun b z => up _ _ z) fun b xs z => up _ _ z
end
end RH
set_option Elab.async false
set_option linter.all false
set_option maxRecDepth 100000
set_option maxHeartbeats 2000000
/-! A walk over zip of a tuple and a list. -/
set_option Elab.async false
set_option linter.all false
set_option maxRecDepth 100000
set_option maxHeartbeats 2000000
/-! Defs and methods that may raise, lambdas handed back that are called without arguments and may raise, what an except suite asks of its error. -/
namespace RH
open PySem PySem.Spec PyProof.Rows L2
open LamX (Tabs TabS TabB ExtN CodeO codeO_ne)
open NdefX (NF CellsAt NScope startF ncx codeO_at slotAt Caps cells_of)
section
variable {P : Program} {w : World} {K : PySem.W.Frag} {mg : Str → Option Value} {base : Heap}
/-- a method that errors may leave -/
structure MetX (P : Program) (w : World) (K : PySem.W.Frag) (mg : Str → Option Value) (base : Heap) (k : Nat) (C : Addr) (m : Str) (sp : Sp) : Prop where
  ex : ∃ (f : Addr) (fd : FuncData) (ps : List Str), FnOk P w K mg base (L2.CX P w) k f fd ps sp ∧ Meth K C m f ∧ Binds K fd ps []
end
section
variable {X : Cx} {C : Addr} {m : Str} {sp : Sp} {E : XK} {k j : Nat} {pos apos : Pos} {e o : Expr} {es : List Expr} {ta : TE} {t : TA}
theorem pmX {pl : Sem Bool} (M : MetX X.prog X.w X.K X.mg X.base k C m sp) (c : Cls X.K C) (hx : Passes (L2.CX X.prog X.w) X E) (hr : Room j X.A) (he : PE X o ta) (ha : PA X (e :: es) t) (hk : k ≤ j := by decide)
    (hst : starEach (e :: es) X.env = (false, eval e X.env) :: starEach es X.env := by rfl) (hpl : (backTo pos (starEach es X.env)).any (·.1) = false := by rfl)
    (ht : eval (.Call (.Attribute o m apos) (e :: es) [] pos) X.env = (do
      let ov ← eval o X.env
      standAt apos.atName
      let (f, first) ← holding [ov] (getMethod ov m pl)
      callWith pos f first (backTo pos (starEach (e :: es) X.env)) (backToKw pos (keywordEach [] X.env))) := by rfl) :
    PE X (.Call (.Attribute o m apos) (e :: es) [] pos) (tMeth C m sp [] E ta t) := by
  obtain ⟨f, fd, ps, F, hm, b⟩ := M.ex
  exact pe_meth he c hm F (hr.mono hk) b .nil hx ha hst hpl ht
end
/-! ### a lambda that was handed back, called without arguments -/
section
variable {X : Cx} {f : Addr} {F : LF} {fr : List Str} {ws : List V} {l : CL} {k : Nat} {sp : List (Option V) → Sp}
def Gone (l : CL) (H : Hp) : Prop := ∀ b y, l.lookup b = some y → H b = none
theorem kept_run (Fn : LOk X.prog X.w X.K X.mg X.base (L2.CX X.prog X.w) k f F [] fr sp) (C : Cap F fr ws l) (hr : Room k X.A) {pins : List (Addr × Obj)} {σ : L2.St} {H' : Hp} {s' : Shared} {Q : VK} {E : XK} (I : Inv X pins σ H' s') (L : LiveK f F l H') (hx : PassesAt (L2.CX X.prog X.w) X σ E)
    (q : sp (ws.map some) [] (era l H') (fun v H2 => Gone l H2 → Q v (lay l H2)) (fun cls d H2 => Gone l H2 → E cls d (lay l H2))) : wpAny (model X.prog X.w) X.A (call (.ref f) []) (EP X pins σ Q) X.xe s' := by
  obtain ⟨nf, nc⟩ := L.nofn I.hok
  have E0 := I.env0
  have cell : ∀ c v, l.lookup c = some v → ∃ u, L2.RelV v u ∧ s'.heap.IsCell c (some u) := fun c v e => (I.hok c _ (L.st c v e)).1
  have nfr : ∀ c v, l.lookup c = some v → c ∉ frs X.stack := fun c v e z => by
    have := E0.frf c z
    rw [L.st c v e] at this
    cases this
  have Ee : Env0 X.prog X.w X.K X.mg X.base X.A X.stack s' (era l H') := by
    refine ⟨E0.frames, E0.mod, fun b o e => ⟨(E0.bs b o e).1, ?_⟩, E0.bsz, E0.funs, fun b hb => ?_, L.st.hok E0.hok, E0.bare⟩
    · cases q : l.lookup b with
      | some v => exact era_in q
      | none => exact (era_no q).trans (E0.bs b o e).2
    · cases q : l.lookup b with
      | some v => exact era_in q
      | none => exact (era_no q).trans (E0.frf b hb)
  have Ce : CellsAt F.cl fr (ws.map some) s'.heap (era l H') := by
    refine ⟨by rw [List.length_map]; exact C.len, fun y c e => ?_, C.inj, fun i y e => ?_⟩
    · obtain ⟨v, hv⟩ := C.all y c e
      obtain ⟨u, _, z⟩ := cell c v hv
      exact ⟨era_in hv, _, z⟩
    · obtain ⟨c, hc, hv⟩ := C.has i y e
      refine ⟨c, hc, fun v ev => ?_⟩
      rw [List.getElem?_map] at ev
      cases ew : ws[i]? with
      | none =>
        rw [ew] at ev
        cases ev
      | some v' =>
        rw [ew] at ev
        have : v' = v := Option.some.inj (Option.some.inj ev)
        subst this
        exact cell c _ (hv _ ew)
  have fwd : ∀ b, H' b = none → l.lookup b = none := fun b e => by
    cases q : l.lookup b with
    | none => rfl
    | some v =>
      rw [L.st b v q] at e
      cases e
  refine wpAny_call (codeAny_mono (Fn.run X.A X.stack s' (era l H') [] [] (ws.map some) _ _ hr Ee ((era_no nf).trans L.fn) ((era_no nc).trans L.code) Ce .nil q) fun r s'' hq => ?_)
  cases r with
  | error e =>
    obtain ⟨a, B, H2, cls, d, rfl, fl, hok, un, na, os, ag, hE⟩ := hq
    have gone : Gone l H2 := fun c v e => by
      obtain ⟨u, _, o, z, _⟩ := cell c v e
      exact un.free c o z (era_in e)
    have inB : ∀ c v, l.lookup c = some v → ∃ u, L2.RelV v u ∧ B.IsCell c (some u) := fun c v e => by
      obtain ⟨u, ru, o, z, d⟩ := cell c v e
      exact ⟨u, ru, o, un.keep c o z (era_in e) (nfr c v e), d⟩
    have nal : l.lookup a = none := by
      cases q : l.lookup a with
      | none => rfl
      | some v =>
        obtain ⟨u, _, o, z, _⟩ := inB a v q
        have := fl.2.1
        rw [z] at this
        cases this
    refine hx pins H' s' (.ref a) s'' I ⟨a, B, lay l H2, cls, d, rfl, fl, fun b o e => ?_, ?_, (lay_no nal).trans na, os, ag, hE gone⟩
    · cases q : l.lookup b with
      | some v =>
        rw [lay_in q] at e
        cases e
        exact cellO_ok (inB b v q)
      | none =>
        rw [lay_no q] at e
        refine (hok b o e).stay (fun _ _ _ z => z) (fun b z => ?_) fun b xs z => ?_
        · cases q2 : l.lookup b with
          | none => exact (lay_no q2).trans z
          | some v =>
            rw [gone b v q2] at z
            cases z
        · cases q2 : l.lookup b with
          | none => exact (lay_no q2).trans z
          | some v =>
            rw [gone b v q2] at z
            cases z
    · refine ⟨fun b o e n => un.keep b o e ((era_no (fwd b n)).trans n), un.slot, fun b o e n => (lay_no (fwd b n)).trans (un.free b o e ((era_no (fwd b n)).trans n)), un.there, fun b xs e => ?_, fun b o u e => ?_, fun b ps e => ?_⟩
      · rcases L.st.cases e with ⟨v, _, z⟩ | ⟨n, z⟩
        · exact absurd z.symm (cellO_ne.2.1 xs)
        · exact (lay_no n).trans (un.tups b xs z)
      · rcases L.st.cases e with ⟨v, _, z⟩ | ⟨n, z⟩
        · exact absurd z.symm (cellO_ne.2.2.1 o u)
        · exact (lay_no n).trans (un.frzs b o u z)
      · rcases L.st.cases e with ⟨v, _, z⟩ | ⟨n, z⟩
        · exact absurd z.symm (cellO_ne.2.2.2 ps)
        · obtain ⟨more, y⟩ := un.tbls b ps z
          exact ⟨more, (lay_no n).trans y⟩
  | ok fl =>
    cases fl with
    | ret u =>
      obtain ⟨v, H2, os, bare, un, hok, rv, hQ⟩ := hq
      have gone : Gone l H2 := fun c v e => by
        obtain ⟨u, _, o, z, _⟩ := cell c v e
        exact un.free c o z (era_in e) (by simp)
      refine I.after ⟨v, lay l H2, os, bare, ?_, ?_, rv, hQ gone⟩
      · refine ⟨fun b o e n => un.keep b o e ((era_no (fwd b n)).trans n), fun b o e n => un.slot b o e ((era_no (fwd b n)).trans n), fun b o e n x => (lay_no (fwd b n)).trans (un.free b o e ((era_no (fwd b n)).trans n) x), un.there, fun b xs e => ?_, fun b o u e => ?_, fun b ps e => ?_⟩
        · rcases L.st.cases e with ⟨v, _, z⟩ | ⟨n, z⟩
          · exact absurd z.symm (cellO_ne.2.1 xs)
          · exact (lay_no n).trans (un.tups b xs z)
        · rcases L.st.cases e with ⟨v, _, z⟩ | ⟨n, z⟩
          · exact absurd z.symm (cellO_ne.2.2.1 o u)
          · exact (lay_no n).trans (un.frzs b o u z)
        · rcases L.st.cases e with ⟨v, _, z⟩ | ⟨n, z⟩
          · exact absurd z.symm (cellO_ne.2.2.2 ps)
          · obtain ⟨more, y⟩ := un.tbls b ps z
            exact ⟨more, (lay_no n).trans y⟩
      · intro a o e
        cases q : l.lookup a with
        | some v =>
          rw [lay_in q] at e
          cases e
          obtain ⟨u, ru, ob, z, d⟩ := cell a v q
          exact cellO_ok ⟨u, ru, ob, un.keep a ob z (era_in q) (nfr a v q) (by simp), d⟩
        | none =>
          rw [lay_no q] at e
          refine (hok a o e).stay (fun _ _ _ z => z) (fun b z => ?_) fun b xs z => ?_
          · cases q2 : l.lookup b with
            | none => exact (lay_no q2).trans z
            | some v =>
              rw [gone b v q2] at z
              cases z
          · cases q2 : l.lookup b with
            | none => exact (lay_no q2).trans z
            | some v =>
              rw [gone b v q2] at z
              cases z
    | next => exact False.elim hq
    | brk => exact False.elim hq
    | cont => exact False.elim hq
end
/-- what is known of a lambda without parameters that may be called -/
structure Ready (P : Program) (w : World) (K : PySem.W.Frag) (mg : Str → Option Value) (base : Heap) (k : Nat) (f : Addr) (H : Hp) (ok : (Hp → VK → XK → Prop)) : Prop where
  ex : ∃ (F : LF) (fr : List Str) (ws : List V) (l : CL) (sp : List (Option V) → Sp), LOk P w K mg base (L2.CX P w) k f F [] fr sp ∧ Cap F fr ws l ∧ LiveK f F l H ∧
    ∀ Q E, ok H Q E → sp (ws.map some) [] (era l H) (fun v H2 => Gone l H2 → Q v (lay l H2)) (fun cls d H2 => Gone l H2 → E cls d (lay l H2))
/-- f(), f a name that holds such a lambda -/
def tCall0K (P : Program) (w : World) (K : PySem.W.Frag) (mg : Str → Option Value) (base : Heap) (k i : Nat) (E : L2.St → XK) : TE := fun σ H Q => ∃ (f : Addr) (ok : Hp → VK → XK → Prop), σ[i]? = some (some (.ref f)) ∧ Ready P w K mg base k f H ok ∧ ok H Q (E σ)
theorem pe_call0K {X : Cx} {i j k : Nat} {x : Str} {E : L2.St → XK} {p pos : Pos} (hr : Room j X.A) (hk : k ≤ j) (hx : ∀ σ, PassesAt (L2.CX X.prog X.w) X σ (E σ)) (hN : X.N[i]? = some x) (hv : Vis X.env.scope x)
    (hd : (x == ("__debug__" : Str)) = false := by decide) (hcd : (x == ("__classdict__" : Str)) = false := by decide) : PE X (.Call (.Name x p) [] [] pos) (tCall0K X.prog X.w X.K X.mg X.base k i E) := by
  refine ⟨fun pins s σ H Q I h => ?_⟩
  obtain ⟨f, ok, hs, ⟨F, fr, ws, l, sp, Fn, C, L, hok⟩, q⟩ := h
  refine wpAny_Call_Name_kw (thn ((pe_var (pos := p) hN hv hd hcd).run pins s σ H (fun v H1 => v = .ref f ∧ H1 = H) I ⟨.ref f, hs, rfl, rfl⟩) fun u s1 ⟨v, H1, I1, r1, q1⟩ => ?_)
  obtain ⟨ev, eH⟩ := q1
  subst ev
  rw [eH] at I1
  obtain rfl : u = Value.ref f := r1
  obtain ⟨od, sl, pm, ctv, ho⟩ := fnL_at I1.hok L.fn
  refine PySem.W.callWith_F0 (first := []) ⟨_, od, _, sl, ho⟩ ?_
  exact kept_run Fn C (hr.mono hk) I1 L (hx σ) (hok _ _ q)
/-! ### what an except suite asks of its error -/
/-- isinstance(e, C) -/
def rIsX (K : PySem.W.Frag) (cls : Value) (d : Option Addr) (a : Addr) : List V → Hp → VK → Prop := fun xs H Q => ∃ (D c : Addr) (b : Bool), cls = .ref D ∧ d = none ∧ ExcC K D ∧ xs = [.ref a, .ref c] ∧ PySem.W.kitOne K (.ref D) (.ref c) = some b ∧ Q (.bl b) H
theorem call_isX {X : Cx} {a : Addr} {oe : Obj} {cls : Value} {d : Option Addr} {pn : List (Addr × Obj)} (hz : Zc cls d oe) (hf : ∃ vs, oe.data = .fields vs) : CallR (X.suite a ((a, oe) :: pn)) (.builtin "isinstance") (rIsX X.K cls d a) := by
  intro pins s σ H xs us Q I r h
  obtain ⟨D, c, b, rfl, rfl, C, rfl, e, q⟩ := h
  exact call_isE C hz hf pins s σ H _ us Q I r ⟨.ref c, .ref c, b, rfl, fun u hu => hu, e, q⟩
/-! ### list.count of flat things -/
def rCntF (K : PySem.W.Frag) : V → List V → Hp → VK → Prop := fun x xs H Q => ∃ (a : Addr) (ys : List V) (y : V), x = V.ref a ∧ xs = [y] ∧ SqL K H a ys ∧ flatV y = true ∧ ys.all flatV = true ∧ Q (.int ((ys.countP fun z => eqV z y : Nat) : Int)) H
theorem mt_countF {X : Cx} : MtR X "list.count" (rCntF X.K) := by
  intro pins s σ H x xs v us Q I rx rxs h
  obtain ⟨a, ys, y, rfl, rfl, hs, fy, fys, q⟩ := h
  cases rx
  cases rxs with
  | cons ry rt =>
    rename_i uy ut
    cases rt
    obtain ⟨its, rv, ⟨⟨cls, dd, data, sl⟩, n, ho, hc, hdn, hd⟩, hlen⟩ := I.list hs
    simp only at hc hd
    subst hc hd
    refine call_meets PySem.F.slot_list_count ⟨_, ho, rfl⟩ PySem.F.entry_list_count (PySem.F.args_list_count_2 _ _)
      (SeqAt.list_countAt a its.toArray n dd sl uy (eqU y)) ⟨ho, fun u' hu' => mem_eqAt ry fy rv fys u' (by simpa using hu'), ?_⟩
    have cnt : ∀ {zs : List V} {us : List Value}, Vals zs us → zs.all flatV = true → us.countP (eqU y) = zs.countP fun z => eqV z y := by
      intro zs us r
      induction r with
      | nil => exact fun _ => rfl
      | cons r _ ih =>
        intro f
        rw [List.all_cons, Bool.and_eq_true] at f
        rw [List.countP_cons, List.countP_cons, ih f.2, eqU_of r f.1]
    refine ⟨.int ((ys.countP fun z => eqV z y : Nat) : Int), H, I.tok _, ⟨s.toks, ?_⟩, q⟩
    show Value.int ((its.toArray.toList.countP (eqU y) : Nat) : Int) s.toks = _
    have e := cnt rv fys
    rw [show its.toArray.toList = its from by simp, e]
/-- an expression that is never come to -/
theorem pe_no {X : Cx} {e : Expr} : PE X e (fun _ _ _ => False) := ⟨fun _ _ _ _ _ _ h => h.elim⟩
/-- what leaves a def that may raise -/
theorem passE {P : Program} {w : World} {K : PySem.W.Frag} {mg : Str → Option Value} {base : Heap} {N : List Str} {qual : Str} {scope : Scope} {f : Addr} {cd : Value} {A : Around} {outer : List Env} {s : Shared} {H : Hp} {E : XK} :
    Passes (L2.CX P w) (cxOf (L2.CX P w) P w K mg base N qual scope f cd A outer s H E) E := passes_call (W := fun cls d _ H => E cls d H) (takes_of rfl rfl rfl rfl) (fun _ _ _ _ h => h)
theorem takesE {P : Program} {w : World} {K : PySem.W.Frag} {mg : Str → Option Value} {base : Heap} {N : List Str} {qual : Str} {scope : Scope} {f : Addr} {cd : Value} {A : Around} {outer : List Env} {s : Shared} {H : Hp} {E : XK} :
    Takes (cxOf (L2.CX P w) P w K mg base N qual scope f cd A outer s H E) (fun cls d _ H => E cls d H) := takes_of rfl rfl rfl rfl
end RH
set_option Elab.async false
set_option linter.all false
set_option maxRecDepth 100000
set_option maxHeartbeats 2000000
namespace RH
open PySem PySem.Spec PyProof.Rows L2
def topS (i : Nat) : Stmt := PySem.Challenge.pw_restlesshelf_k20_whole_benches.main.body.getD i (.Pass ⟨0, 0, 0, 0⟩)
abbrev st_is_integer : Stmt := topS 10
theorem sc_is_integer : FnScope ["value"] ["value"] (defScope st_is_integer) :=
  ⟨rfl, rfl, rfl, by decide +kernel, rfl, by decide +kernel, by decide +kernel⟩
abbrev st_is_number : Stmt := topS 11
theorem sc_is_number : FnScope ["value", "low", "high"] ["value", "low", "high"] (defScope st_is_number) :=
  ⟨rfl, rfl, rfl, by decide +kernel, rfl, by decide +kernel, by decide +kernel⟩
abbrev st_is_row : Stmt := topS 12
theorem sc_is_row : FnScope ["value", "low", "high"] ["value", "low", "high"] (defScope st_is_row) :=
  ⟨rfl, rfl, rfl, by decide +kernel, rfl, by decide +kernel, by decide +kernel⟩
abbrev st_is_place : Stmt := topS 13
theorem sc_is_place : FnScope ["value", "places"] ["value", "places"] (defScope st_is_place) :=
  ⟨rfl, rfl, rfl, by decide +kernel, rfl, by decide +kernel, by decide +kernel⟩
abbrev st_are_places : Stmt := topS 14
theorem sc_are_places : FnScope ["value", "places", "place"] ["value", "places"] (defScope st_are_places) :=
  ⟨rfl, rfl, rfl, by decide +kernel, rfl, by decide +kernel, by decide +kernel⟩
abbrev st_is_layout : Stmt := topS 15
theorem sc_is_layout : FnScope ["value", "places"] ["value", "places"] (defScope st_is_layout) :=
  ⟨rfl, rfl, rfl, by decide +kernel, rfl, by decide +kernel, by decide +kernel⟩
abbrev st_check_integer : Stmt := topS 16
theorem sc_check_integer : FnScope ["value"] ["value"] (defScope st_check_integer) :=
  ⟨rfl, rfl, rfl, by decide +kernel, rfl, by decide +kernel, by decide +kernel⟩
abbrev st_check_habit : Stmt := topS 17
theorem sc_check_habit : FnScope ["habit", "place", "moves"] ["habit"] (defScope st_check_habit) :=
  ⟨rfl, rfl, rfl, by decide +kernel, rfl, by decide +kernel, by decide +kernel⟩
abbrev st_check_layout : Stmt := topS 18
theorem sc_check_layout : FnScope ["layout", "places"] ["layout", "places"] (defScope st_check_layout) :=
  ⟨rfl, rfl, rfl, by decide +kernel, rfl, by decide +kernel, by decide +kernel⟩
abbrev st_check_place : Stmt := topS 19
theorem sc_check_place : FnScope ["place", "places"] ["place", "places"] (defScope st_check_place) :=
  ⟨rfl, rfl, rfl, by decide +kernel, rfl, by decide +kernel, by decide +kernel⟩
abbrev st_check_name : Stmt := topS 20
theorem sc_check_name : FnScope ["name", "places"] ["name", "places"] (defScope st_check_name) :=
  ⟨rfl, rfl, rfl, by decide +kernel, rfl, by decide +kernel, by decide +kernel⟩
abbrev st_move : Stmt := topS 22
theorem sc_move : FnScope ["habit", "layout", "place", "moves", "stood"] ["habit", "layout", "place"] (defScope st_move) :=
  ⟨rfl, rfl, rfl, by decide +kernel, rfl, by decide +kernel, by decide +kernel⟩
abbrev st_m___init__ : Stmt := inClass (topS 24) 0
theorem sc_m___init__ : FnScope ["self", "habit", "layout"] ["self", "habit", "layout"] (defScope st_m___init__) :=
  ⟨rfl, rfl, rfl, by decide +kernel, rfl, by decide +kernel, by decide +kernel⟩
abbrev st_m_layout : Stmt := inClass (topS 24) 1
theorem sc_m_layout : FnScope ["self"] ["self"] (defScope st_m_layout) :=
  ⟨rfl, rfl, rfl, by decide +kernel, rfl, by decide +kernel, by decide +kernel⟩
abbrev st_m_path : Stmt := inClass (topS 24) 2
theorem sc_m_path : FnScope ["self"] ["self"] (defScope st_m_path) :=
  ⟨rfl, rfl, rfl, by decide +kernel, rfl, by decide +kernel, by decide +kernel⟩
abbrev st_m_held : Stmt := inClass (topS 24) 3
theorem sc_m_held : FnScope ["self"] ["self"] (defScope st_m_held) :=
  ⟨rfl, rfl, rfl, by decide +kernel, rfl, by decide +kernel, by decide +kernel⟩
abbrev st_m_read : Stmt := inClass (topS 24) 4
theorem sc_m_read : FnScope ["self", "place"] ["self", "place"] (defScope st_m_read) :=
  ⟨rfl, rfl, rfl, by decide +kernel, rfl, by decide +kernel, by decide +kernel⟩
abbrev st_m_write : Stmt := inClass (topS 24) 5
theorem sc_m_write : FnScope ["self", "place", "value"] ["self", "place", "value"] (defScope st_m_write) :=
  ⟨rfl, rfl, rfl, by decide +kernel, rfl, by decide +kernel, by decide +kernel⟩
abbrev st_m_touch : Stmt := inClass (topS 24) 6
theorem sc_m_touch : FnScope ["self", "place"] ["self", "place"] (defScope st_m_touch) :=
  ⟨rfl, rfl, rfl, by decide +kernel, rfl, by decide +kernel, by decide +kernel⟩
abbrev st_m_fetch : Stmt := inClass (topS 24) 7
theorem sc_m_fetch : FnScope ["self", "name"] ["self", "name"] (defScope st_m_fetch) :=
  ⟨rfl, rfl, rfl, by decide +kernel, rfl, by decide +kernel, by decide +kernel⟩
abbrev st_m_put : Stmt := inClass (topS 24) 8
theorem sc_m_put : FnScope ["self", "name", "value"] ["self", "name", "value"] (defScope st_m_put) :=
  ⟨rfl, rfl, rfl, by decide +kernel, rfl, by decide +kernel, by decide +kernel⟩
abbrev st_m__book_touched : Stmt := inClass (topS 24) 9
theorem sc_m__book_touched : FnScope ["self", "place", "book"] ["self", "place"] (defScope st_m__book_touched) :=
  ⟨rfl, rfl, rfl, by decide +kernel, rfl, by decide +kernel, by decide +kernel⟩
abbrev st__law_taken : Stmt := topS 26
theorem sc__law_taken : FnScope ["row", "many", "found", "cell"] ["row", "many"] (defScope st__law_taken) :=
  ⟨rfl, rfl, rfl, by decide +kernel, rfl, by decide +kernel, by decide +kernel⟩
abbrev st__law_order : Stmt := topS 27
theorem sc__law_order : FnScope ["row", "many", "left", "found"] ["row", "many"] (defScope st__law_order) :=
  ⟨rfl, rfl, rfl, by decide +kernel, rfl, by decide +kernel, by decide +kernel⟩
abbrev st__law_habit : Stmt := topS 28
theorem sc__law_habit : FnScope ["row", "places", "way", "found", "place", "moved", "other", "spot"] ["row", "places"] (defScope st__law_habit) :=
  ⟨rfl, rfl, rfl, by decide +kernel, rfl, by decide +kernel, by decide +kernel⟩
abbrev st__law_touch : Stmt := topS 29
theorem sc__law_touch : FnScope ["habit", "layout", "place", "spot"] ["habit", "layout", "place"] (defScope st__law_touch) :=
  ⟨rfl, rfl, rfl, by decide +kernel, rfl, by decide +kernel, by decide +kernel⟩
abbrev st__law_alike : Stmt := topS 30
theorem sc__law_alike : FnScope ["found", "due", "k"] ["found", "due"] (defScope st__law_alike) :=
  ⟨rfl, rfl, rfl, by decide +kernel, rfl, by decide +kernel, by decide +kernel⟩
abbrev st__law_pick : Stmt := topS 31
theorem sc__law_pick : FnScope ["row", "things"] ["row", "things"] (defScope st__law_pick) :=
  ⟨rfl, rfl, rfl, by decide +kernel, rfl, by decide +kernel, by decide +kernel⟩
abbrev st__law_works : Stmt := topS 32
theorem sc__law_works : FnScope ["one", "other", "third", "works"] ["one", "other", "third"] (defScope st__law_works) :=
  ⟨rfl, rfl, rfl, by decide +kernel, rfl, by decide +kernel, by decide +kernel⟩
abbrev st__law_refused : Stmt := topS 33
theorem sc__law_refused : FnScope ["work", "found", "e", "kinds", "names"] ["work"] (defScope st__law_refused) :=
  ⟨rfl, rfl, rfl, by decide +kernel, rfl, by decide +kernel, by decide +kernel⟩
abbrev st_law : Stmt := topS 34
theorem sc_law : FnScope ["script", "row", "places", "habit", "layout", "shelf", "held", "path", "turn", "way", "place", "value", "name", "spot", "wrong", "works", "work"] ["script"] (defScope st_law) :=
  ⟨rfl, rfl, rfl, by decide +kernel, rfl, by decide +kernel, by decide +kernel⟩
/-! ### what the top has written -/
/-- the def x of the text stands in the module under its name -/
structure Df (K : PySem.W.Frag) (mg : Str → Option Value) (x : Str) (st : Stmt) (ps : List Str) : Prop where
  ex : ∃ (f : Addr) (fd : FuncData), Fun K x x st f fd ∧ mg x = some (.ref f) ∧ Binds K fd ps []
/-- names of the interpreter that the module leaves alone -/
structure Bu (mg : Str → Option Value) : Prop where
  isi : mg "isinstance" = none
  int : mg "int" = none
  bool : mg "bool" = none
  str : mg "str" = none
  tuple : mg "tuple" = none
  list : mg "list" = none
  len : mg "len" = none
  all : mg "all" = none
  zip : mg "zip" = none
  range : mg "range" = none
  sorted : mg "sorted" = none
  enumerate : mg "enumerate" = none
  max : mg "max" = none
section
variable {P : Program} {w : World} {K : PySem.W.Frag} {mg : Str → Option Value} {base : Heap}
/-- a def that may be called by its name -/
structure Cal (P : Program) (w : World) (K : PySem.W.Frag) (mg : Str → Option Value) (base : Heap) (k : Nat) (x : Str) (sp : Sp) : Prop where
  ex : ∃ (f : Addr) (fd : FuncData) (ps : List Str), FnOk P w K mg base CX0 k f fd ps sp ∧ mg x = some (.ref f) ∧ PySem.W.keepIn K (.ref f) = true ∧ Binds K fd ps []
theorem mkCal {x : Str} {st : Stmt} {N ps : List Str} {k : Nat} {sp : Sp} (F : Df K mg x st ps) (S : FnScope N ps (defScope st)) (len : ∀ vs H Q E, sp vs H Q E → vs.length = ps.length)
    (hbody : ∀ (f : Addr) (cdv : Value) (A : Around) (outer : List Env) (s : Shared) (H : Hp) (vs : List V) (Q : VK) (E : XK), Room k (A.deeper (envOfC x (defScope st) s.heap.objs.size f cdv)) → sp vs H Q E →
      ∃ t, PSs (cxOf CX0 P w K mg base N x (defScope st) f cdv A outer s H E).nox (defBody st) t ∧ t { nx := fun _ H' => Q .non H', rt := Q } (start N vs) H) : Cal P w K mg base (k + 1) x sp := by
  obtain ⟨f, fd, F, g, b⟩ := F.ex
  exact ⟨f, fd, ps, F.ok S len (hbody f), g, F.kp, b⟩
theorem Cal.imp {k : Nat} {x : Str} {sp sp' : Sp} (c : Cal P w K mg base k x sp) (h : ∀ vs H Q E, sp' vs H Q E → sp vs H Q E) : Cal P w K mg base k x sp' := by
  obtain ⟨f, fd, ps, F, g, kp, b⟩ := c.ex
  exact ⟨f, fd, ps, F.imp h, g, kp, b⟩
end
theorem pc {X : Cx} {k j : Nat} {x : Str} {sp : Sp} {p pos : Pos} {e : Expr} {es : List Expr} {t : TA} (c : Cal X.prog X.w X.K X.mg X.base k x sp) (hr : Room j X.A) (ha : PA X (e :: es) t) (hk : k ≤ j := by decide) (hg : Gl X x := by rfl)
    (hdb : (x == ("__debug__" : Str)) = false := by decide) (he : starEach (e :: es) X.env = (false, eval e X.env) :: starEach es X.env := by rfl) (hpl : (backTo pos (starEach es X.env)).any (·.1) = false := by rfl) :
    PE X (.Call (.Name x p) (e :: es) [] pos) (tCall sp [] E0 t) := by
  obtain ⟨f, fd, ps, F, hm, kp, b⟩ := c.ex
  exact pe_call F (hr.mono hk) hg hm kp b .nil pass0 ha hdb he hpl
/-- a statement that is never come to -/
theorem ps_no {X : Cx} {st : Stmt} : PS X st (fun _ _ _ => False) := ⟨fun _ _ _ _ _ _ h => h.elim⟩
/-! ### heaps, tuples of ints, and of such -/
theorem same_new {H : Hp} {p : Addr} {o : HO} (h : H p = none) : Same H (upd H p o) := fun b x e => by
  rw [upd_ne (ne_of_none e h)]
  exact e
theorem seqT {K : PySem.W.Frag} {H H' : Hp} {a : Addr} {xs : List V} (e : ∀ o, H a = some o → H' a = some o) (h : SqT K H a xs) : SqT K H' a xs := by
  rcases h with (h | ⟨o, h⟩) | h
  · exact .inl (.inl (e _ h))
  · exact .inl (.inr ⟨o, e _ h⟩)
  · exact .inr h
theorem onT {K : PySem.W.Frag} {H H' : Hp} {a : Addr} {xs : List V} (e : Same H H') (h : SqT K H a xs) : SqT K H' a xs := seqT (fun o => e a o) h
theorem tupAt {K : PySem.W.Frag} {H : Hp} {a : Addr} {xs : List V} (h : H a = some (.tup xs)) : SqT K H a xs := .inl (.inl h)
theorem lstAt {K : PySem.W.Frag} {H : Hp} {a : Addr} {xs : List V} (h : H a = some (.lst xs)) : SqL K H a xs := .inl (.inl h)
/-- a tuple's type -/
theorem ty_tup {K : PySem.W.Frag} {H : Hp} {a : Addr} {xs : List V} (h : SqT K H a xs) : TyX K H (.ref a) (.type "tuple") := by
  rcases h with (h | ⟨o, h⟩) | ⟨o, its, n, h, c, _⟩
  · exact .base (.tup h)
  · exact .fTuple h
  · exact .kTuple h c
/-- each by each -/
inductive Each {α : Type} (R : V → α → Prop) : List V → List α → Prop
  | nil : Each R [] []
  | cons {v : V} {d : α} {vs : List V} {ds : List α} : R v d → Each R vs ds → Each R (v :: vs) (d :: ds)
theorem Each.len {α : Type} {R : V → α → Prop} : ∀ {vs : List V} {ds : List α}, Each R vs ds → vs.length = ds.length
  | _, _, .nil => rfl
  | _, _, .cons _ t => congrArg (· + 1) t.len
theorem Each.imp {α : Type} {R R' : V → α → Prop} (f : ∀ v d, R v d → R' v d) : ∀ {vs : List V} {ds : List α}, Each R vs ds → Each R' vs ds
  | _, _, .nil => .nil
  | _, _, .cons h t => .cons (f _ _ h) (t.imp f)
theorem Each.at {α : Type} {R : V → α → Prop} : ∀ {vs : List V} {ds : List α} {i : Nat} {v : V}, Each R vs ds → vs[i]? = some v → ∃ d, ds[i]? = some d ∧ R v d
  | _, _, _, _, .nil, e => by simp at e
  | _, _, 0, _, .cons h _, e => by
    have e' := Option.some.inj e
    subst e'
    exact ⟨_, rfl, h⟩
  | _, _, i + 1, _, .cons _ t, e => t.at (i := i) e
theorem Each.of {α : Type} {R : V → α → Prop} : ∀ {vs : List V} {ds : List α} {i : Nat} {d : α}, Each R vs ds → ds[i]? = some d → ∃ v, vs[i]? = some v ∧ R v d
  | _, _, _, _, .nil, e => by simp at e
  | _, _, 0, _, .cons h _, e => by
    have e' := Option.some.inj e
    subst e'
    exact ⟨_, rfl, h⟩
  | _, _, i + 1, _, .cons _ t, e => t.of (i := i) e
theorem Each.snoc {α : Type} {R : V → α → Prop} {v : V} {d : α} (h : R v d) : ∀ {vs : List V} {ds : List α}, Each R vs ds → Each R (vs ++ [v]) (ds ++ [d])
  | _, _, .nil => .cons h .nil
  | _, _, .cons g t => .cons g (t.snoc h)
/-- a tuple of ints -/
def TI (K : PySem.W.Frag) (H : Hp) (v : V) (ns : List Int) : Prop := ∃ a, v = .ref a ∧ SqT K H a (ns.map V.int)
/-- a tuple of such -/
def TII (K : PySem.W.Frag) (H : Hp) (v : V) (nss : List (List Int)) : Prop := ∃ a vs, v = .ref a ∧ SqT K H a vs ∧ Each (TI K H) vs nss
def THs (K : PySem.W.Frag) (H : Hp) (v : V) (hs : List (List (List Int))) : Prop := ∃ a vs, v = .ref a ∧ SqT K H a vs ∧ Each (TII K H) vs hs
/-- all tuples stand -/
def Tups (K : PySem.W.Frag) (H H' : Hp) : Prop := ∀ a xs, SqT K H a xs → SqT K H' a xs
theorem Same.tups {K : PySem.W.Frag} {H H' : Hp} (e : Same H H') : Tups K H H' := fun _ _ h => onT e h
theorem TI.on {K : PySem.W.Frag} {H H' : Hp} {v : V} {ns : List Int} (e : Tups K H H') (h : TI K H v ns) : TI K H' v ns := let ⟨a, h1, h2⟩ := h; ⟨a, h1, e _ _ h2⟩
theorem TII.on {K : PySem.W.Frag} {H H' : Hp} {v : V} {nss : List (List Int)} (e : Tups K H H') (h : TII K H v nss) : TII K H' v nss := let ⟨a, vs, h1, h2, h3⟩ := h; ⟨a, vs, h1, e _ _ h2, h3.imp fun _ _ z => z.on e⟩
theorem THs.on {K : PySem.W.Frag} {H H' : Hp} {v : V} {hs : List (List (List Int))} (e : Tups K H H') (h : THs K H v hs) : THs K H' v hs := let ⟨a, vs, h1, h2, h3⟩ := h; ⟨a, vs, h1, e _ _ h2, h3.imp fun _ _ z => z.on e⟩
theorem map_at {ns : List Int} {i : Nat} {x : V} (h : (ns.map V.int)[i]? = some x) : ∃ n, ns[i]? = some n ∧ x = .int n := by
  rw [List.getElem?_map] at h
  cases e : ns[i]? with
  | none =>
    rw [e] at h
    cases h
  | some n =>
    rw [e] at h
    exact ⟨n, rfl, (Option.some.inj h).symm⟩
theorem at_map {ns : List Int} {i : Nat} {n : Int} (h : ns[i]? = some n) : (ns.map V.int)[i]? = some (.int n) := by
  rw [List.getElem?_map, h]
  rfl
theorem all_snoc {α : Type} (f : α → Bool) {l : List α} {i : Nat} {x : α} (h : l[i]? = some x) : (l.take (i + 1)).map f = (l.take i).map f ++ [f x] := by
  rw [List.take_add_one, h, List.map_append]
  rfl
/-! ### lists of ints, compared -/
theorem dpAll_ints {K : PySem.W.Frag} {H : Hp} : ∀ ns : List Int, DpAll K H (ns.map V.int) (ns.map PyData.int)
  | [] => .nil
  | n :: ns => .cons (.int n) (dpAll_ints ns)
theorem dp_lst {K : PySem.W.Frag} {H : Hp} {a : Addr} {ns : List Int} (h : SqL K H a (ns.map V.int)) : Dp K H (.ref a) (.list (ns.map PyData.int)) := .lst h (dpAll_ints ns)
theorem dp_tup {K : PySem.W.Frag} {H : Hp} {a : Addr} {ns : List Int} (h : SqT K H a (ns.map V.int)) : Dp K H (.ref a) (.tuple (ns.map PyData.int)) := .tup h (dpAll_ints ns)
theorem eqv_lst (ns ms : List Int) : PyData.eqv (.list (ns.map PyData.int)) (.list (ms.map PyData.int)) = decide (ns = ms) := by
  rw [PyData.eqv]
  exact PySem.W.ked_eqvAll ns ms
def rg (n : Nat) : List Int := (List.range n).map fun i : Nat => (i : Int)
theorem rgV_rg (n : Nat) : rgV 0 (n : Int) = (rg n).map V.int := by
  unfold rgV rg
  rw [List.map_map, Int.sub_zero, Int.toNat_natCast]
  refine List.map_congr_left fun i _ => ?_
  show V.int (0 + (i : Int)) = V.int (i : Int)
  rw [Int.zero_add]
theorem rg_len (n : Nat) : (rg n).length = n := by
  unfold rg
  rw [List.length_map, List.length_range]
theorem rg_mem {n : Nat} {x : Int} : x ∈ rg n ↔ 0 ≤ x ∧ x < n := by
  unfold rg
  rw [List.mem_map]
  constructor
  · rintro ⟨i, h, rfl⟩
    have := List.mem_range.mp h
    omega
  · rintro ⟨h1, h2⟩
    exact ⟨x.toNat, List.mem_range.mpr (by omega), by omega⟩
theorem rg_at {n i : Nat} (h : i < n) : (rg n)[i]? = some (i : Int) := by
  unfold rg
  rw [List.getElem?_map, List.getElem?_range h]
  rfl
/-! ### walks over enumerate and zip of tuples -/
section
variable {K : PySem.W.Frag} {a b : Addr} {xs ys : List V}
theorem for_enumT {g : TG} {tb : TS} {D : Ends} {σ : L2.St} {H : Hp} (Pv : Nat → L2.St → Hp → Prop) (h0 : Pv 0 σ H) (hl : ∀ i σ H, Pv i σ H → SqT K H a xs)
    (hs : ∀ i x T σ H, xs[i]? = some x → Pv i σ H → H T = none → g (.ref T) σ (upd H T (.tup [.int (i : Nat), x])) fun σ2 H2 => tb { D with nx := Pv (i + 1), ct := Pv (i + 1), bk := D.nx } σ2 H2) (hd : ∀ σ H, Pv xs.length σ H → D.nx σ H) :
    ∃ W : Nat → Nat → L2.St → Hp → Prop, (∃ m, W 0 m σ H) ∧ ∀ i m σ H, W i m σ H →
      ((IteT K a).stop i H ∧ D.nx σ H) ∨ ((IteT K a).go i H ∧ ∃ N : L2.St → Hp → Prop, (∀ σ' H', N σ' H' → ∃ m', m' < m ∧ W (i + 1) m' σ' H') ∧ ∀ x H', (IteT K a).yld i H x H' → g x σ H' fun σ2 H2 => tb { D with nx := N, ct := N, bk := D.nx } σ2 H2) := by
  refine ⟨fun i m σ H => m = xs.length - i ∧ i ≤ xs.length ∧ Pv i σ H, ⟨xs.length, rfl, Nat.zero_le _, h0⟩, ?_⟩
  rintro i m σ H ⟨rfl, hi, p⟩
  have q := hl i σ H p
  by_cases hlt : i < xs.length
  · have hx : xs[i]? = some xs[i] := List.getElem?_eq_getElem hlt
    refine .inr ⟨⟨xs, _, q, hx⟩, Pv (i + 1), fun σ' H' p' => ⟨xs.length - (i + 1), by omega, rfl, hlt, p'⟩, fun v H' y => ?_⟩
    obtain ⟨T, x', rfl, hT, rfl, f1⟩ := y
    exact hs i x' T σ H (f1 xs q) p hT
  · have e : i = xs.length := by omega
    subst e
    exact .inl ⟨⟨xs, q, Nat.le_refl _⟩, hd σ H p⟩
end
end RH
set_option Elab.async false
set_option linter.all false
set_option maxRecDepth 100000
set_option maxHeartbeats 2000000
namespace RH
open PySem PySem.Spec PyProof.Rows L2
/-! ### the checks -/
section
variable {P : Program} {w : World} {K : PySem.W.Frag} {mg : Str → Option Value} {base : Heap}
/-- an int alone: its kind -/
def spIsInteger : Sp := fun vs H Q _ => ∃ i : Int, vs = [.int i] ∧ Q (.bl true) H
theorem ok_is_integer (F : Df K mg "is_integer" st_is_integer ["value"]) (B : Bu mg) : Cal P w K mg base 1 "is_integer" spIsInteger := by
  refine mkCal F sc_is_integer (fun vs H Q E h => ?_) (fun f cdv A outer s H vs Q E hr h => ?_)
  · obtain ⟨i, rfl, _⟩ := h
    rfl
  · obtain ⟨i, rfl, q⟩ := h
    refine ⟨_, pss_one (ps_ret (pe_and (pe_callB call_isi (by rfl) B.isi (by decide +kernel) (pa_cons (pv 0) (pa_cons (pe_bltn (v := .ty "int") (by rfl) B.int (by decide +kernel) rfl) pa_nil)))
      (pe_one (pe_not (pe_callB call_isi (by rfl) B.isi (by decide +kernel) (pa_cons (pv 0) (pa_cons (pe_bltn (v := .ty "bool") (by rfl) B.bool (by decide +kernel) rfl) pa_nil))))))), ?_⟩
    exact ⟨_, rfl, .int i, .ty "int", _, _, true, rfl, .ty "int", .base (.int i), kit_ty (by decide +kernel), true, rfl,
      _, rfl, .int i, .ty "bool", _, _, false, rfl, .ty "bool", .base (.int i), kit_ty (by decide +kernel), false, rfl, q⟩
def spIsNumber : Sp := fun vs H Q _ => ∃ i lo hi : Int, vs = [.int i, .int lo, .int hi] ∧ Q (.bl (decide (lo ≤ i) && decide (i ≤ hi))) H
theorem ok_is_number (F : Df K mg "is_number" st_is_number ["value", "low", "high"]) (C1 : Cal P w K mg base 1 "is_integer" spIsInteger) : Cal P w K mg base 2 "is_number" spIsNumber := by
  refine mkCal F sc_is_number (fun vs H Q E h => ?_) (fun f cdv A outer s H vs Q E hr h => ?_)
  · obtain ⟨i, lo, hi, rfl, _⟩ := h
    rfl
  · obtain ⟨i, lo, hi, rfl, q⟩ := h
    refine ⟨_, pss_one (ps_ret (pe_and (pc C1 hr (pa_cons (pv 0) pa_nil)) (pe_one (pe_chain op_le op_le (pv 1) (pv 0) (pv 2))))), ?_⟩
    refine ⟨_, rfl, i, rfl, true, rfl, _, rfl, _, rfl, lo, i, rfl, rfl, _, rfl, ite2 (fun e => ?_) (fun e => ?_)⟩
    · refine ⟨_, rfl, i, hi, rfl, rfl, ?_⟩
      rw [e, Bool.true_and] at q
      exact q
    · have e' : decide (lo ≤ i) = false := by simpa using e
      rw [e', Bool.false_and] at q
      exact q
end
end RH
set_option Elab.async false
set_option linter.all false
set_option maxRecDepth 100000
set_option maxHeartbeats 2000000
namespace RH
open PySem PySem.Spec PyProof.Rows L2
section
variable {P : Program} {w : World} {K : PySem.W.Frag} {mg : Str → Option Value} {base : Heap}
def spIsRow (K : PySem.W.Frag) : Sp := fun vs H Q _ => ∃ (a : Addr) (xs : List V) (lo hi : Int), vs = [.ref a, .int lo, .int hi] ∧ SqT K H a xs ∧ Q (.bl (decide (lo ≤ (xs.length : Int)) && decide ((xs.length : Int) ≤ hi))) H
theorem ok_is_row (F : Df K mg "is_row" st_is_row ["value", "low", "high"]) (B : Bu mg) : Cal P w K mg base 1 "is_row" (spIsRow K) := by
  refine mkCal F sc_is_row (fun vs H Q E h => ?_) (fun f cdv A outer s H vs Q E hr h => ?_)
  · obtain ⟨a, xs, lo, hi, rfl, _⟩ := h
    rfl
  · obtain ⟨a, xs, lo, hi, rfl, hS, q⟩ := h
    refine ⟨_, pss_one (ps_ret (pe_and (pe_callB call_isi (by rfl) B.isi (by decide +kernel) (pa_cons (pv 0) (pa_cons (pe_bltn (v := .ty "tuple") (by rfl) B.tuple (by decide +kernel) rfl) pa_nil)))
      (pe_one (pe_chain op_le op_le (pv 1) (pe_callB call_len_seq (by rfl) B.len PySem.boot_len (pa_cons (pv 0) pa_nil)) (pv 2))))), ?_⟩
    refine ⟨_, rfl, .ref a, .ty "tuple", _, _, true, rfl, .ty "tuple", ty_tup hS, kit_ty (by decide +kernel), true, rfl, _, rfl, _, rfl, a, xs, rfl, .inr hS, lo, (xs.length : Int), rfl, rfl, _, rfl, ite2 (fun e => ?_) (fun e => ?_)⟩
    · refine ⟨_, rfl, _, hi, rfl, rfl, ?_⟩
      rw [e, Bool.true_and] at q
      exact q
    · have e' : decide (lo ≤ (xs.length : Int)) = false := by simpa using e
      rw [e', Bool.false_and] at q
      exact q
def spIsPlace : Sp := fun vs H Q _ => ∃ i p : Int, vs = [.int i, .int p] ∧ Q (.bl (decide (0 ≤ i) && decide (i ≤ p - 1))) H
theorem ok_is_place (F : Df K mg "is_place" st_is_place ["value", "places"]) (C2 : Cal P w K mg base 2 "is_number" spIsNumber) : Cal P w K mg base 3 "is_place" spIsPlace := by
  refine mkCal F sc_is_place (fun vs H Q E h => ?_) (fun f cdv A outer s H vs Q E hr h => ?_)
  · obtain ⟨i, p, rfl, _⟩ := h
    rfl
  · obtain ⟨i, p, rfl, q⟩ := h
    refine ⟨_, pss_one (ps_ret (pc C2 hr (pa_cons (pv 0) (pa_cons pe_int (pa_cons (pe_op op_sub (pv 1) pe_int) pa_nil))))), ?_⟩
    exact ⟨_, rfl, _, rfl, p, 1, rfl, rfl, i, 0, p - 1, rfl, q⟩
/-- all are places -/
def inP (p : Int) (ns : List Int) : Bool := ns.all fun i => decide (0 ≤ i) && decide (i ≤ p - 1)
def spArePlaces (K : PySem.W.Frag) : Sp := fun vs H Q _ => ∃ (v : V) (ns : List Int) (p : Int), vs = [v, .int p] ∧ TI K H v ns ∧ ns.length ≤ 1000 ∧ ∀ H', Same H H' → Q (.bl (inP p ns)) H'
theorem ok_are_places (F : Df K mg "are_places" st_are_places ["value", "places"]) (B : Bu mg) (C3 : Cal P w K mg base 3 "is_place" spIsPlace) : Cal P w K mg base 4 "are_places" (spArePlaces K) := by
  refine mkCal F sc_are_places (fun vs H Q E h => ?_) (fun f cdv A outer s H vs Q E hr h => ?_)
  · obtain ⟨v, ns, p, rfl, _⟩ := h
    rfl
  · obtain ⟨v, ns, p, rfl, ⟨a, rfl, hS⟩, hlen, q⟩ := h
    refine ⟨_, pss_one (ps_ret (pe_and (pe_callB call_isi (by rfl) B.isi (by decide +kernel) (pa_cons (pv 0) (pa_cons (pe_bltn (v := .ty "tuple") (by rfl) B.tuple (by decide +kernel) rfl) pa_nil)))
      (pe_one (pe_callB (cr_all rfl) (by rfl) B.all (by decide +kernel) (pa_cons (pe_lc (own := [("place", 2)]) (g := gName 2) (tt := tYes) rfl sc_are_places.nd (pi_tup (pv 0)) (blkOk_by (N := ["value", "places", "place"]) (sc := defScope st_are_places) (by decide +kernel))
        (fun _ _ _ _ _ => pg_name (i := 2) sc_are_places.nd rfl (Or.inl rfl)) (fun _ _ _ _ _ => pts_nil) (fun _ _ _ _ _ => pc C3 hr (pa_cons (pv 2) (pa_cons (pv 1) pa_nil)))) pa_nil))))), ?_⟩
    refine ⟨_, rfl, .ref a, .ty "tuple", _, _, true, rfl, .ty "tuple", ty_tup hS, kit_ty (by decide +kernel), true, rfl, ?_⟩
    refine ⟨_, rfl, a, rfl, ⟨_, hS⟩, fun D hD => ?_⟩
    refine lc_tup (xs := ns.map V.int) (fun i H' => Same H H' ∧ H' D = some (.lst (((ns.take i).map fun i => decide (0 ≤ i) && decide (i ≤ p - 1)).map V.bl))) ⟨same_new hD, upd_same⟩ (fun i H' _ h' => onT h'.1 hS) (fun i x H' hx h' => ?_) (fun H' h' => ?_)
    · obtain ⟨n, hn, rfl⟩ := map_at hx
      obtain ⟨sm, eD⟩ := h'
      refine ⟨rfl, _, rfl, _, rfl, n, p, rfl, _, eD, ?_, ?_, ?_⟩
      · rw [List.length_map, List.length_map, List.length_take]
        exact small1000 (by omega)
      · intro b o e
        rw [upd_ne (ne_of_none e hD)]
        exact sm b o e
      · rw [upd_same, all_snoc _ hn, List.map_append]
        rfl
    · obtain ⟨sm, eD⟩ := h'
      rw [List.length_map, List.take_length] at eD
      refine ⟨D, _, rfl, lstAt eD, ?_⟩
      have e : ((ns.map fun i => decide (0 ≤ i) && decide (i ≤ p - 1)).all id) = inP p ns := by
        unfold inP
        rw [List.all_map]
        rfl
      rw [e]
      exact q H' sm
end
end RH
set_option Elab.async false
set_option linter.all false
set_option maxRecDepth 100000
set_option maxHeartbeats 2000000
namespace RH
open PySem PySem.Spec PyProof.Rows L2
/-! ### slices and constants -/
theorem cut_from (xs : List V) (k : Nat) : cutV xs (some (k : Int)) none = xs.drop k := by
  unfold cutV
  rw [HT.sIx_nat, HT.sIx_none]
  rcases Nat.le_total k xs.length with h | h
  · rw [Nat.min_eq_left h]
    exact List.take_of_length_le (by rw [List.length_drop]; exact Nat.le_refl _)
  · rw [Nat.min_eq_right h, Nat.sub_self, List.take_zero, List.drop_eq_nil_of_le h]
theorem cut_to (xs : List V) (k : Nat) : cutV xs none (some (k : Int)) = xs.take k := by
  unfold cutV
  rw [HT.sIx_nat, HT.sIx_none, List.drop_zero, Nat.sub_zero]
  rcases Nat.le_total k xs.length with h | h
  · rw [Nat.min_eq_left h]
  · rw [Nat.min_eq_right h, List.take_length, List.take_of_length_le h]
/-- a number that the module keeps -/
theorem pk {X : Cx} {x : Str} {i : Int} {pos : Pos} (h : ∃ t, X.mg x = some (.int i t)) (hg : Gl X x := by rfl) (hn : x ≠ "__name__" := by decide) (hd : (x == ("__debug__" : Str)) = false := by decide) : PE X (.Name x pos) (tC (.int i)) := by
  obtain ⟨t, h⟩ := h
  exact pe_glob (v := .int i) hg h ⟨_, rfl⟩ hd
/-! ### rules within a comprehension: the written part is told -/
def rLenK (K : PySem.W.Frag) : List V → Hp → VK → Prop := fun xs H Q => ∃ p ys, xs = [.ref p] ∧ (SqL K H p ys ∨ SqT K H p ys) ∧ Q (.int ys.length) H
theorem cl_len {X : Cx} (K : PySem.W.Frag) (h : X.K = K := by rfl) : CallR X (.builtin "len") (rLenK K) := by
  subst h
  exact call_len_seq
theorem ixT {X : Cx} (K : PySem.W.Frag) (h : X.K = K := by rfl) : IxR X (rIxT K) := by
  subst h
  exact ix_tup
/-! ### rising, a layout, a habit -/
def isLay (p : Nat) (ns : List Int) : Bool := ns.isPerm (rg p)
theorem inP_of {p : Nat} {ns : List Int} (h : ns.Perm (rg p)) : inP p ns = true := by
  unfold inP
  rw [List.all_eq_true]
  intro i hi
  have := rg_mem.mp (h.mem_iff.mp hi)
  rw [Bool.and_eq_true]
  exact ⟨decide_eq_true (by omega), decide_eq_true (by omega)⟩
theorem rg_le (p : Nat) : (rg p).Pairwise (· ≤ ·) := by
  unfold rg
  rw [List.pairwise_map]
  exact (List.pairwise_lt_range (n := p)).imp fun h => by omega
section
variable {P : Program} {w : World} {K : PySem.W.Frag} {mg : Str → Option Value} {base : Heap}
def spIsLayout (K : PySem.W.Frag) : Sp := fun vs H Q _ => ∃ (v : V) (ns : List Int) (p : Nat), vs = [v, .int p] ∧ TI K H v ns ∧ ns.length < 64 ∧ p ≤ 1000 ∧ ∀ H', Same H H' → Q (.bl (isLay p ns)) H'
theorem ok_is_layout (F : Df K mg "is_layout" st_is_layout ["value", "places"]) (B : Bu mg) (C4 : Cal P w K mg base 4 "are_places" (spArePlaces K)) : Cal P w K mg base 5 "is_layout" (spIsLayout K) := by
  refine mkCal F sc_is_layout (fun vs H Q E h => ?_) (fun f cdv A outer s H vs Q E hr h => ?_)
  · obtain ⟨v, ns, p, rfl, _⟩ := h
    rfl
  · obtain ⟨v, ns, p, rfl, ⟨a, rfl, hS⟩, hlen, hp, q⟩ := h
    refine ⟨_, pss_one (ps_ret (pe_and (pc C4 hr (pa_cons (pv 0) (pa_cons (pv 1) pa_nil)))
      (pe_one (pe_cmpR (op_eqD hr.units) (pe_callB cr_sortedTup (by rfl) B.sorted (by decide +kernel) (pa_cons (pv 0) pa_nil)) (pe_listRg rfl (by rfl) B.list (prg_1 (by rfl) B.range (pv 1))) (nomark _))))), ?_⟩
    refine ⟨_, rfl, _, rfl, .ref a, ns, p, rfl, ⟨a, rfl, hS⟩, by omega, fun H1 sm1 => ⟨_, rfl, ite2 (fun e => ?_) (fun e => ?_)⟩⟩
    · refine ⟨_, rfl, a, ns, rfl, onT sm1 hS, hlen, fun ns' pL hpm hpw nL => ⟨_, rfl, (p : Int), rfl, ⟨by omega, by omega, by omega, by omega, by omega⟩, fun q' nq => ?_⟩⟩
      have nqp : pL ≠ q' := ne_of_none upd_same nq
      refine ⟨_, _, dp_lst (ns := ns') (lstAt ?_), dp_lst (ns := rg p) (lstAt ?_), PySem.W.ke_shaped_ints _, PySem.W.ke_shaped_ints _, ?_⟩
      · rw [upd_ne nqp, upd_same]
      · rw [upd_same, rgV_rg]
      · have e2 : PyData.eqv (.list (ns'.map PyData.int)) (.list ((rg p).map PyData.int)) = isLay p ns := by
          rw [eqv_lst, Bool.eq_iff_iff, decide_eq_true_iff]
          unfold isLay
          rw [List.isPerm_iff]
          constructor
          · intro z
            rw [← z]
            exact hpm.symm
          · intro z
            exact PySem.W.ksm_same (hpm.trans z) hpw (rg_le p)
        rw [e2]
        exact q _ (sm1.trans ((same_new nL).trans (same_new nq)))
    · have e2 : isLay p ns = false := by
        cases z : isLay p ns with
        | false => rfl
        | true => exact absurd (inP_of (List.isPerm_iff.mp z)) e
      have e3 : inP (p : Int) ns = false := by simpa using e
      rw [e2] at q
      exact q _ sm1
end
end RH
set_option Elab.async false
set_option linter.all false
set_option maxRecDepth 100000
set_option maxHeartbeats 2000000
namespace RH
open PySem PySem.Spec PyProof.Rows L2
/-! ### the mathematics of marks -/
theorem ifT {c : Bool} {A B : Prop} (hc : c = true) (h : A) : if c = true then A else B := by
  rw [if_pos hc]
  exact h
theorem ifF {c : Bool} {A B : Prop} (hc : c = false) (h : B) : if c = true then A else B := by
  rw [hc, if_neg Bool.false_ne_true]
  exact h
/-- a habit of n places -/
structure Hb (n : Nat) (h : List (List Int)) : Prop where
  len : h.length = n
  perm : ∀ ns ∈ h, ns.Perm (rg n)
  lo : 2 ≤ n
  hi : n ≤ 5
theorem Hb.short {n : Nat} {h : List (List Int)} (q : Hb n h) {ns : List Int} (hm : ns ∈ h) : ns.length = n := by
  rw [(q.perm ns hm).length_eq, rg_len]
def mv (h : List (List Int)) (t s : Int) : Int := (h.getD t.toNat []).getD s.toNat 0
theorem Hb.at {n : Nat} {h : List (List Int)} (q : Hb n h) {t s : Int} (t0 : 0 ≤ t) (t1 : t < n) (s0 : 0 ≤ s) (s1 : s < n) :
    ∃ ns, h[t.toNat]? = some ns ∧ ns[s.toNat]? = some (mv h t s) ∧ 0 ≤ mv h t s ∧ mv h t s < n := by
  have h1 : t.toNat < h.length := by rw [q.len]; omega
  have e1 : h[t.toNat]? = some h[t.toNat] := List.getElem?_eq_getElem h1
  have hm : h[t.toNat] ∈ h := List.getElem_mem h1
  have h2 : s.toNat < h[t.toNat].length := by rw [q.short hm]; omega
  have e2 : h[t.toNat][s.toNat]? = some h[t.toNat][s.toNat] := List.getElem?_eq_getElem h2
  have e4 : h.getD t.toNat [] = h[t.toNat] := by
    rw [List.getD_eq_getElem?_getD, e1]
    rfl
  have e3 : mv h t s = h[t.toNat][s.toNat] := by
    unfold mv
    rw [e4, List.getD_eq_getElem?_getD, e2]
    rfl
  have h4 := rg_mem.mp ((q.perm _ hm).mem_iff.mp (List.getElem_mem h2))
  rw [← e3] at h4
  exact ⟨_, e1, by rw [e3]; exact e2, h4⟩
def InR (n : Nat) (i : Int) : Prop := 0 ≤ i ∧ i < n
theorem take_more {α : Type} {l : List α} {i : Nat} {x : α} (h : l[i]? = some x) : l.take (i + 1) = l.take i ++ [x] := by
  rw [List.take_add_one, h]
  rfl
/-- an item of an int's place -/
theorem at_int {α : Type} {xs : List α} {z : Int} {v : α} (h0 : 0 ≤ z) (h : xs[z.toNat]? = some v) : atI xs z = some v := by
  have e : z = ((z.toNat : Nat) : Int) := by omega
  rw [e]
  exact atI_nat h
end RH
set_option Elab.async false
set_option linter.all false
set_option maxRecDepth 100000
set_option maxHeartbeats 2000000
namespace RH
open PySem PySem.Spec PyProof.Rows L2
theorem ix2 {K : PySem.W.Frag} {H : Hp} {xs : List V} {h : List (List Int)} {n : Nat} (hE : Each (TI K H) xs h) (q : Hb n h) {t s : Int} (ht : InR n t) (hs : InR n s) :
    ∃ (a' : Addr) (ns : List Int), atI xs t = some (.ref a') ∧ SqT K H a' (ns.map V.int) ∧ atI (ns.map V.int) s = some (.int (mv h t s)) := by
  obtain ⟨ns, e1, e2, _⟩ := q.at ht.1 ht.2 hs.1 hs.2
  obtain ⟨v, e3, a', rfl, hS⟩ := hE.of e1
  exact ⟨a', ns, at_int ht.1 e3, hS, at_int hs.1 (at_map e2)⟩
end RH
set_option Elab.async false
set_option linter.all false
set_option maxRecDepth 100000
set_option maxHeartbeats 2000000
namespace RH
open PySem PySem.Spec PyProof.Rows L2
/-! ### the law's own row of draws -/
/-- all but what stands at p is as it was -/
def But (p : Addr) (H H' : Hp) : Prop := ∀ b o, H b = some o → b ≠ p → H' b = some o
theorem But.refl (p : Addr) (H : Hp) : But p H H := fun _ _ e _ => e
theorem But.trans {p : Addr} {H H1 H2 : Hp} (a : But p H H1) (b : But p H1 H2) : But p H H2 := fun c o e n => b c o (a c o e n) n
theorem But.same {p : Addr} {H H1 : Hp} (a : Same H H1) : But p H H1 := fun c o e _ => a c o e
theorem But.upd {p : Addr} {H H1 : Hp} {o : HO} (a : But p H H1) : But p H (upd H1 p o) := fun c u e n => by
  rw [upd_ne n]
  exact a c u e n
/-- all that is no list is as it was -/
def Fix (H H' : Hp) : Prop := ∀ b o, H b = some o → (∀ xs, o ≠ .lst xs) → H' b = some o
theorem Fix.refl (H : Hp) : Fix H H := fun _ _ e _ => e
theorem Fix.trans {H H1 H2 : Hp} (a : Fix H H1) (b : Fix H1 H2) : Fix H H2 := fun c o e n => b c o (a c o e n) n
theorem Fix.same {H H1 : Hp} (a : Same H H1) : Fix H H1 := fun c o e _ => a c o e
theorem Fix.lst {H : Hp} {p : Addr} {xs : List V} {o : HO} (h : H p = some (.lst xs)) : Fix H (L2.upd H p o) := fun b u e n => by
  by_cases z : b = p
  · subst z
    rw [h] at e
    cases e
    exact absurd rfl (n _)
  · rw [upd_ne z]
    exact e
theorem Fix.tups {K : PySem.W.Frag} {H H' : Hp} (b : Fix H H') : Tups K H H' := fun a xs hS => by
  rcases hS with (hS | ⟨u, hS⟩) | hS
  · exact .inl (.inl (b _ _ hS (fun _ z => nomatch z)))
  · exact .inl (.inr ⟨u, b _ _ hS (fun _ z => nomatch z)⟩)
  · exact .inr hS
theorem But.fix {H H' : Hp} {p : Addr} {xs : List V} (h : H p = some (.lst xs)) (b : But p H H') : Fix H H' := fun c o e n => b c o e fun z => by
  subst z
  rw [h] at e
  cases e
  exact n _ rfl
/-- a list that never changes -/
def Fz (K : PySem.W.Frag) (H : Hp) (a : Addr) (xs : List V) : Prop := (∃ o, H a = some (.frz o (.lst xs))) ∨ ∀ H', SqL K H' a xs
theorem Fz.seq {K : PySem.W.Frag} {H : Hp} {a : Addr} {xs : List V} (h : Fz K H a xs) : SqL K H a xs := by
  rcases h with ⟨o, h⟩ | h
  · exact .inl (.inr ⟨o, h⟩)
  · exact h H
theorem Fz.on {K : PySem.W.Frag} {H H' : Hp} {a : Addr} {xs : List V} (f : Fix H H') (h : Fz K H a xs) : Fz K H' a xs := by
  rcases h with ⟨o, h⟩ | h
  · exact .inl ⟨o, f _ _ h (fun _ z => nomatch z)⟩
  · exact .inr h
theorem Fz.of {K : PySem.W.Frag} {H : Hp} {a : Addr} {xs : List V} (o : Only H) (h : SqL K H a xs) : Fz K H a xs := by
  rcases h with (h | h) | h
  · rcases o a with e | ⟨u, ys, e⟩
    · rw [e] at h
      cases h
    · rw [e] at h
      cases h
  · exact .inl h
  · exact .inr fun H' => .inr h
/-- row: the script, how many of it are taken, the running number, what is left of a great one -/
structure RowA (K : PySem.W.Frag) (H : Hp) (p a : Addr) (ns : List Int) (i r c : Int) : Prop where
  at_ : H p = some (.lst [.ref a, .int i, .int r, .int c])
  fz : Fz K H a (ns.map V.int)
  pos : 0 ≤ i
theorem RowA.scr {K : PySem.W.Frag} {H : Hp} {p a : Addr} {ns : List Int} {i r c : Int} (h : RowA K H p a ns i r c) : SqL K H a (ns.map V.int) := h.fz.seq
def Row (K : PySem.W.Frag) (H : Hp) (p : Addr) : Prop := ∃ a ns i r c, RowA K H p a ns i r c
theorem RowA.put {K : PySem.W.Frag} {H : Hp} {p a : Addr} {ns : List Int} {i r c i' r' c' : Int} (h : RowA K H p a ns i r c) (hi : 0 ≤ i') :
    RowA K (upd H p (.lst [.ref a, .int i', .int r', .int c'])) p a ns i' r' c' :=
  ⟨upd_same, h.fz.on (Fix.lst h.at_), hi⟩
theorem RowA.row {K : PySem.W.Frag} {H : Hp} {p a : Addr} {ns : List Int} {i r c : Int} (h : RowA K H p a ns i r c) : Row K H p := ⟨_, _, _, _, _, h⟩
theorem Row.lst {K : PySem.W.Frag} {H : Hp} {p : Addr} (h : Row K H p) : ∃ xs, H p = some (.lst xs) := by
  obtain ⟨a, ns, i, r, c, h⟩ := h
  exact ⟨_, h.at_⟩
theorem Row.fix {K : PySem.W.Frag} {H H' : Hp} {p : Addr} (h : Row K H p) (b : But p H H') : Fix H H' := by
  obtain ⟨xs, e⟩ := h.lst
  exact But.fix e b
theorem Row.on {K : PySem.W.Frag} {H H' : Hp} {p : Addr} (h : Row K H p) (f : Fix H H') (e : H' p = H p) : Row K H' p := by
  obtain ⟨a, ns, i, r, c, h⟩ := h
  exact ⟨a, ns, i, r, c, e.trans h.at_, h.fz.on f, h.pos⟩
theorem Row.same {K : PySem.W.Frag} {H H' : Hp} {p : Addr} (h : Row K H p) (s : Same H H') : Row K H' p := by
  obtain ⟨xs, e⟩ := h.lst
  exact h.on (Fix.same s) ((s _ _ e).trans e.symm)
/-- another list is written -/
theorem Row.lst_upd {K : PySem.W.Frag} {H : Hp} {p q : Addr} {xs : List V} {o : HO} (h : Row K H p) (e : H q = some (.lst xs)) (n : p ≠ q) : Row K (upd H q o) p := h.on (Fix.lst e) (upd_ne n)
/-- a new object -/
theorem Row.new {K : PySem.W.Frag} {H : Hp} {p q : Addr} {o : HO} (h : Row K H p) (e : H q = none) : Row K (upd H q o) p := h.same (same_new e)
theorem Row.ne {K : PySem.W.Frag} {H : Hp} {p q : Addr} (h : Row K H p) (e : H q = none) : p ≠ q := by
  obtain ⟨xs, e'⟩ := h.lst
  exact ne_of_none e' e
section
variable {P : Program} {w : World} {K : PySem.W.Frag} {mg : Str → Option Value} {base : Heap}
def spTaken (K : PySem.W.Frag) : Sp := fun vs H Q _ => ∃ (p : Addr) (m : Int), vs = [.ref p, .int m] ∧ Row K H p ∧ 0 < m ∧ m < 1048576 ∧ ∀ k H', 0 ≤ k → k < m → But p H H' → Row K H' p → Q (.int k) H'
theorem ok_taken (F : Df K mg "_law_taken" st__law_taken ["row", "many"]) (B : Bu mg) : Cal P w K mg base 1 "_law_taken" (spTaken K) := by
  refine mkCal F sc__law_taken (fun vs H Q E h => ?_) (fun f cdv A outer s H vs Q E hr h => ?_)
  · obtain ⟨p, m, rfl, _⟩ := h
    rfl
  · obtain ⟨p, m, rfl, ⟨a, ns, i, r, c, hR⟩, m0, m1, q⟩ := h
    refine ⟨_, pss_cons (ps_if (pt_cmpR op_gt (pe_ix ix_list (pv 0) pe_int (fun _ _ => rfl)) pe_int (nomark _))
        (pss_cons (ps_set (i := 2) sc__law_taken.nd rfl (.inl rfl) (pe_op op_mod (pe_callTy call_int1 (by rfl) B.int (by decide +kernel) (pa_cons (pe_ix ix_list (pv 0) pe_int (fun _ _ => rfl)) pa_nil)) (pv 1)))
        (pss_cons (ps_asg (pe_op op_fdiv (pe_ix ix_list (pv 0) pe_int (fun _ _ => rfl)) (pv 1)) (pg_sub (pv 0) pe_int set_list))
        (pss_one (ps_ret (pv 2))))) pss_nil)
      (pss_cons (ps_asg (pe_op op_add (pe_ix ix_list (pv 0) pe_int (fun _ _ => rfl)) pe_int) (pg_sub (pv 0) pe_int set_list))
      (pss_cons (ps_if (pt_cmpR op_gt (pe_ix ix_list (pv 0) pe_int (fun _ _ => rfl)) (pe_callB (cl_len K) (by rfl) B.len PySem.boot_len (pa_cons (pe_ix ix_list (pv 0) pe_int (fun _ _ => rfl)) pa_nil)) (nomark _))
        (pss_cons (ps_asg (pe_op op_mod (pe_callTy call_int1 (by rfl) B.int (by decide +kernel) (pa_cons (pe_op op_add (pe_op op_mul (pe_ix ix_list (pv 0) pe_int (fun _ _ => rfl)) pe_int) pe_int) pa_nil)) pe_int) (pg_sub (pv 0) pe_int set_list))
        (pss_one (ps_ret (pe_op op_mod (pe_callTy call_int1 (by rfl) B.int (by decide +kernel) (pa_cons (pe_op op_fdiv (pe_ix ix_list (pv 0) pe_int (fun _ _ => rfl)) pe_int) pa_nil)) (pv 1))))) pss_nil)
      (pss_cons (ps_set (i := 3) sc__law_taken.nd rfl (.inl rfl) (pe_ix ix_list (pe_ix ix_list (pv 0) pe_int (fun _ _ => rfl)) (pe_op op_sub (pe_ix ix_list (pv 0) pe_int (fun _ _ => rfl)) pe_int) (fun _ _ => rfl)))
      (pss_cons (ps_asg (pe_op op_mod (pe_callTy call_int1 (by rfl) B.int (by decide +kernel) (pa_cons (pe_op op_add (pe_op op_add (pe_op op_mul (pe_ix ix_list (pv 0) pe_int (fun _ _ => rfl)) pe_int) (pv 3)) pe_int) pa_nil)) pe_int) (pg_sub (pv 0) pe_int set_list))
      (pss_cons (ps_if (pt_cmpR op_ge (pv 3) (pe_op op_pow pe_int pe_int) (nomark _))
        (pss_one (ps_asg (pe_op op_fdiv (pv 3) (pv 1)) (pg_sub (pv 0) pe_int set_list))) pss_nil)
      (pss_one (ps_ret (pe_op op_mod (pe_callTy call_int1 (by rfl) B.int (by decide +kernel) (pa_cons (pv 3) pa_nil)) (pv 1))))))))), ?_⟩
    have L := hR.at_
    refine ⟨_, rfl, p, _, 3, .int c, rfl, rfl, lstAt L, rfl, c, 0, rfl, rfl, _, rfl, ite2 (fun e => ?_) (fun e => ?_)⟩
    · refine ⟨_, rfl, p, _, 3, .int c, rfl, rfl, lstAt L, rfl, .inl ⟨c, rfl, _, rfl, c, m, rfl, rfl, m0, ?_⟩⟩
      refine ⟨_, rfl, p, _, 3, .int c, rfl, rfl, lstAt L, rfl, _, rfl, c, m, rfl, rfl, ⟨m0, by omega⟩, _, rfl, p, _, 3, 3, rfl, rfl, L, rfl, ?_⟩
      exact ⟨_, rfl, q (c % m) _ (Int.emod_nonneg _ (by omega)) (Int.emod_lt_of_pos _ m0) (But.upd (But.refl p H)) (hR.put hR.pos).row⟩
    · refine ⟨_, rfl, p, _, 1, .int i, rfl, rfl, lstAt L, rfl, i, 1, rfl, rfl, _, rfl, p, _, 1, 1, rfl, rfl, L, rfl, ?_⟩
      have R1 : RowA K (upd H p (.lst [.ref a, .int (i + 1), .int r, .int c])) p a ns (i + 1) r c := hR.put (by have := hR.pos; omega)
      have L1 := R1.at_
      refine ⟨_, rfl, p, _, 1, .int (i + 1), rfl, rfl, lstAt L1, rfl, _, rfl, p, _, 0, .ref a, rfl, rfl, lstAt L1, rfl, a, _, rfl, .inl R1.scr, _, _, rfl, rfl, _, rfl, ite2 (fun e1 => ?_) (fun e1 => ?_)⟩
      · refine ⟨_, rfl, p, _, 2, .int r, rfl, rfl, lstAt L1, rfl, r, 48271, rfl, rfl, .inr ⟨by decide, by decide⟩, _, 11, rfl, rfl, .inl ⟨_, rfl, _, _, rfl, rfl, (by show (0 : Int) < 2147483647; decide), _, rfl, p, _, 2, 2, rfl, rfl, L1, rfl, ?_⟩⟩
        have R2 : RowA K (upd (upd H p (.lst [.ref a, .int (i + 1), .int r, .int c])) p (.lst [.ref a, .int (i + 1), .int ((r * 48271 + 11) % 2147483647), .int c])) p a ns (i + 1) ((r * 48271 + 11) % 2147483647) c := R1.put R1.pos
        refine ⟨_, rfl, p, _, 2, _, rfl, rfl, lstAt R2.at_, rfl, _, 7, rfl, rfl, ⟨by decide, by decide⟩, .inl ⟨_, rfl, _, rfl, _, m, rfl, rfl, m0, ?_⟩⟩
        exact q _ _ (Int.emod_nonneg _ (by omega)) (Int.emod_lt_of_pos _ m0) (But.upd (But.upd (But.refl p H))) R2.row
      · have hi : i < (ns.length : Int) := by
          rw [List.length_map] at e1
          have e9 : i + 1 ≤ (ns.length : Int) := by simpa using e1
          omega
        have hi0 := hR.pos
        obtain ⟨z, hz⟩ : ∃ z, ns[i.toNat]? = some z := ⟨ns[i.toNat]'(by omega), List.getElem?_eq_getElem (by omega)⟩
        refine ⟨_, rfl, p, _, 0, .ref a, rfl, rfl, lstAt L1, rfl, _, rfl, p, _, 1, .int (i + 1), rfl, rfl, lstAt L1, rfl, _, 1, rfl, rfl, a, _, i + 1 - 1, .int z, rfl, rfl, R1.scr, at_int (by omega) (at_map (by rw [show (i + 1 - 1).toNat = i.toNat by omega]; exact hz)), ?_⟩
        refine ⟨_, rfl, p, _, 2, .int r, rfl, rfl, lstAt L1, rfl, r, 48271, rfl, rfl, .inr ⟨by decide, by decide⟩, _, rfl, _, z, rfl, rfl, _, 11, rfl, rfl, .inl ⟨_, rfl, _, _, rfl, rfl, (by show (0 : Int) < 2147483647; decide), _, rfl, p, _, 2, 2, rfl, rfl, L1, rfl, ?_⟩⟩
        have R2 : RowA K (upd (upd H p (.lst [.ref a, .int (i + 1), .int r, .int c])) p (.lst [.ref a, .int (i + 1), .int ((r * 48271 + z + 11) % 2147483647), .int c])) p a ns (i + 1) ((r * 48271 + z + 11) % 2147483647) c := R1.put R1.pos
        refine ⟨_, rfl, 10, 18, rfl, rfl, ⟨by decide, by decide, by decide⟩, z, _, rfl, rfl, _, rfl, ite2 (fun e2 => ?_) (fun e2 => ?_)⟩
        · refine ⟨_, rfl, _, rfl, z, m, rfl, rfl, ⟨m0, by omega⟩, _, rfl, p, _, 3, 3, rfl, rfl, R2.at_, rfl, ?_⟩
          refine ⟨_, rfl, .inl ⟨z, rfl, _, rfl, z, m, rfl, rfl, m0, ?_⟩⟩
          exact q _ _ (Int.emod_nonneg _ (by omega)) (Int.emod_lt_of_pos _ m0) (But.upd (But.upd (But.upd (But.refl p H)))) (R2.put R2.pos).row
        · refine ⟨_, rfl, .inl ⟨z, rfl, _, rfl, z, m, rfl, rfl, m0, ?_⟩⟩
          exact q _ _ (Int.emod_nonneg _ (by omega)) (Int.emod_lt_of_pos _ m0) (But.upd (But.upd (But.refl p H))) R2.row
end
end RH
set_option Elab.async false
set_option linter.all false
set_option maxRecDepth 100000
set_option maxHeartbeats 2000000
namespace RH
open PySem PySem.Spec PyProof.Rows L2
theorem ix_nat {n : Nat} {k : Int} (h0 : 0 ≤ k) (h1 : k < n) : seqIndex? k n = some k.toNat := by
  unfold seqIndex?
  have e : (if k < 0 then k + (n : Int) else k) = k := if_neg (by omega)
  simp only [e]
  rw [if_pos]
  simp [h0, h1]
theorem But.fresh {p l : Addr} {H H1 : Hp} {o : HO} (a : But p H H1) (e : H l = none) : But p H (L2.upd H1 l o) := fun c u h n => by
  rw [upd_ne (ne_of_none h e)]
  exact a c u h n
theorem map_erase (ns : List Int) (k : Nat) : (ns.map V.int).eraseIdx k = (ns.eraseIdx k).map V.int := by
  induction ns generalizing k with
  | nil => rfl
  | cons n ns ih =>
    cases k with
    | zero => rfl
    | succ k =>
      show V.int n :: (ns.map V.int).eraseIdx k = V.int n :: (ns.eraseIdx k).map V.int
      rw [ih]
theorem perm_erase : ∀ {ls : List Int} {k : Nat} {y : Int}, ls[k]? = some y → ls.Perm (y :: ls.eraseIdx k)
  | [], k, y, h => by simp at h
  | a :: ls, 0, y, h => by
    have e : a = y := Option.some.inj h
    subst e
    exact List.Perm.refl _
  | a :: ls, k + 1, y, h => by
    have ih := perm_erase (ls := ls) (k := k) (y := y) h
    exact (ih.cons a).trans (List.Perm.swap ..)
section
variable {P : Program} {w : World} {K : PySem.W.Frag} {mg : Str → Option Value} {base : Heap}
def spPick (K : PySem.W.Frag) : Sp := fun vs H Q _ => ∃ (p l : Addr) (xs : List V), vs = [.ref p, .ref l] ∧ Row K H p ∧ H l = some (.lst xs) ∧ l ≠ p ∧ 0 < xs.length ∧ xs.length ≤ 1000 ∧
  ∀ (i : Nat) x H', xs[i]? = some x → But p H H' → Row K H' p → Q x H'
theorem ok_pick (F : Df K mg "_law_pick" st__law_pick ["row", "things"]) (B : Bu mg) (CT : Cal P w K mg base 1 "_law_taken" (spTaken K)) : Cal P w K mg base 2 "_law_pick" (spPick K) := by
  refine mkCal F sc__law_pick (fun vs H Q E h => ?_) (fun f cdv A outer s H vs Q E hr h => ?_)
  · obtain ⟨p, l, xs, rfl, _⟩ := h
    rfl
  · obtain ⟨p, l, xs, rfl, hR, hl, hlp, l0, l1, q⟩ := h
    refine ⟨_, pss_one (ps_ret (pe_ix ix_list (pv 1) (pc CT hr (pa_cons (pv 0) (pa_cons (pe_callB (cl_len K) (by rfl) B.len PySem.boot_len (pa_cons (pv 1) pa_nil)) pa_nil))) (fun _ _ => rfl))), ?_⟩
    refine ⟨_, rfl, _, rfl, _, rfl, l, xs, rfl, .inl (lstAt hl), p, xs.length, rfl, hR, by omega, by omega, fun k H' k0 k1 hB hR' => ?_⟩
    have hk : k.toNat < xs.length := by omega
    exact ⟨l, xs, k, _, rfl, rfl, lstAt (hB _ _ hl hlp), at_int k0 (List.getElem?_eq_getElem hk), q _ _ H' (List.getElem?_eq_getElem hk) hB hR'⟩
def spOrder (K : PySem.W.Frag) : Sp := fun vs H Q _ => ∃ (p : Addr) (n : Nat), vs = [.ref p, .int n] ∧ Row K H p ∧ n ≤ 1000 ∧ ∀ (H' : Hp) (q : Addr) (ns : List Int), ns.Perm (rg n) → But p H H' → Row K H' p → H q = none → FT H' q ns → Q (.ref q) H'
theorem ok_order (F : Df K mg "_law_order" st__law_order ["row", "many"]) (B : Bu mg) (CT : Cal P w K mg base 1 "_law_taken" (spTaken K)) : Cal P w K mg base 2 "_law_order" (spOrder K) := by
  refine mkCal F sc__law_order (fun vs H Q E h => ?_) (fun f cdv A outer s H vs Q E hr h => ?_)
  · obtain ⟨p, n, rfl, _⟩ := h
    rfl
  · obtain ⟨p, n, rfl, hR, hn, q⟩ := h
    refine ⟨_, pss_cons (ps_par (i := 2) (j := 3) rfl sc__law_order.nd rfl rfl (by decide) rfl rfl (pa_cons (pe_listRg rfl (by rfl) B.list (prg_1 (by rfl) B.range (pv 1))) (pa_cons (pe_lst pa_nil) pa_nil)) rfl)
      (pss_cons (ps_while PassesOwn.never (pt_cmpR (op_neD hr.units) (pv 2) (pe_lst pa_nil) (nomark _))
        (pss_one (ps_expr (pe_bm PySem.F.plainAttrs_list PySem.F.slot_list_append PySem.F.type_list_append mt_append (pv 3) (pa_cons (pe_bm PySem.F.plainAttrs_list PySem.F.slot_list_pop PySem.F.type_list_pop mt_popAt (pv 2)
          (pa_cons (pc CT hr (pa_cons (pv 0) (pa_cons (pe_callB (cl_len K) (by rfl) B.len PySem.boot_len (pa_cons (pv 2) pa_nil)) pa_nil))) pa_nil)) pa_nil)))))
      (pss_one (ps_ret (pe_tupleF (by rfl) B.tuple (pv 3))))), ?_⟩
    refine ⟨_, rfl, n, rfl, ⟨by omega, by omega, by omega, by omega, by omega⟩, fun l hl => ⟨Nat.zero_le _, fun g hg => ⟨_, _, rfl, ?_⟩⟩⟩
    have hlg : l ≠ g := ne_of_none upd_same hg
    have hgH : H g = none := by
      rw [upd_ne (Ne.symm hlg)] at hg
      exact hg
    have hpl : p ≠ l := hR.ne hl
    have hpg : p ≠ g := hR.ne hgH
    refine ⟨fun m σ H' => ∃ ls fs : List Int, m = ls.length ∧ σ = [some (.ref p), some (.int n), some (.ref l), some (.ref g)] ∧ But p H H' ∧ Row K H' p ∧ H' l = some (.lst (ls.map V.int)) ∧ H' g = some (.lst (fs.map V.int)) ∧ (fs ++ ls).Perm (rg n),
      ⟨(rg n).length, rg n, [], rfl, rfl, But.same (Same.trans (same_new hl) (same_new hg)), (hR.new hl).new hg, ?_, upd_same, List.Perm.refl _⟩, ?_⟩
    · rw [upd_ne hlg, upd_same, rgV_rg]
    rintro m σ H1 ⟨ls, fs, rfl, rfl, hB, hR1, e1, e2, hpm⟩
    refine ⟨_, rfl, Nat.zero_le _, fun z hz => ?_⟩
    have sz : Same H1 (upd H1 z (.lst [])) := same_new hz
    refine ⟨_, _, dp_lst (ns := ls) (lstAt (sz _ _ e1)), dp_lst (ns := []) (lstAt upd_same), PySem.W.ke_shaped_ints _, PySem.W.ke_shaped_ints _, _, rfl, ?_⟩
    rw [eqv_lst]
    have len1 : fs.length + ls.length = n := by
      have := hpm.length_eq
      rw [List.length_append, rg_len] at this
      exact this
    cases ls with
    | nil =>
      refine ifF rfl ⟨_, rfl, g, _, rfl, lstAt (sz _ _ e2), fun t ob ht hob => ?_⟩
      rw [List.append_nil] at hpm
      have st : Same H1 (upd (upd H1 z (.lst [])) t (.frz ob (.tup (fs.map V.int)))) := sz.trans (same_new ht)
      refine q _ t fs hpm (hB.trans (But.same st)) (hR1.same st) ?_ ⟨ob, upd_same, hob⟩
      cases e : H t with
      | none => rfl
      | some o =>
        exfalso
        by_cases zp : t = p
        · obtain ⟨xs, ep⟩ := hR1.lst
          rw [zp, sz _ _ ep] at ht
          cases ht
        · rw [sz _ _ (hB _ _ e zp)] at ht
          cases ht
    | cons y ls =>
      have hRz : Row K (upd H1 z (.lst [])) p := hR1.same sz
      have e1z := sz _ _ e1
      have e2z := sz _ _ e2
      refine ifT rfl ⟨fun σ' H' => ∃ m', m' < (y :: ls).length ∧ ∃ ls fs : List Int, m' = ls.length ∧ σ' = [some (.ref p), some (.int n), some (.ref l), some (.ref g)] ∧ But p H H' ∧ Row K H' p ∧ H' l = some (.lst (ls.map V.int)) ∧ H' g = some (.lst (fs.map V.int)) ∧ (fs ++ ls).Perm (rg n), fun _ _ h => h, ?_⟩
      refine ⟨_, rfl, .inl ⟨rfl, _, lstAt e2z⟩, _, rfl, .inl ⟨rfl, _, lstAt e1z⟩, _, rfl, _, rfl, l, _, rfl, .inl (lstAt e1z), p, _, rfl, hRz, ?_, ?_, fun k H3 k0 k1 hB3 hR3 => ?_⟩
      · rw [List.length_map, List.length_cons]
        omega
      · rw [List.length_map]
        omega
      rw [List.length_map] at k1
      have e1' := hB3 _ _ e1z (Ne.symm hpl)
      have e2' := hB3 _ _ e2z (Ne.symm hpg)
      have hk : k.toNat < (y :: ls).length := by omega
      obtain ⟨v, hv⟩ : ∃ v, (y :: ls)[k.toNat]? = some v := ⟨_, List.getElem?_eq_getElem hk⟩
      have e2u : (upd H3 l (.lst (((y :: ls).map V.int).eraseIdx k.toNat))) g = some (.lst (fs.map V.int)) := by
        rw [upd_ne (Ne.symm hlg)]
        exact e2'
      refine ⟨l, _, k, k.toNat, .int v, rfl, rfl, e1', by omega, by omega, ?_, at_map hv, g, _, .int v, rfl, rfl, e2u, ?_, ?_⟩
      · rw [List.length_map]
        exact ix_nat k0 k1
      · rw [List.length_map]
        exact small1000 (by have := List.length_cons (a := y) (as := ls); omega)
      · refine ⟨((y :: ls).eraseIdx k.toNat).length, ?_, (y :: ls).eraseIdx k.toNat, fs ++ [v], rfl, rfl, ?_, ?_, ?_, ?_, ?_⟩
        · rw [List.length_eraseIdx_of_lt hk]
          omega
        · exact (((hB.trans (But.same sz)).trans hB3).fresh hl).fresh hgH
        · exact (hR3.lst_upd e1' hpl).lst_upd e2u hpg
        · rw [upd_ne hlg, upd_same, map_erase]
        · rw [upd_same, List.map_append]
          rfl
        · have hp2 := perm_erase hv
          refine List.Perm.trans ?_ hpm
          rw [List.append_assoc]
          exact List.Perm.append_left fs hp2.symm
end
end RH
set_option Elab.async false
set_option linter.all false
set_option maxRecDepth 100000
set_option maxHeartbeats 2000000
namespace RH
open PySem PySem.Spec PyProof.Rows L2
/-! ### _law_alike of equal data -/
theorem Dp.on {K : PySem.W.Frag} {H H' : Hp} (s : Same H H') : ∀ (d : PyData) (v : V), Dp K H v d → Dp K H' v d
  | d, v, h => by
    refine Dp.rec (motive_1 := fun v d _ => Dp K H' v d) (motive_2 := fun vs ds _ => DpAll K H' vs ds) .non .bl .int .str ?_ ?_ .nil ?_ h
    · intro a xs ds h1 _ h2
      exact .lst (s.seq h1) h2
    · intro a xs ds h1 _ h2
      exact .tup (onT s h1) h2
    · intro v vs d ds _ _ h1 h2
      exact .cons h1 h2
theorem DpAll.len {K : PySem.W.Frag} {H : Hp} : ∀ {vs : List V} {ds : List PyData}, DpAll K H vs ds → vs.length = ds.length
  | _, _, .nil => rfl
  | _, _, .cons _ t => congrArg (· + 1) (DpAll.len t)
theorem DpAll.of {K : PySem.W.Frag} {H : Hp} : ∀ {vs : List V} {ds : List PyData} {i : Nat} {d : PyData}, DpAll K H vs ds → ds[i]? = some d → ∃ v, vs[i]? = some v ∧ Dp K H v d
  | _, _, _, _, .nil, e => by simp at e
  | _, _, 0, _, .cons h _, e => by
    have e' := Option.some.inj e
    subst e'
    exact ⟨_, rfl, h⟩
  | _, _, i + 1, _, .cons _ t, e => DpAll.of (i := i) t e
def okD : Nat → PyData → Prop
  | 0, .none => True
  | 0, .bool _ => True
  | 0, .int _ => True
  | 0, .str _ => True
  | 0, _ => False
  | _ + 1, .none => True
  | _ + 1, .bool _ => True
  | _ + 1, .int _ => True
  | _ + 1, .str _ => True
  | k + 1, .list ds => ds.length ≤ 1000 ∧ ∀ d ∈ ds, okD k d
  | k + 1, .tuple ds => ds.length ≤ 1000 ∧ ∀ d ∈ ds, okD k d
  | _ + 1, .dict _ => False
theorem kit2 {K : PySem.W.Frag} {t : String} {b1 b2 : Bool} (h1 : kitB t "tuple" = some b1) (h2 : kitB t "list" = some b2) : PySem.W.kitAny K (.type t) [.type "tuple", .type "list"] = some (b1 || b2) := by
  cases b1 with
  | true => exact kitAny_cons (kit_ty h1) (fun z => nomatch z) (fun _ => rfl)
  | false =>
    cases b2 with
    | true => exact kitAny_cons (kit_ty h1) (fun _ => kitAny_cons (kit_ty h2) (fun z => nomatch z) (fun _ => rfl)) (fun z => nomatch z)
    | false => exact kitAny_cons (kit_ty h1) (fun _ => kitAny_cons (kit_ty h2) (fun _ => kitAny_nil) (fun z => nomatch z)) (fun z => nomatch z)
theorem cls2 : Paired ClsV [V.ty "tuple", V.ty "list"] [Value.type "tuple", Value.type "list"] := .cons (.ty _) (.cons (.ty _) .nil)
theorem ixS {X : Cx} (K : PySem.W.Frag) (h : X.K = K := by rfl) : IxR X (rIx K) := by
  subst h
  exact ix_seq
/-- a list or a tuple -/
structure Sq2 (K : PySem.W.Frag) (H : Hp) (a : Addr) (xs : List V) (T : String) (b : Bool) : Prop where
  ty : TyX K H (.ref a) (.type T)
  sq : SqL K H a xs ∨ SqT K H a xs
  k1 : PySem.W.kitAny K (.type T) [.type "tuple", .type "list"] = some true
  k2 : PySem.W.kitOne K (.type T) (.type "list") = some b
  ix : ∀ (i : Nat) (x : V) (Q : VK), xs[i]? = some x → Q x H → rIx K (.ref a) (.int (i : Int)) H Q
theorem sq2T {K : PySem.W.Frag} {H : Hp} {a : Addr} {xs : List V} (h : SqT K H a xs) : Sq2 K H a xs "tuple" false :=
  ⟨ty_tup h, .inr h, kit2 (b1 := true) (b2 := false) (by decide +kernel) (by decide +kernel), kit_ty (by decide +kernel), fun i x Q e q => .inr (.inl ⟨a, xs, i, x, rfl, rfl, h, atI_nat e, q⟩)⟩
theorem ty_lst {K : PySem.W.Frag} {H : Hp} {a : Addr} {xs : List V} (h : SqL K H a xs) : TyX K H (.ref a) (.type "list") := by
  rcases h with (h | ⟨o, h⟩) | ⟨o, vz, n, h, c, _⟩
  · exact .base (.lst h)
  · exact .base (.frz h)
  · exact .kList h c
theorem sq2L {K : PySem.W.Frag} {H : Hp} {a : Addr} {xs : List V} (h : SqL K H a xs) : Sq2 K H a xs "list" true :=
  ⟨ty_lst h, .inl h, kit2 (b1 := false) (b2 := true) (by decide +kernel) (by decide +kernel), kit_ty (by decide +kernel), fun i x Q e q => .inl ⟨a, xs, i, x, rfl, rfl, h, atI_nat e, q⟩⟩
theorem pss_no {X : Cx} {sts : List Stmt} : PSs X sts (fun _ _ _ => False) := ⟨fun _ _ _ _ _ _ h => h.elim⟩
section
variable {P : Program} {w : World} {K : PySem.W.Frag} {mg : Str → Option Value} {base : Heap}
def spAlike (K : PySem.W.Frag) (k : Nat) : Sp := fun vs H Q _ => ∃ (v u : V) (d : PyData), vs = [v, u] ∧ Dp K H v d ∧ Dp K H u d ∧ okD k d ∧ ∀ H', Same H H' → Q (.bl true) H'
theorem ok_alike0 (F : Df K mg "_law_alike" st__law_alike ["found", "due"]) (B : Bu mg) : Cal P w K mg base 1 "_law_alike" (spAlike K 0) := by
  refine mkCal F sc__law_alike (fun vs H Q E h => ?_) (fun f cdv A outer s H vs Q E hr h => ?_)
  · obtain ⟨v, u, d, rfl, _⟩ := h
    rfl
  · obtain ⟨v, u, d, rfl, hv, hu, hk, q⟩ := h
    refine ⟨_, pss_cons (ps_if (pt_val (pe_callB call_isiT (by rfl) B.isi (by decide +kernel) (pa_cons (pv 1) (pa_cons (pe_tup (pa_cons (pe_bltn (v := .ty "tuple") (by rfl) B.tuple (by decide +kernel) rfl) (pa_cons (pe_bltn (v := .ty "list") (by rfl) B.list (by decide +kernel) rfl) pa_nil))) pa_nil)))) pss_no pss_nil)
      (pss_cons (ps_if (PW.pt (pw_or (pt_cmp (pc_isN (pv 1))) (pw_or1 (pt_val (pe_callB call_isi (by rfl) B.isi (by decide +kernel) (pa_cons (pv 1) (pa_cons (pe_bltn (v := .ty "str") (by rfl) B.str (by decide +kernel) rfl) pa_nil)))))))
        (pss_one (ps_ret (pe_and (pe_cmpR op_eq (pv 0) (pv 1) (nomark _)) (pe_one (pe_cmpR op_eq (pe_callB call_isi (by rfl) B.isi (by decide +kernel) (pa_cons (pv 0) (pa_cons (pe_bltn (v := .ty "str") (by rfl) B.str (by decide +kernel) rfl) pa_nil)))
          (pe_callB call_isi (by rfl) B.isi (by decide +kernel) (pa_cons (pv 1) (pa_cons (pe_bltn (v := .ty "str") (by rfl) B.str (by decide +kernel) rfl) pa_nil))) (nomark _)))))) pss_nil)
      (pss_one (ps_ret (pe_and (pe_callB call_isi (by rfl) B.isi (by decide +kernel) (pa_cons (pv 0) (pa_cons (pe_bltn (v := .ty "int") (by rfl) B.int (by decide +kernel) rfl) pa_nil)))
        (pe_and (pe_cmpR op_eq (pe_callB call_isi (by rfl) B.isi (by decide +kernel) (pa_cons (pv 0) (pa_cons (pe_bltn (v := .ty "bool") (by rfl) B.bool (by decide +kernel) rfl) pa_nil)))
          (pe_callB call_isi (by rfl) B.isi (by decide +kernel) (pa_cons (pv 1) (pa_cons (pe_bltn (v := .ty "bool") (by rfl) B.bool (by decide +kernel) rfl) pa_nil))) (nomark _)) (pe_one (pe_cmpR op_eq (pv 0) (pv 1) (nomark _)))))))), ?_⟩
    cases hv with
    | non =>
      cases hu
      refine ⟨_, rfl, (by show 2 ≤ sizeLine; decide), fun t ht => ⟨.non, t, _, _, _, false, rfl, upd_same, cls2, .base .non, kit2 (b1 := false) (b2 := false) (by decide +kernel) (by decide +kernel), _, rfl, ifF rfl ?_⟩⟩
      refine ⟨_, rfl, _, rfl, ifT (decide_eq_true rfl) (ifT rfl ?_)⟩
      exact ⟨_, rfl, _, rfl, rfl, _, rfl, ifT (decide_eq_true rfl) ⟨_, rfl, .non, .ty "str", _, _, false, rfl, .ty "str", .base .non, kit_ty (by decide +kernel), _, rfl, .non, .ty "str", _, _, false, rfl, .ty "str", .base .non, kit_ty (by decide +kernel), rfl, q _ (same_new ht)⟩⟩
    | bl b =>
      cases hu
      refine ⟨_, rfl, (by show 2 ≤ sizeLine; decide), fun t ht => ⟨.bl b, t, _, _, _, false, rfl, upd_same, cls2, .base (.bl b), kit2 (b1 := false) (b2 := false) (by decide +kernel) (by decide +kernel), _, rfl, ifF rfl ?_⟩⟩
      refine ⟨_, rfl, _, rfl, ifF (decide_eq_false (fun z => nomatch z)) ⟨_, rfl, .bl b, .ty "str", _, _, false, rfl, .ty "str", .base (.bl b), kit_ty (by decide +kernel), _, rfl, ifF rfl ?_⟩⟩
      refine ⟨_, rfl, .bl b, .ty "int", _, _, true, rfl, .ty "int", .base (.bl b), kit_ty (by decide +kernel), _, rfl, ifT rfl ?_⟩
      refine ⟨_, rfl, .bl b, .ty "bool", _, _, true, rfl, .ty "bool", .base (.bl b), kit_ty (by decide +kernel), _, rfl, .bl b, .ty "bool", _, _, true, rfl, .ty "bool", .base (.bl b), kit_ty (by decide +kernel), rfl, _, rfl, ifT (decide_eq_true rfl) ?_⟩
      refine ⟨_, rfl, _, rfl, rfl, ?_⟩
      rw [decide_eq_true (rfl : V.bl b = V.bl b)]
      exact q _ (same_new ht)
    | int i =>
      cases hu
      refine ⟨_, rfl, (by show 2 ≤ sizeLine; decide), fun t ht => ⟨.int i, t, _, _, _, false, rfl, upd_same, cls2, .base (.int i), kit2 (b1 := false) (b2 := false) (by decide +kernel) (by decide +kernel), _, rfl, ifF rfl ?_⟩⟩
      refine ⟨_, rfl, _, rfl, ifF (decide_eq_false (fun z => nomatch z)) ⟨_, rfl, .int i, .ty "str", _, _, false, rfl, .ty "str", .base (.int i), kit_ty (by decide +kernel), _, rfl, ifF rfl ?_⟩⟩
      refine ⟨_, rfl, .int i, .ty "int", _, _, true, rfl, .ty "int", .base (.int i), kit_ty (by decide +kernel), _, rfl, ifT rfl ?_⟩
      refine ⟨_, rfl, .int i, .ty "bool", _, _, false, rfl, .ty "bool", .base (.int i), kit_ty (by decide +kernel), _, rfl, .int i, .ty "bool", _, _, false, rfl, .ty "bool", .base (.int i), kit_ty (by decide +kernel), rfl, _, rfl, ifT (decide_eq_true rfl) ?_⟩
      refine ⟨_, rfl, _, rfl, rfl, ?_⟩
      rw [decide_eq_true (rfl : V.int i = V.int i)]
      exact q _ (same_new ht)
    | str x =>
      cases hu
      refine ⟨_, rfl, (by show 2 ≤ sizeLine; decide), fun t ht => ⟨.str x, t, _, _, _, false, rfl, upd_same, cls2, .base (.str x), kit2 (b1 := false) (b2 := false) (by decide +kernel) (by decide +kernel), _, rfl, ifF rfl ?_⟩⟩
      refine ⟨_, rfl, _, rfl, ifF (decide_eq_false (fun z => nomatch z)) ⟨_, rfl, .str x, .ty "str", _, _, true, rfl, .ty "str", .base (.str x), kit_ty (by decide +kernel), _, rfl, ifT rfl ?_⟩⟩
      exact ⟨_, rfl, _, rfl, rfl, _, rfl, ifT (decide_eq_true rfl) ⟨_, rfl, .str x, .ty "str", _, _, true, rfl, .ty "str", .base (.str x), kit_ty (by decide +kernel), _, rfl, .str x, .ty "str", _, _, true, rfl, .ty "str", .base (.str x), kit_ty (by decide +kernel), rfl, q _ (same_new ht)⟩⟩
    | lst _ _ => exact hk.elim
    | tup _ _ => exact hk.elim
end
end RH
set_option Elab.async false
set_option linter.all false
set_option maxRecDepth 100000
set_option maxHeartbeats 2000000
namespace RH
open PySem PySem.Spec PyProof.Rows L2
theorem alike_cases {K : PySem.W.Frag} {H : Hp} {k : Nat} {v u : V} {d : PyData} (hv : Dp K H v d) (hu : Dp K H u d) (hk : okD (k + 1) d) : okD 0 d ∨ ∃ (a b : Addr) (xs ys : List V) (ds : List PyData) (T : String) (bl : Bool), v = .ref a ∧ u = .ref b ∧
    (∀ H', Same H H' → Sq2 K H' a xs T bl) ∧ (∀ H', Same H H' → Sq2 K H' b ys T bl) ∧ DpAll K H xs ds ∧ DpAll K H ys ds ∧ ds.length ≤ 1000 ∧ ∀ d ∈ ds, okD k d := by
  cases hv with
  | non => exact .inl True.intro
  | bl _ => exact .inl True.intro
  | int _ => exact .inl True.intro
  | str _ => exact .inl True.intro
  | @lst a xs ds h1 h2 =>
    cases hu with
    | @lst b ys _ h3 h4 => exact .inr ⟨a, b, xs, ys, ds, "list", true, rfl, rfl, fun _ s => sq2L (s.seq h1), fun _ s => sq2L (s.seq h3), h2, h4, hk.1, hk.2⟩
  | @tup a xs ds h1 h2 =>
    cases hu with
    | @tup b ys _ h3 h4 => exact .inr ⟨a, b, xs, ys, ds, "tuple", false, rfl, rfl, fun _ s => sq2T (onT s h1), fun _ s => sq2T (onT s h3), h2, h4, hk.1, hk.2⟩
section
variable {P : Program} {w : World} {K : PySem.W.Frag} {mg : Str → Option Value} {base : Heap}
theorem ok_alikeS (k : Nat) (F : Df K mg "_law_alike" st__law_alike ["found", "due"]) (B : Bu mg) (C : Cal P w K mg base (k + 1) "_law_alike" (spAlike K k)) : Cal P w K mg base (k + 2) "_law_alike" (spAlike K (k + 1)) := by
  refine mkCal F sc__law_alike (fun vs H Q E h => ?_) (fun f cdv A outer s H vs Q E hr h => ?_)
  · obtain ⟨v, u, d, rfl, _⟩ := h
    rfl
  · obtain ⟨v, u, d, rfl, hv, hu, hk, q⟩ := h
    refine ⟨_, pss_cons (ps_if (pt_val (pe_callB call_isiT (by rfl) B.isi (by decide +kernel) (pa_cons (pv 1) (pa_cons (pe_tup (pa_cons (pe_bltn (v := .ty "tuple") (by rfl) B.tuple (by decide +kernel) rfl) (pa_cons (pe_bltn (v := .ty "list") (by rfl) B.list (by decide +kernel) rfl) pa_nil))) pa_nil))))
        (pss_cons (ps_if (PW.pt (pw_or (pt_not (pt_val (pe_callB call_isiT (by rfl) B.isi (by decide +kernel) (pa_cons (pv 0) (pa_cons (pe_tup (pa_cons (pe_bltn (v := .ty "tuple") (by rfl) B.tuple (by decide +kernel) rfl) (pa_cons (pe_bltn (v := .ty "list") (by rfl) B.list (by decide +kernel) rfl) pa_nil))) pa_nil)))))
            (pw_or1 (pt_cmpR op_ne (pe_callB call_isi (by rfl) B.isi (by decide +kernel) (pa_cons (pv 0) (pa_cons (pe_bltn (v := .ty "list") (by rfl) B.list (by decide +kernel) rfl) pa_nil)))
              (pe_callB call_isi (by rfl) B.isi (by decide +kernel) (pa_cons (pv 1) (pa_cons (pe_bltn (v := .ty "list") (by rfl) B.list (by decide +kernel) rfl) pa_nil))) (nomark _))))) (pss_one (ps_ret pe_bl)) pss_nil)
        (pss_cons (ps_if (pt_cmpR op_ne (pe_callB (cl_len K) (by rfl) B.len PySem.boot_len (pa_cons (pv 0) pa_nil)) (pe_callB (cl_len K) (by rfl) B.len PySem.boot_len (pa_cons (pv 1) pa_nil)) (nomark _)) (pss_one (ps_ret pe_bl)) pss_nil)
        (pss_one (ps_ret (pe_cmpR (op_eqD hr.units) (pe_lc (own := [("k", 2)]) (g := gName 2) rfl sc__law_alike.nd (pi_range1 (by rfl) B.range (pa_cons (pe_callB (cl_len K) (by rfl) B.len PySem.boot_len (pa_cons (pv 1) pa_nil)) pa_nil))
          (blkOk_by (N := ["found", "due", "k"]) (sc := defScope st__law_alike) (by decide +kernel)) (fun _ _ _ _ _ => pg_name (i := 2) sc__law_alike.nd rfl (Or.inl rfl))
          (fun _ _ _ _ _ => pts_one (pt_not (pt_val (pc C hr (pa_cons (pe_ix (ixS K) (pv 0) (pv 2) (fun _ _ => rfl)) (pa_cons (pe_ix (ixS K) (pv 1) (pv 2) (fun _ _ => rfl)) pa_nil)) (hk := Nat.le_refl _))))) (fun _ _ _ _ _ => pv 2)) (pe_lst pa_nil) (nomark _)))))) pss_nil)
      (pss_cons (ps_if (PW.pt (pw_or (pt_cmp (pc_isN (pv 1))) (pw_or1 (pt_val (pe_callB call_isi (by rfl) B.isi (by decide +kernel) (pa_cons (pv 1) (pa_cons (pe_bltn (v := .ty "str") (by rfl) B.str (by decide +kernel) rfl) pa_nil)))))))
        (pss_one (ps_ret (pe_and (pe_cmpR op_eq (pv 0) (pv 1) (nomark _)) (pe_one (pe_cmpR op_eq (pe_callB call_isi (by rfl) B.isi (by decide +kernel) (pa_cons (pv 0) (pa_cons (pe_bltn (v := .ty "str") (by rfl) B.str (by decide +kernel) rfl) pa_nil)))
          (pe_callB call_isi (by rfl) B.isi (by decide +kernel) (pa_cons (pv 1) (pa_cons (pe_bltn (v := .ty "str") (by rfl) B.str (by decide +kernel) rfl) pa_nil))) (nomark _)))))) pss_nil)
      (pss_one (ps_ret (pe_and (pe_callB call_isi (by rfl) B.isi (by decide +kernel) (pa_cons (pv 0) (pa_cons (pe_bltn (v := .ty "int") (by rfl) B.int (by decide +kernel) rfl) pa_nil)))
        (pe_and (pe_cmpR op_eq (pe_callB call_isi (by rfl) B.isi (by decide +kernel) (pa_cons (pv 0) (pa_cons (pe_bltn (v := .ty "bool") (by rfl) B.bool (by decide +kernel) rfl) pa_nil)))
          (pe_callB call_isi (by rfl) B.isi (by decide +kernel) (pa_cons (pv 1) (pa_cons (pe_bltn (v := .ty "bool") (by rfl) B.bool (by decide +kernel) rfl) pa_nil))) (nomark _)) (pe_one (pe_cmpR op_eq (pv 0) (pv 1) (nomark _)))))))), ?_⟩
    rcases alike_cases hv hu hk with hk0 | ⟨a, b, xs, ys, ds, T, bl, rfl, rfl, ha, hb, hx, hy, hl, hd⟩
    · clear hk
      cases hv with
      | non =>
        cases hu
        refine ⟨_, rfl, (by show 2 ≤ sizeLine; decide), fun t ht => ⟨.non, t, _, _, _, false, rfl, upd_same, cls2, .base .non, kit2 (b1 := false) (b2 := false) (by decide +kernel) (by decide +kernel), _, rfl, ifF rfl ?_⟩⟩
        refine ⟨_, rfl, _, rfl, ifT (decide_eq_true rfl) (ifT rfl ?_)⟩
        exact ⟨_, rfl, _, rfl, rfl, _, rfl, ifT (decide_eq_true rfl) ⟨_, rfl, .non, .ty "str", _, _, false, rfl, .ty "str", .base .non, kit_ty (by decide +kernel), _, rfl, .non, .ty "str", _, _, false, rfl, .ty "str", .base .non, kit_ty (by decide +kernel), rfl, q _ (same_new ht)⟩⟩
      | bl b =>
        cases hu
        refine ⟨_, rfl, (by show 2 ≤ sizeLine; decide), fun t ht => ⟨.bl b, t, _, _, _, false, rfl, upd_same, cls2, .base (.bl b), kit2 (b1 := false) (b2 := false) (by decide +kernel) (by decide +kernel), _, rfl, ifF rfl ?_⟩⟩
        refine ⟨_, rfl, _, rfl, ifF (decide_eq_false (fun z => nomatch z)) ⟨_, rfl, .bl b, .ty "str", _, _, false, rfl, .ty "str", .base (.bl b), kit_ty (by decide +kernel), _, rfl, ifF rfl ?_⟩⟩
        refine ⟨_, rfl, .bl b, .ty "int", _, _, true, rfl, .ty "int", .base (.bl b), kit_ty (by decide +kernel), _, rfl, ifT rfl ?_⟩
        refine ⟨_, rfl, .bl b, .ty "bool", _, _, true, rfl, .ty "bool", .base (.bl b), kit_ty (by decide +kernel), _, rfl, .bl b, .ty "bool", _, _, true, rfl, .ty "bool", .base (.bl b), kit_ty (by decide +kernel), rfl, _, rfl, ifT (decide_eq_true rfl) ?_⟩
        refine ⟨_, rfl, _, rfl, rfl, ?_⟩
        rw [decide_eq_true (rfl : V.bl b = V.bl b)]
        exact q _ (same_new ht)
      | int i =>
        cases hu
        refine ⟨_, rfl, (by show 2 ≤ sizeLine; decide), fun t ht => ⟨.int i, t, _, _, _, false, rfl, upd_same, cls2, .base (.int i), kit2 (b1 := false) (b2 := false) (by decide +kernel) (by decide +kernel), _, rfl, ifF rfl ?_⟩⟩
        refine ⟨_, rfl, _, rfl, ifF (decide_eq_false (fun z => nomatch z)) ⟨_, rfl, .int i, .ty "str", _, _, false, rfl, .ty "str", .base (.int i), kit_ty (by decide +kernel), _, rfl, ifF rfl ?_⟩⟩
        refine ⟨_, rfl, .int i, .ty "int", _, _, true, rfl, .ty "int", .base (.int i), kit_ty (by decide +kernel), _, rfl, ifT rfl ?_⟩
        refine ⟨_, rfl, .int i, .ty "bool", _, _, false, rfl, .ty "bool", .base (.int i), kit_ty (by decide +kernel), _, rfl, .int i, .ty "bool", _, _, false, rfl, .ty "bool", .base (.int i), kit_ty (by decide +kernel), rfl, _, rfl, ifT (decide_eq_true rfl) ?_⟩
        refine ⟨_, rfl, _, rfl, rfl, ?_⟩
        rw [decide_eq_true (rfl : V.int i = V.int i)]
        exact q _ (same_new ht)
      | str x =>
        cases hu
        refine ⟨_, rfl, (by show 2 ≤ sizeLine; decide), fun t ht => ⟨.str x, t, _, _, _, false, rfl, upd_same, cls2, .base (.str x), kit2 (b1 := false) (b2 := false) (by decide +kernel) (by decide +kernel), _, rfl, ifF rfl ?_⟩⟩
        refine ⟨_, rfl, _, rfl, ifF (decide_eq_false (fun z => nomatch z)) ⟨_, rfl, .str x, .ty "str", _, _, true, rfl, .ty "str", .base (.str x), kit_ty (by decide +kernel), _, rfl, ifT rfl ?_⟩⟩
        exact ⟨_, rfl, _, rfl, rfl, _, rfl, ifT (decide_eq_true rfl) ⟨_, rfl, .str x, .ty "str", _, _, true, rfl, .ty "str", .base (.str x), kit_ty (by decide +kernel), _, rfl, .str x, .ty "str", _, _, true, rfl, .ty "str", .base (.str x), kit_ty (by decide +kernel), rfl, q _ (same_new ht)⟩⟩
      | lst _ _ => exact hk0.elim
      | tup _ _ => exact hk0.elim
    · have lx : xs.length = ds.length := DpAll.len hx
      have ly : ys.length = ds.length := DpAll.len hy
      refine ⟨_, rfl, (by show 2 ≤ sizeLine; decide), fun t ht => ?_⟩
      have s1 : Same H (upd H t (.tup [.ty "tuple", .ty "list"])) := same_new ht
      have b1 := hb _ s1
      refine ⟨.ref b, t, _, _, _, true, rfl, upd_same, cls2, b1.ty, b1.k1, _, rfl, ifT rfl ?_⟩
      refine ⟨_, rfl, (by show 2 ≤ sizeLine; decide), fun t2 ht2 => ?_⟩
      have s2 := s1.trans (same_new (o := .tup [.ty "tuple", .ty "list"]) ht2)
      have a2 := ha _ s2
      have b2 := hb _ s2
      refine ⟨.ref a, t2, _, _, _, true, rfl, upd_same, cls2, a2.ty, a2.k1, _, rfl, ifF rfl ?_⟩
      refine ⟨_, rfl, .ref a, .ty "list", _, _, bl, rfl, .ty "list", a2.ty, a2.k2, _, rfl, .ref b, .ty "list", _, _, bl, rfl, .ty "list", b2.ty, b2.k2, rfl, _, rfl, ifF (by rw [decide_eq_true (rfl : V.bl bl = V.bl bl)]; rfl) ?_⟩
      refine ⟨_, rfl, a, xs, rfl, a2.sq, _, rfl, b, ys, rfl, b2.sq, rfl, _, rfl, ifF (by rw [lx, ly, decide_eq_true rfl]; rfl) ?_⟩
      refine ⟨_, rfl, b, ys, rfl, b2.sq, _, rfl, by omega, by omega, fun D hD => ?_⟩
      rw [Int.toNat_natCast]
      refine lc_range (lo := 0) (n := ys.length) (fun i H' => Same (upd (upd H t (.tup [.ty "tuple", .ty "list"])) t2 (.tup [.ty "tuple", .ty "list"])) H' ∧ H' D = some (.lst [])) ⟨same_new hD, upd_same⟩ (fun i H' hi h' => ?_) (fun H' h' => ?_)
      · obtain ⟨sm, eD⟩ := h'
        have s3 := s2.trans sm
        obtain ⟨d, hdi⟩ : ∃ d, ds[i]? = some d := ⟨_, List.getElem?_eq_getElem (by omega)⟩
        obtain ⟨x, hxi, hxd⟩ := DpAll.of hx hdi
        obtain ⟨y, hyi, hyd⟩ := DpAll.of hy hdi
        rw [Int.zero_add]
        refine ⟨rfl, _, rfl, _, rfl, ?_⟩
        refine (ha _ s3).ix i x _ hxi ⟨_, rfl, _, rfl, ?_⟩
        refine (hb _ s3).ix i y _ hyi ⟨x, y, d, rfl, Dp.on s3 d x hxd, Dp.on s3 d y hyd, hd d (List.mem_of_getElem? hdi), fun H4 s4 => ⟨_, rfl, ifF rfl ⟨?_, s4 _ _ eD⟩⟩⟩
        exact sm.trans s4
      · obtain ⟨sm, eD⟩ := h'
        refine ⟨Nat.zero_le _, fun z hz => ?_⟩
        refine ⟨_, _, dp_lst (ns := []) (lstAt (same_new hz _ _ eD)), dp_lst (ns := []) (lstAt upd_same), PySem.W.ke_shaped_ints _, PySem.W.ke_shaped_ints _, ?_⟩
        exact q _ (s2.trans (sm.trans (same_new hz)))
end
end RH
set_option Elab.async false
set_option linter.all false
set_option maxRecDepth 100000
set_option maxHeartbeats 2000000
namespace RH
open PySem PySem.Spec PyProof.Rows L2
/-! ### words, what they touch, and what a loss does -/
theorem perm_len {n : Nat} {l : List Int} (h : l.Perm (rg n)) : l.length = n := by rw [h.length_eq, rg_len]
theorem perm_in {n : Nat} {l : List Int} (h : l.Perm (rg n)) {x : Int} (hx : x ∈ l) : InR n x := rg_mem.mp (h.mem_iff.mp hx)
def stp (h : List (List Int)) (p : Int) (L : List Int) : List Int := L.map (mv h p)
/-- the row of a place -/
theorem Hb.row {n : Nat} {h : List (List Int)} (q : Hb n h) {p : Int} (hp : InR n p) : h.getD p.toNat [] ∈ h := by
  have h1 : p.toNat < h.length := by rw [q.len]; have := hp.1; have := hp.2; omega
  rw [List.getD_eq_getElem?_getD, List.getElem?_eq_getElem h1]
  exact List.getElem_mem h1
theorem Hb.row_eq {n : Nat} {h : List (List Int)} (q : Hb n h) {p : Int} (hp : InR n p) : (rg n).map (mv h p) = h.getD p.toNat [] := by
  have hl := q.short (q.row hp)
  refine List.ext_getElem? fun i => ?_
  rw [List.getElem?_map]
  by_cases hi : i < n
  · rw [rg_at hi]
    show some (mv h p (i : Int)) = _
    unfold mv
    rw [Int.toNat_natCast, List.getD_eq_getElem?_getD (l := h.getD p.toNat []), List.getElem?_eq_getElem (by omega : i < (h.getD p.toNat []).length)]
    rfl
  · rw [List.getElem?_eq_none (by rw [rg_len]; omega), List.getElem?_eq_none (by omega)]
    rfl
theorem Hb.stp_perm {n : Nat} {h : List (List Int)} (q : Hb n h) {p : Int} (hp : InR n p) {L : List Int} (hL : L.Perm (rg n)) : (stp h p L).Perm (rg n) := by
  have h1 : (stp h p L).Perm ((rg n).map (mv h p)) := hL.map _
  rw [q.row_eq hp] at h1
  exact h1.trans (q.perm _ (q.row hp))
/-- a loss that never shows, and behind which all stands as it should -/
def hid (n : Nat) (h : List (List Int)) (ws : List Int) (s : Nat) : Bool := decide (h.getD (ws.getD s 0).toNat [] = rg n)
end RH
set_option Elab.async false
set_option linter.all false
set_option maxRecDepth 100000
set_option maxHeartbeats 2000000
namespace RH
open PySem PySem.Spec PyProof.Rows L2
theorem ixN_int {n : Nat} {k : Int} (h0 : 0 ≤ k) (h1 : k < n) : ixN n k = some k.toNat := by
  unfold ixN
  rw [if_pos h0, if_pos h1]
def tF (n pl : Nat) : List Int := (List.range n).map fun s : Nat => ((s : Int) + (pl : Int)) % (n : Int)
def mF (n pl : Nat) : List Int := (List.range n).map fun s : Nat => (s : Int) + (if decide ((s : Int) < (pl : Int)) = true then 1 else 0)
def fF (n pl : Nat) : List Int := (mF n pl).take pl ++ [0] ++ (mF n pl).drop (pl + 1)
def sF (n pl : Nat) : List Int := ((rg n).set pl ((pl - 1 : Nat) : Int)).set (pl - 1) (pl : Int)
theorem perm_all : ∀ n, n < 6 → ∀ pl, pl < n → (tF n pl).isPerm (rg n) = true ∧ (fF n pl).isPerm (rg n) = true ∧ (sF n pl).isPerm (rg n) = true := by decide +kernel
theorem mF_len (n pl : Nat) : (mF n pl).length = n := by
  unfold mF
  rw [List.length_map, List.length_range]
theorem range_more {f : Nat → Int} (i : Nat) : ((List.range (i + 1)).map f).map V.int = ((List.range i).map f).map V.int ++ [V.int (f i)] := by
  rw [List.range_succ, List.map_append, List.map_append]
  rfl
/-- the permutations found so far -/
def HI (K : PySem.W.Frag) (p g : Addr) (H : Hp) (n i : Nat) (H' : Hp) : Prop := ∃ (xs : List V) (hs : List (List Int)), But p H H' ∧ Row K H' p ∧ H' g = some (.lst xs) ∧ Each (TI K H') xs hs ∧ hs.length = i ∧ ∀ ns ∈ hs, ns.Perm (rg n)
theorem HI.step {K : PySem.W.Frag} {p g : Addr} {H H1 H5 : Hp} {n i : Nat} (h : HI K p g H n i H1) (hg : H g = none) (hpg : p ≠ g) (b : But p H1 H5) (r : Row K H5 p) :
    ∃ xs, H5 g = some (.lst xs) ∧ xs.length = i ∧ ∀ (q : Addr) (ns : List Int) (H6 : Hp), Same H5 H6 → SqT K H6 q (ns.map V.int) → ns.Perm (rg n) → HI K p g H n (i + 1) (upd H6 g (.lst (xs ++ [.ref q]))) := by
  obtain ⟨xs, hs, hB, hR, e, hE, hl, hp⟩ := h
  have e5 := b _ _ e (Ne.symm hpg)
  refine ⟨xs, e5, hE.len.trans hl, fun q ns H6 s6 hq hpm => ⟨xs ++ [.ref q], hs ++ [ns], ?_, ?_, upd_same, ?_, ?_, ?_⟩⟩
  · exact ((hB.trans b).trans (But.same s6)).fresh hg
  · exact (r.same s6).lst_upd (s6 _ _ e5) hpg
  · have f1 : Fix H1 (upd H6 g (.lst (xs ++ [.ref q]))) := (hR.fix b).trans ((Fix.same s6).trans (Fix.lst (s6 _ _ e5)))
    exact Each.snoc ⟨q, rfl, Fix.tups (Fix.lst (s6 _ _ e5)) _ _ hq⟩ (hE.imp fun _ _ z => z.on f1.tups)
  · rw [List.length_append, hl]
    rfl
  · intro ns' hm
    rcases List.mem_append.mp hm with h1 | h1
    · exact hp _ h1
    · rw [List.mem_singleton.mp h1]
      exact hpm
section
variable {P : Program} {w : World} {K : PySem.W.Frag} {mg : Str → Option Value} {base : Heap}
def spHabit (K : PySem.W.Frag) : Sp := fun vs H Q _ => ∃ (p : Addr) (n : Nat), vs = [.ref p, .int n] ∧ Row K H p ∧ 2 ≤ n ∧ n ≤ 5 ∧ ∀ (H' : Hp) (v : V) (h : List (List Int)), Hb n h → But p H H' → Row K H' p → TII K H' v h → Q v H'
theorem ok_habit (F : Df K mg "_law_habit" st__law_habit ["row", "places"]) (B : Bu mg) (CT : Cal P w K mg base 1 "_law_taken" (spTaken K)) (CO : Cal P w K mg base 2 "_law_order" (spOrder K)) : Cal P w K mg base 3 "_law_habit" (spHabit K) := by
  refine mkCal F sc__law_habit (fun vs H Q E h => ?_) (fun f cdv A outer s H vs Q E hr h => ?_)
  · obtain ⟨p, n, rfl, _⟩ := h
    rfl
  · obtain ⟨p, n, rfl, hR, n2, n5, q⟩ := h
    refine ⟨_, pss_cons (ps_par (i := 2) (j := 3) rfl sc__law_habit.nd rfl rfl (by decide) rfl rfl (pa_cons (pc CT hr (pa_cons (pv 0) (pa_cons pe_int pa_nil))) (pa_cons (pe_lst pa_nil) pa_nil)) rfl)
      (pss_cons (ps_for PassesOwn.never rfl (pi_range1 (by rfl) B.range (pa_cons (pv 1) pa_nil)) (pg_name (i := 4) sc__law_habit.nd rfl (Or.inr rfl))
        (pss_one (ps_if (pt_cmpR op_eq (pv 2) pe_int (nomark _))
          (pss_one (ps_expr (pe_bm PySem.F.plainAttrs_list PySem.F.slot_list_append PySem.F.type_list_append mt_append (pv 3) (pa_cons (pe_tupleOf (by rfl) B.tuple (pe_lc (own := [("spot", 7)]) (g := gName 7) (tt := tYes) rfl sc__law_habit.nd
            (pi_range1 (by rfl) B.range (pa_cons (pv 1) pa_nil)) (blkOk_by (N := ["row", "places", "way", "found", "place", "moved", "other", "spot"]) (sc := defScope st__law_habit) (by decide +kernel)) (fun _ _ _ _ _ => pg_name (i := 7) sc__law_habit.nd rfl (Or.inl rfl))
            (fun _ _ _ _ _ => pts_nil) (fun _ _ _ _ _ => pe_op op_mod (pe_op op_add (pv 7) (pv 4)) (pv 1)))) pa_nil))))
        (pss_one (ps_if (pt_cmpR op_eq (pv 2) pe_int (nomark _))
          (pss_cons (ps_setLc (i := 5) (own := [("spot", 7)]) (g := gName 7) (tt := tYes) rfl sc__law_habit.nd rfl rfl (sw_true rfl rfl rfl (by decide +kernel)) (pi_range1 (by rfl) B.range (pa_cons (pv 1) pa_nil))
            (blkOk_by (N := ["row", "places", "way", "found", "place", "moved", "other", "spot"]) (sc := defScope st__law_habit) (by decide +kernel)) (fun _ _ _ _ _ => pg_name (i := 7) sc__law_habit.nd rfl (Or.inl rfl))
            (fun _ _ _ _ _ => pts_nil) (fun _ _ _ _ _ => pe_op op_add (pv 7) (pe_callTy call_int1 (by rfl) B.int (by decide +kernel) (pa_cons (pe_cmpR op_lt (pv 7) (pv 4) (nomark _)) pa_nil))))
          (pss_one (ps_expr (pe_bm PySem.F.plainAttrs_list PySem.F.slot_list_append PySem.F.type_list_append mt_append (pv 3) (pa_cons (pe_tupleOf (by rfl) B.tuple (pe_op op_cat (pe_op op_cat (pe_slice sl_list (pv 5) po_none (po_some (pv 4))) (pe_lst (pa_cons pe_int pa_nil)))
            (pe_slice sl_list (pv 5) (po_some (pe_op op_add (pv 4) pe_int)) po_none))) pa_nil)))))
        (pss_one (ps_if (pt_cmpR op_eq (pv 2) pe_int (nomark _))
          (pss_cons (ps_set (i := 6) sc__law_habit.nd rfl (.inl rfl) (pe_callB (call_max2 rfl) (by rfl) B.max (by decide +kernel) (pa_cons pe_int (pa_cons (pe_op op_sub (pv 4) pe_int) pa_nil))))
          (pss_cons (ps_set (i := 5) sc__law_habit.nd rfl (.inl rfl) (pe_listRg rfl (by rfl) B.list (prg_1 (by rfl) B.range (pv 1))))
          (pss_cons (ps_asg (pe_tup (pa_cons (pv 6) (pa_cons (pv 4) pa_nil))) (pg_tup rfl (pgs_cons (pg_sub (pv 5) (pv 4) set_list) (pgs_cons (pg_sub (pv 5) (pv 6) set_list) pgs_nil))))
          (pss_one (ps_expr (pe_bm PySem.F.plainAttrs_list PySem.F.slot_list_append PySem.F.type_list_append mt_append (pv 3) (pa_cons (pe_tupleOf (by rfl) B.tuple (pv 5)) pa_nil)))))))
        (pss_one (ps_if (PW.pt (pw_and (pt_cmpR op_eq (pv 2) pe_int (nomark _)) (pw_and1 (pt_cmpR op_eq (pc CT hr (pa_cons (pv 0) (pa_cons pe_int pa_nil))) pe_int (nomark _)))))
          (pss_one (ps_expr (pe_bm PySem.F.plainAttrs_list PySem.F.slot_list_append PySem.F.type_list_append mt_append (pv 3) (pa_cons (pe_tupRg rfl (by rfl) B.tuple (prg_1 (by rfl) B.range (pv 1))) pa_nil))))
          (pss_one (ps_expr (pe_bm PySem.F.plainAttrs_list PySem.F.slot_list_append PySem.F.type_list_append mt_append (pv 3) (pa_cons (pc CO hr (pa_cons (pv 0) (pa_cons (pv 1) pa_nil))) pa_nil))))))))))))) 
      (pss_one (ps_ret (pe_tupleOf (by rfl) B.tuple (pv 3))))), ?_⟩
    refine ⟨_, rfl, p, 5, rfl, hR, by decide, by decide, fun wy H0 w0 w1 hB0 hR0 => ⟨Nat.zero_le _, fun g hg0 => ⟨_, _, rfl, ?_⟩⟩⟩
    have hpg : p ≠ g := hR0.ne hg0
    have hg : H g = none := by
      cases e : H g with
      | none => rfl
      | some o =>
        rw [hB0 _ _ e (Ne.symm hpg)] at hg0
        cases hg0
    refine ⟨_, rfl, n, rfl, by omega, by omega, ?_⟩
    rw [Int.toNat_natCast]
    refine for_range (lo := 0) (n := n) (fun i σ H' => HI K p g H n i H' ∧ ∃ y4 y5 y6 y7, σ = [some (.ref p), some (.int n), some (.int wy), some (.ref g), y4, y5, y6, y7])
      ⟨⟨[], [], hB0.fresh hg, hR0.new hg0, upd_same, .nil, rfl, fun _ hm => absurd hm (List.not_mem_nil)⟩, none, none, none, none, rfl⟩ (fun i σ H1 hi h' => ?_) (fun σ H' h' => ?_)
    · obtain ⟨hI, y4, y5, y6, y7, rfl⟩ := h'
      obtain ⟨pT, pF, pS⟩ := perm_all n (by omega) i hi
      have hR1 : Row K H1 p := hI.choose_spec.choose_spec.2.1
      rw [Int.zero_add]
      refine ⟨_, rfl, rfl, _, rfl, ite2 (fun _ => ?_) (fun _ => ?_)⟩
      · -- turned round
        obtain ⟨xs, e1, xl, st⟩ := hI.step hg hpg (But.refl p H1) hR1
        refine ⟨_, rfl, .inl ⟨rfl, _, lstAt e1⟩, _, rfl, n, rfl, by omega, by omega, fun D hD => ?_⟩
        rw [Int.toNat_natCast]
        refine lc_range (lo := 0) (n := n) (fun j H' => Same H1 H' ∧ H' D = some (.lst (((List.range j).map fun s : Nat => ((s : Int) + (i : Int)) % (n : Int)).map V.int))) ⟨same_new hD, upd_same⟩ (fun j H' hj h' => ?_) (fun H' h' => ?_)
        · obtain ⟨sm, eD⟩ := h'
          refine ⟨rfl, _, rfl, _, rfl, _, _, rfl, rfl, _, rfl, _, n, rfl, rfl, by omega, _, eD, ?_, ?_, ?_⟩
          · rw [List.length_map, List.length_map, List.length_range]
            exact small1000 (by omega)
          · intro b o e
            rw [upd_ne (ne_of_none e hD)]
            exact sm b o e
          · rw [upd_same, range_more, Int.zero_add]
        · obtain ⟨sm, eD⟩ := h'
          refine .inl ⟨D, _, rfl, lstAt eD, fun t ht => ?_⟩
          have sT := sm.trans (same_new (o := .tup ((tF n i).map V.int)) ht)
          refine ⟨g, xs, .ref t, rfl, rfl, sT _ _ e1, small1000 (by omega), st t (tF n i) _ sT (tupAt upd_same) (List.isPerm_iff.mp pT), _, _, _, _, rfl⟩
      · refine ⟨_, rfl, rfl, _, rfl, ite2 (fun _ => ?_) (fun _ => ?_)⟩
        · -- to the front
          refine ⟨_, rfl, n, rfl, by omega, by omega, fun D hD => ?_⟩
          rw [Int.toNat_natCast]
          refine lc_range (lo := 0) (n := n) (fun j H' => Same H1 H' ∧ H' D = some (.lst (((List.range j).map fun s : Nat => (s : Int) + (if decide ((s : Int) < (i : Int)) = true then 1 else 0)).map V.int))) ⟨same_new hD, upd_same⟩ (fun j H' hj h' => ?_) (fun H' h' => ?_)
          · obtain ⟨sm, eD⟩ := h'
            refine ⟨rfl, _, rfl, _, rfl, _, rfl, _, _, rfl, rfl, .inr ⟨_, rfl, _, _, rfl, rfl, _, eD, ?_, ?_, ?_⟩⟩
            · rw [List.length_map, List.length_map, List.length_range]
              exact small1000 (by omega)
            · intro b o e
              rw [upd_ne (ne_of_none e hD)]
              exact sm b o e
            · rw [upd_same, range_more, Int.zero_add]
          · obtain ⟨sm, eD⟩ := h'
            have hR2 := hR1.same sm
            obtain ⟨xs, e1, xl, st⟩ := hI.step hg hpg (But.same sm) hR2
            have hDl : ((List.range n).map fun s : Nat => (s : Int) + (if decide ((s : Int) < (i : Int)) = true then 1 else 0)) = mF n i := rfl
            rw [hDl] at eD
            refine ⟨_, rfl, .inl ⟨rfl, _, lstAt e1⟩, _, rfl, _, rfl, (i : Int), rfl, D, _, rfl, lstAt eD, fun a1 ha1 => ⟨by show 1 ≤ sizeLine; decide, fun a2 ha2 => ?_⟩⟩
            rw [cut_to] at *
            have q1 := same_new (o := .lst (((mF n i).map V.int).take i)) ha1
            have q2 := same_new (o := .lst [.int 0]) ha2
            refine ⟨a1, a2, ((mF n i).map V.int).take i, [.int 0], rfl, rfl, q2 _ _ upd_same, upd_same, ?_, fun a3 ha3 => ?_⟩
            · rw [List.length_take, List.length_map, mF_len]
              exact Nat.le_of_lt (small1000 (by show min i n + 1 ≤ 1000; omega))
            have q3 := same_new (o := .lst (((mF n i).map V.int).take i ++ [.int 0])) ha3
            refine ⟨_, rfl, _, rfl, (i : Int), 1, rfl, rfl, (i : Int) + 1, rfl, D, _, rfl, lstAt (q3 _ _ (q2 _ _ (q1 _ _ eD))), fun a4 ha4 => ?_⟩
            have q4 := same_new (o := .lst (cutV ((mF n i).map V.int) (some ((i : Int) + 1)) none)) ha4
            have ec : cutV ((mF n i).map V.int) (some ((i : Int) + 1)) none = ((mF n i).map V.int).drop (i + 1) := cut_from _ (i + 1)
            refine ⟨a3, a4, _, _, rfl, rfl, q4 _ _ upd_same, upd_same, ?_, fun a5 ha5 => ?_⟩
            · rw [ec, List.length_append, List.length_take, List.length_drop, List.length_map, mF_len]
              exact Nat.le_of_lt (small1000 (by show min i n + 1 + (n - (i + 1)) ≤ 1000; omega))
            have q5 := same_new (o := .lst ((((mF n i).map V.int).take i ++ [.int 0]) ++ cutV ((mF n i).map V.int) (some ((i : Int) + 1)) none)) ha5
            refine .inl ⟨a5, _, rfl, lstAt upd_same, fun t ht => ?_⟩
            have q6 := same_new (o := .tup ((((mF n i).map V.int).take i ++ [.int 0]) ++ cutV ((mF n i).map V.int) (some ((i : Int) + 1)) none)) ht
            have qq := q1.trans (q2.trans (q3.trans (q4.trans (q5.trans q6))))
            have et : ((((mF n i).map V.int).take i ++ [.int 0]) ++ cutV ((mF n i).map V.int) (some ((i : Int) + 1)) none) = (fF n i).map V.int := by
              rw [ec]
              unfold fF
              rw [List.map_append, List.map_append, List.map_take, List.map_drop]
              rfl
            exact ⟨g, xs, .ref t, rfl, rfl, qq _ _ e1, small1000 (by omega), st t (fF n i) _ qq (tupAt (by rw [upd_same, et])) (List.isPerm_iff.mp pF), _, _, _, _, rfl⟩
        · refine ⟨_, rfl, rfl, _, rfl, ite2 (fun _ => ?_) (fun _ => ?_)⟩
          · -- neighbours
            refine ⟨_, rfl, (i : Int), 1, rfl, rfl, 0, (i : Int) - 1, rfl, ?_⟩
            have eo : (if (i : Int) - 1 > 0 then (i : Int) - 1 else 0) = ((i - 1 : Nat) : Int) := by
              split <;> omega
            rw [eo]
            refine ⟨_, rfl, n, rfl, ⟨by omega, by omega, by omega, by omega, by omega⟩, fun m hm => ?_⟩
            rw [rgV_rg] at *
            have hpm : p ≠ m := hR1.ne hm
            have s1 := same_new (o := .lst ((rg n).map V.int)) hm
            refine ⟨_, rfl, _, rfl, by show 2 ≤ sizeLine; decide, fun t ht => ?_⟩
            have s2 := same_new (o := .tup [.int ((i - 1 : Nat) : Int), .int (i : Int)]) ht
            have em := s2 _ _ (upd_same (H := H1) (a := m) (o := .lst ((rg n).map V.int)))
            have ll : ((rg n).map V.int).length = n := by rw [List.length_map, rg_len]
            refine ⟨t, _, rfl, tupAt upd_same, rfl, _, _, rfl, _, rfl, _, rfl, m, _, (i : Int), i, rfl, rfl, em, ?_, ?_⟩
            · have := ixN_int (n := ((rg n).map V.int).length) (k := (i : Int)) (by omega) (by omega)
              exact this
            refine ⟨_, _, rfl, _, rfl, _, rfl, m, _, ((i - 1 : Nat) : Int), i - 1, rfl, rfl, upd_same, ?_, rfl, ?_⟩
            · have := ixN_int (n := (((rg n).map V.int).set i (.int ((i - 1 : Nat) : Int))).length) (k := ((i - 1 : Nat) : Int)) (by omega) (by rw [List.length_set]; omega)
              exact this
            have et : (((rg n).map V.int).set i (.int ((i - 1 : Nat) : Int))).set (i - 1) (.int (i : Int)) = (sF n i).map V.int := by
              unfold sF
              rw [List.map_set, List.map_set]
            rw [et]
            have hR5 := ((hR1.same (s1.trans s2)).lst_upd (o := .lst (((rg n).map V.int).set i (.int ((i - 1 : Nat) : Int)))) em hpm).lst_upd (o := .lst ((sF n i).map V.int)) upd_same hpm
            obtain ⟨xs, e1, xl, st⟩ := hI.step hg hpg (((But.same (s1.trans s2)).fresh (o := .lst (((rg n).map V.int).set i (.int ((i - 1 : Nat) : Int)))) hm).fresh (o := .lst ((sF n i).map V.int)) hm) hR5
            refine ⟨_, rfl, .inl ⟨rfl, _, lstAt e1⟩, _, rfl, .inl ⟨m, _, rfl, lstAt upd_same, fun t2 ht2 => ?_⟩⟩
            have s6 := same_new (o := .tup ((sF n i).map V.int)) ht2
            exact ⟨g, xs, .ref t2, rfl, rfl, s6 _ _ e1, small1000 (by omega), st t2 (sF n i) _ s6 (tupAt upd_same) (List.isPerm_iff.mp pS), _, _, _, _, rfl⟩
          · have any : ∀ H3, But p H1 H3 → Row K H3 p → ∃ xs, H3 g = some (.lst xs) ∧ xs.length = i ∧ ∀ (q : Addr) (ns : List Int) (H6 : Hp), Same H3 H6 → SqT K H6 q (ns.map V.int) → ns.Perm (rg n) → HI K p g H n (i + 1) (upd H6 g (.lst (xs ++ [.ref q]))) := fun H3 b3 r3 => hI.step hg hpg b3 r3
            refine ⟨_, rfl, rfl, _, rfl, ite2 (fun _ => ?_) (fun _ => ?_)⟩
            · refine ⟨_, rfl, p, 2, rfl, hR1, by decide, by decide, fun k H3 k0 k1 hB3 hR3 => ⟨rfl, _, rfl, ite2 (fun _ => ?_) (fun _ => ?_)⟩⟩
              · obtain ⟨xs, e1, xl, st⟩ := any H3 hB3 hR3
                refine ⟨_, rfl, .inl ⟨rfl, _, lstAt e1⟩, _, rfl, n, rfl, ⟨by omega, by omega, by omega, by omega, by omega⟩, fun t ht => ?_⟩
                rw [rgV_rg] at *
                have s6 := same_new (o := .tup ((rg n).map V.int)) ht
                exact ⟨g, xs, .ref t, rfl, rfl, s6 _ _ e1, small1000 (by omega), st t (rg n) _ s6 (tupAt upd_same) (List.Perm.refl _), _, _, _, _, rfl⟩
              · obtain ⟨xs, e1, xl, st⟩ := any H3 hB3 hR3
                refine ⟨_, rfl, .inl ⟨rfl, _, lstAt e1⟩, _, rfl, _, rfl, p, n, rfl, hR3, by omega, fun H4 t ns pm b4 r4 _ e4 => ?_⟩
                obtain ⟨xs', e1', xl', st'⟩ := any H4 (hB3.trans b4) r4
                exact ⟨g, xs', .ref t, rfl, rfl, e1', small1000 (by omega), st' t ns _ (Same.refl H4) (.inl (FT.kx e4)) pm, _, _, _, _, rfl⟩
            · obtain ⟨xs, e1, xl, st⟩ := any H1 (But.refl p H1) hR1
              refine iteF ⟨_, rfl, .inl ⟨rfl, _, lstAt e1⟩, _, rfl, _, rfl, p, n, rfl, hR1, by omega, fun H4 t ns pm b4 r4 _ e4 => ?_⟩
              obtain ⟨xs', e1', xl', st'⟩ := any H4 b4 r4
              exact ⟨g, xs', .ref t, rfl, rfl, e1', small1000 (by omega), st' t ns _ (Same.refl H4) (.inl (FT.kx e4)) pm, _, _, _, _, rfl⟩
    · obtain ⟨⟨xs, hs, hB, hR', e, hE, hl, hp⟩, y4, y5, y6, y7, rfl⟩ := h'
      refine ⟨_, rfl, .inl ⟨g, xs, rfl, lstAt e, fun t ht => q _ _ hs ⟨hl, hp, n2, n5⟩ (hB.trans (But.same (same_new ht))) (hR'.new ht) ⟨t, xs, rfl, tupAt upd_same, hE.imp fun _ _ z => z.on (Same.tups (same_new ht))⟩⟩⟩
end
end RH
set_option Elab.async false
set_option linter.all false
set_option maxRecDepth 100000
set_option maxHeartbeats 2000000
namespace RH
open PySem PySem.Spec PyProof.Rows L2
/-! ### the checks of one shelf, a touch -/
section
variable {P : Program} {w : World} {K : PySem.W.Frag} {mg : Str → Option Value} {base : Heap}
theorem lay_yes {n : Nat} {L : List Int} (h : L.Perm (rg n)) : isLay n L = true := by
  unfold isLay
  exact List.isPerm_iff.mpr h
def spCheckHabit (K : PySem.W.Frag) : Sp := fun vs H Q _ => ∃ (v : V) (h : List (List Int)) (n : Nat), vs = [v] ∧ TII K H v h ∧ Hb n h ∧ ∀ H', Same H H' → Q .non H'
theorem ok_check_habit (F : Df K mg "check_habit" st_check_habit ["habit"]) (B : Bu mg) (c2 : ∃ t, mg "FEWEST_PLACES" = some (.int 2 t)) (c5 : ∃ t, mg "MOST_PLACES" = some (.int 5 t))
    (C1 : Cal P w K mg base 1 "is_row" (spIsRow K)) (C5 : Cal P w K mg base 5 "is_layout" (spIsLayout K)) : Cal P w K mg base 6 "check_habit" (spCheckHabit K) := by
  refine mkCal F sc_check_habit (fun vs H Q E h => ?_) (fun f cdv A outer s H vs Q E hr h => ?_)
  · obtain ⟨v, h, n, rfl, _⟩ := h
    rfl
  · obtain ⟨v, h, n, rfl, ⟨a, xs, rfl, hS, hE⟩, hb, q⟩ := h
    have hxl : xs.length = n := hE.len.trans hb.len
    have n2 := hb.lo
    have n5 := hb.hi
    refine ⟨_, pss_cons (ps_if (pt_not (pt_val (pc C1 hr (pa_cons (pv 0) (pa_cons (pk c2) (pa_cons (pk c5) pa_nil)))))) (pss_one ps_no) pss_nil)
      (pss_one (ps_for PassesOwn.never rfl (pi_enumT (by rfl) B.enumerate (pa_cons (pv 0) pa_nil)) (pg_tup rfl (pgs_cons (pg_name (i := 1) sc_check_habit.nd rfl (.inl rfl)) (pgs_cons (pg_name (i := 2) sc_check_habit.nd rfl (.inl rfl)) pgs_nil)))
        (pss_one (ps_if (pt_not (pt_val (pc C5 hr (pa_cons (pv 2) (pa_cons (pe_callB (cl_len K) (by rfl) B.len PySem.boot_len (pa_cons (pv 0) pa_nil)) pa_nil))))) (pss_one ps_no) pss_nil)))), ?_⟩
    refine ⟨_, rfl, a, xs, 2, 5, rfl, hS, _, rfl, ifF ?_ ?_⟩
    · rw [hxl, decide_eq_true (by omega), decide_eq_true (by omega)]
      rfl
    refine ⟨_, rfl, a, xs, rfl, hS, ?_⟩
    refine for_enumT (xs := xs) (fun i σ H' => Same H H' ∧ ∃ y1 y2, σ = [some (.ref a), y1, y2]) ⟨Same.refl H, none, none, rfl⟩ (fun i σ H' h' => onT h'.1 hS) (fun i x T σ H' hx h' hT => ?_) (fun σ H' h' => q H' h'.1)
    obtain ⟨sm, y1, y2, rfl⟩ := h'
    obtain ⟨ns, hn, hTx⟩ := hE.at hx
    have hpm := hb.perm ns (List.mem_of_getElem? hn)
    have sT : Same H (upd H' T (.tup [.int (i : Nat), x])) := sm.trans (same_new hT)
    refine ⟨T, _, rfl, tupAt upd_same, rfl, _, _, rfl, _, _, rfl, rfl, _, rfl, _, rfl, a, xs, rfl, .inr (onT sT hS), x, ns, n, by rw [hxl]; rfl, hTx.on (fun _ _ z => onT sT z), by rw [perm_len hpm]; omega, by omega, fun H3 sm3 => ⟨_, rfl, ifF (by rw [lay_yes hpm]; rfl) ⟨sT.trans sm3, _, _, rfl⟩⟩⟩
def spCheckLayout (K : PySem.W.Frag) : Sp := fun vs H Q _ => ∃ (v : V) (L : List Int) (n : Nat), vs = [v, .int n] ∧ TI K H v L ∧ L.Perm (rg n) ∧ n ≤ 5 ∧ ∀ H', Same H H' → Q .non H'
theorem ok_check_layout (F : Df K mg "check_layout" st_check_layout ["layout", "places"]) (C5 : Cal P w K mg base 5 "is_layout" (spIsLayout K)) : Cal P w K mg base 6 "check_layout" (spCheckLayout K) := by
  refine mkCal F sc_check_layout (fun vs H Q E h => ?_) (fun f cdv A outer s H vs Q E hr h => ?_)
  · obtain ⟨v, L, n, rfl, _⟩ := h
    rfl
  · obtain ⟨v, L, n, rfl, hT, hp, n5, q⟩ := h
    refine ⟨_, pss_one (ps_if (pt_not (pt_val (pc C5 hr (pa_cons (pv 0) (pa_cons (pv 1) pa_nil))))) (pss_one ps_no) pss_nil), ?_⟩
    exact ⟨_, rfl, _, rfl, v, L, n, rfl, hT, by rw [perm_len hp]; omega, by omega, fun H1 sm => ⟨_, rfl, ifF (by rw [lay_yes hp]; rfl) (q H1 sm)⟩⟩
def spMove (K : PySem.W.Frag) : Sp := fun vs H Q _ => ∃ (v : V) (h : List (List Int)) (n : Nat) (a : Addr) (L : List Int) (p : Int), vs = [v, .ref a, .int p] ∧ TII K H v h ∧ Hb n h ∧ SqT K H a (L.map V.int) ∧ (∀ i ∈ L, InR n i) ∧ L.length ≤ 1000 ∧ InR n p ∧
  ∀ H' q, Same H H' → H q = none → FT H' q (stp h p L) → Q (.ref q) H'
theorem ok_move (F : Df K mg "move" st_move ["habit", "layout", "place"]) (B : Bu mg) : Cal P w K mg base 1 "move" (spMove K) := by
  refine mkCal F sc_move (fun vs H Q E h => ?_) (fun f cdv A outer s H vs Q E hr h => ?_)
  · obtain ⟨v, h, n, a, L, p, rfl, _⟩ := h
    rfl
  · obtain ⟨v, h, n, a, L, p, rfl, ⟨ah, xs, rfl, hS, hE⟩, hb, hL, hin, hlen, hp, q⟩ := h
    refine ⟨_, pss_cons (ps_set (i := 3) sc_move.nd rfl (.inr rfl) (pe_ix ix_tup (pv 0) (pv 2) (fun _ _ => rfl)))
      (pss_one (ps_ret (pe_tupleF (by rfl) B.tuple (pe_lc (own := [("stood", 4)]) (g := gName 4) (tt := tYes) rfl sc_move.nd (pi_tup (pv 1)) (blkOk_by (N := ["habit", "layout", "place", "moves", "stood"]) (sc := defScope st_move) (by decide +kernel))
        (fun _ _ _ _ _ => pg_name (i := 4) sc_move.nd rfl (Or.inl rfl)) (fun _ _ _ _ _ => pts_nil) (fun _ _ _ _ _ => pe_ix (ixT K) (pv 3) (pv 4) (fun _ _ => rfl)))))), ?_⟩
    obtain ⟨a1, ns1, e1, s1, _⟩ := ix2 hE hb hp hp
    refine ⟨_, rfl, _, rfl, ah, xs, p, _, rfl, rfl, hS, e1, ?_⟩
    refine ⟨_, rfl, a, rfl, ⟨_, hL⟩, fun D hD => ?_⟩
    refine lc_tup (xs := L.map V.int) (fun i H' => Same H H' ∧ H' D = some (.lst (((L.take i).map (mv h p)).map V.int))) ⟨same_new hD, upd_same⟩ (fun i H' _ h' => onT h'.1 hL) (fun i x H' hx h' => ?_) (fun H' h' => ?_)
    · obtain ⟨st, hst, rfl⟩ := map_at hx
      obtain ⟨sm, eD⟩ := h'
      obtain ⟨a2, ns2, e2, s2, e3⟩ := ix2 hE hb hp (hin st (List.mem_of_getElem? hst))
      rw [e1] at e2
      cases e2
      refine ⟨rfl, _, rfl, _, rfl, a1, _, st, _, rfl, rfl, onT sm s2, e3, _, eD, ?_, ?_, ?_⟩
      · rw [List.length_map, List.length_map, List.length_take]
        exact small1000 (by omega)
      · intro b o e
        rw [upd_ne (ne_of_none e hD)]
        exact sm b o e
      · rw [upd_same, take_more hst, List.map_append, List.map_append]
        rfl
    · obtain ⟨sm, eD⟩ := h'
      rw [List.length_map, List.take_length] at eD
      refine ⟨D, _, rfl, lstAt eD, fun t ob ht hob => q _ t (sm.trans (same_new ht)) ?_ ⟨ob, upd_same, hob⟩⟩
      cases e : H t with
      | none => rfl
      | some o =>
        rw [sm _ _ e] at ht
        cases ht
end
end RH
set_option Elab.async false
set_option linter.all false
set_option maxRecDepth 100000
set_option maxHeartbeats 2000000
namespace RH
open PySem PySem.Spec PyProof.Rows L2
/-! ### what the program tells of words -/
theorem sameU {H H' : Hp} {p : Addr} {o : HO} (a : Same H H') (h : H p = none) : Same H (upd H' p o) := fun b u e => by
  rw [upd_ne (ne_of_none e h)]
  exact a b u e
theorem none_of {H H' : Hp} {p : Addr} (a : Same H H') (h : H' p = none) : H p = none := by
  cases e : H p with
  | none => rfl
  | some o =>
    rw [a _ _ e] at h
    cases h
theorem FT.same {H H' : Hp} {b : Addr} {s : List Int} (e : Same H H') (h : FT H b s) : FT H' b s := let ⟨ob, h1, h2⟩ := h; ⟨ob, e _ _ h1, h2⟩
theorem FT.fix {H H' : Hp} {b : Addr} {s : List Int} (f : Fix H H') (h : FT H b s) : FT H' b s := let ⟨ob, h1, h2⟩ := h; ⟨ob, f _ _ h1 (fun xs z => nomatch z), h2⟩
theorem FT.sq {K : PySem.W.Frag} {H : Hp} {b : Addr} {s : List Int} (h : FT H b s) : SqT K H b (s.map V.int) := .inl h.kx
section
variable {P : Program} {w : World} {K : PySem.W.Frag} {mg : Str → Option Value} {base : Heap}
/-- a habit, a layout and a word of n places -/
structure HLW (K : PySem.W.Frag) (H : Hp) (v : V) (h : List (List Int)) (n : Nat) (a : Addr) (L : List Int) (wv : V) (ws : List Int) : Prop where
  hT : TII K H v h
  hb : Hb n h
  fL : FT H a L
  hL : L.Perm (rg n)
  hW : TI K H wv ws
  hw : ∀ t ∈ ws, InR n t
  len : ws.length ≤ 400
theorem HLW.same {K : PySem.W.Frag} {H H' : Hp} {v : V} {h : List (List Int)} {n : Nat} {a : Addr} {L : List Int} {wv : V} {ws : List Int} (g : HLW K H v h n a L wv ws) (s : Same H H') : HLW K H' v h n a L wv ws :=
  ⟨g.hT.on (Same.tups s), g.hb, g.fL.same s, g.hL, g.hW.on (Same.tups s), g.hw, g.len⟩
theorem HLW.fix {K : PySem.W.Frag} {H H' : Hp} {v : V} {h : List (List Int)} {n : Nat} {a : Addr} {L : List Int} {wv : V} {ws : List Int} (g : HLW K H v h n a L wv ws) (s : Fix H H') : HLW K H' v h n a L wv ws :=
  ⟨g.hT.on s.tups, g.hb, g.fL.fix s, g.hL, g.hW.on s.tups, g.hw, g.len⟩
end
end RH
set_option Elab.async false
set_option linter.all false
set_option maxRecDepth 100000
set_option maxHeartbeats 2000000
namespace RH
open PySem PySem.Spec PyProof.Rows L2
/-! ### the law's own touches and books -/
section
variable {P : Program} {w : World} {K : PySem.W.Frag} {mg : Str → Option Value} {base : Heap}
theorem ok_ltouch (F : Df K mg "_law_touch" st__law_touch ["habit", "layout", "place"]) (B : Bu mg) : Cal P w K mg base 1 "_law_touch" (spMove K) := by
  refine mkCal F sc__law_touch (fun vs H Q E h => ?_) (fun f cdv A outer s H vs Q E hr h => ?_)
  · obtain ⟨v, h, n, a, L, p, rfl, _⟩ := h
    rfl
  · obtain ⟨v, h, n, a, L, p, rfl, ⟨ah, xs, rfl, hS, hE⟩, hb, hL, hin, hlen, hp, q⟩ := h
    refine ⟨_, pss_one (ps_ret (pe_tupleF (by rfl) B.tuple (pe_lc (own := [("spot", 3)]) (g := gName 3) (tt := tYes) rfl sc__law_touch.nd (pi_tup (pv 1)) (blkOk_by (N := ["habit", "layout", "place", "spot"]) (sc := defScope st__law_touch) (by decide +kernel))
        (fun _ _ _ _ _ => pg_name (i := 3) sc__law_touch.nd rfl (Or.inl rfl)) (fun _ _ _ _ _ => pts_nil) (fun _ _ _ _ _ => pe_ix (ixT K) (pe_ix (ixT K) (pv 0) (pv 2) (fun _ _ => rfl)) (pv 3) (fun _ _ => rfl))))), ?_⟩
    refine ⟨_, rfl, a, rfl, ⟨_, hL⟩, fun D hD => ?_⟩
    refine lc_tup (xs := L.map V.int) (fun i H' => Same H H' ∧ H' D = some (.lst (((L.take i).map (mv h p)).map V.int))) ⟨same_new hD, upd_same⟩ (fun i H' _ h' => onT h'.1 hL) (fun i x H' hx h' => ?_) (fun H' h' => ?_)
    · obtain ⟨st, hst, rfl⟩ := map_at hx
      obtain ⟨sm, eD⟩ := h'
      obtain ⟨a2, ns2, e2, s2, e3⟩ := ix2 hE hb hp (hin st (List.mem_of_getElem? hst))
      refine ⟨rfl, _, rfl, _, rfl, ah, xs, p, _, rfl, rfl, onT sm hS, e2, _, rfl, a2, _, st, _, rfl, rfl, onT sm s2, e3, _, eD, ?_, ?_, ?_⟩
      · rw [List.length_map, List.length_map, List.length_take]
        exact small1000 (by omega)
      · exact sameU sm hD
      · rw [upd_same, take_more hst, List.map_append, List.map_append]
        rfl
    · obtain ⟨sm, eD⟩ := h'
      rw [List.length_map, List.take_length] at eD
      exact ⟨D, _, rfl, lstAt eD, fun t ob ht hob => q _ t (sm.trans (same_new ht)) (none_of sm ht) ⟨ob, upd_same, hob⟩⟩
end
end RH
set_option Elab.async false
set_option linter.all false
set_option maxRecDepth 100000
set_option maxHeartbeats 2000000
namespace RH
open PySem PySem.Spec PyProof.Rows L2
/-! ### defs that may raise; checks of values of many kinds -/
structure CalX (P : Program) (w : World) (K : PySem.W.Frag) (mg : Str → Option Value) (base : Heap) (k : Nat) (x : Str) (sp : Sp) : Prop where
  ex : ∃ (f : Addr) (fd : FuncData) (ps : List Str), FnOk P w K mg base (L2.CX P w) k f fd ps sp ∧ mg x = some (.ref f) ∧ PySem.W.keepIn K (.ref f) = true ∧ Binds K fd ps []
/-- an own error without an __init__ -/
structure ExO (K : PySem.W.Frag) (mg : Str → Option Value) (x : Str) (C : Addr) : Prop where
  q : PySem.W.excIn K C [.type "ValueError", .type "Exception", .type "BaseException", .type "object"] "ValueError.__new__" = true
  g : mg x = some (.ref C)
  k : PySem.W.keepIn K (.ref C) = true
  b : PySem.W.subIn K (.ref C) (.type "BaseException") = some true
  t : PySem.W.typeIn K (.ref C) = some (.type "type")
section
variable {P : Program} {w : World} {K : PySem.W.Frag} {mg : Str → Option Value} {base : Heap}
theorem mkCalX {x : Str} {st : Stmt} {N ps : List Str} {k : Nat} {sp : Sp} (F : Df K mg x st ps) (S : FnScope N ps (defScope st)) (len : ∀ vs H Q E, sp vs H Q E → vs.length = ps.length)
    (hbody : ∀ (f : Addr) (cdv : Value) (A : Around) (outer : List Env) (s : Shared) (H : Hp) (vs : List V) (Q : VK) (E : XK), Room k (A.deeper (envOfC x (defScope st) s.heap.objs.size f cdv)) → sp vs H Q E →
      ∃ t, PSs (cxOf (L2.CX P w) P w K mg base N x (defScope st) f cdv A outer s H E) (defBody st) t ∧ t { nx := fun _ H' => Q .non H', rt := Q } (start N vs) H) : CalX P w K mg base (k + 1) x sp := by
  obtain ⟨f, fd, F, g, b⟩ := F.ex
  exact ⟨f, fd, ps, F.okX S len (hbody f), g, F.kp, b⟩
end
theorem pcX {X : Cx} {k j : Nat} {x : Str} {sp : Sp} {E : XK} {p pos : Pos} {e : Expr} {es : List Expr} {t : TA} (c : CalX X.prog X.w X.K X.mg X.base k x sp) (hx : Passes (L2.CX X.prog X.w) X E) (hr : Room j X.A) (ha : PA X (e :: es) t) (hk : k ≤ j := by decide) (hg : Gl X x := by rfl)
    (hdb : (x == ("__debug__" : Str)) = false := by decide) (he : starEach (e :: es) X.env = (false, eval e X.env) :: starEach es X.env := by rfl) (hpl : (backTo pos (starEach es X.env)).any (·.1) = false := by rfl) :
    PE X (.Call (.Name x p) (e :: es) [] pos) (tCall sp [] E t) := by
  obtain ⟨f, fd, ps, F, hm, kp, b⟩ := c.ex
  exact pe_call F (hr.mono hk) hg hm kp b .nil hx ha hdb he hpl
/-- a value of any kind -/
inductive Sw (K : PySem.W.Frag) (H : Hp) : V → Prop
  | int (i : Int) : Sw K H (.int i)
  | bl (b : Bool) : Sw K H (.bl b)
  | non : Sw K H .non
  | str (s : Str) : Sw K H (.str s)
  | tup {a : Addr} {xs : List V} : SqT K H a xs → Sw K H (.ref a)
  | lst {a : Addr} {xs : List V} : SqL K H a xs → Sw K H (.ref a)
def isI : V → Bool
  | .int _ => true
  | _ => false
def inV2 (lo hi : Int) : V → Bool
  | .int i => decide (lo ≤ i) && decide (i ≤ hi)
  | _ => false
theorem few_log {n : Nat} (h : n ≤ 5) : ((n : Nat) : Int).natAbs.log2 < 1920 := by
  have : n = 0 ∨ n = 1 ∨ n = 2 ∨ n = 3 ∨ n = 4 ∨ n = 5 := by omega
  rcases this with rfl | rfl | rfl | rfl | rfl | rfl <;> decide +kernel
section
variable {P : Program} {w : World} {K : PySem.W.Frag} {mg : Str → Option Value} {base : Heap}
theorem Sw.on {H H' : Hp} {v : V} (e : Same H H') (h : Sw K H v) : Sw K H' v := by
  cases h with
  | int i => exact .int i
  | bl b => exact .bl b
  | non => exact .non
  | str s => exact .str s
  | tup h => exact .tup (onT e h)
  | lst h => exact .lst (e.seq h)
def spIsIntegerW (K : PySem.W.Frag) : Sp := fun vs H Q _ => ∃ v, vs = [v] ∧ Sw K H v ∧ Q (.bl (isI v)) H
theorem ok_is_integerW (F : Df K mg "is_integer" st_is_integer ["value"]) (B : Bu mg) : Cal P w K mg base 1 "is_integer" (spIsIntegerW K) := by
  refine mkCal F sc_is_integer (fun vs H Q E h => ?_) (fun f cdv A outer s H vs Q E hr h => ?_)
  · obtain ⟨v, rfl, _⟩ := h
    rfl
  · obtain ⟨v, rfl, hv, q⟩ := h
    refine ⟨_, pss_one (ps_ret (pe_and (pe_callB call_isi (by rfl) B.isi (by decide +kernel) (pa_cons (pv 0) (pa_cons (pe_bltn (v := .ty "int") (by rfl) B.int (by decide +kernel) rfl) pa_nil)))
      (pe_one (pe_not (pe_callB call_isi (by rfl) B.isi (by decide +kernel) (pa_cons (pv 0) (pa_cons (pe_bltn (v := .ty "bool") (by rfl) B.bool (by decide +kernel) rfl) pa_nil))))))), ?_⟩
    cases hv with
    | int i => exact ⟨_, rfl, .int i, .ty "int", _, _, true, rfl, .ty "int", .base (.int i), kit_ty (by decide +kernel), true, rfl, _, rfl, .int i, .ty "bool", _, _, false, rfl, .ty "bool", .base (.int i), kit_ty (by decide +kernel), false, rfl, q⟩
    | bl b => exact ⟨_, rfl, .bl b, .ty "int", _, _, true, rfl, .ty "int", .base (.bl b), kit_ty (by decide +kernel), true, rfl, _, rfl, .bl b, .ty "bool", _, _, true, rfl, .ty "bool", .base (.bl b), kit_ty (by decide +kernel), true, rfl, q⟩
    | non => exact ⟨_, rfl, .non, .ty "int", _, _, false, rfl, .ty "int", .base .non, kit_ty (by decide +kernel), false, rfl, q⟩
    | str z => exact ⟨_, rfl, .str z, .ty "int", _, _, false, rfl, .ty "int", .base (.str z), kit_ty (by decide +kernel), false, rfl, q⟩
    | @tup a xs h => exact ⟨_, rfl, .ref a, .ty "int", _, _, false, rfl, .ty "int", ty_tup h, kit_ty (by decide +kernel), false, rfl, q⟩
    | @lst a xs h => exact ⟨_, rfl, .ref a, .ty "int", _, _, false, rfl, .ty "int", ty_lst h, kit_ty (by decide +kernel), false, rfl, q⟩
def spIsNumberW (K : PySem.W.Frag) : Sp := fun vs H Q _ => ∃ (v : V) (lo hi : Int), vs = [v, .int lo, .int hi] ∧ Sw K H v ∧ Q (.bl (inV2 lo hi v)) H
theorem inV2_no {lo hi : Int} {v : V} (h : isI v = false) : inV2 lo hi v = false := by
  cases v <;> first | rfl | (cases h)
theorem isI_yes {v : V} (h : isI v = true) : ∃ i, v = .int i := by
  cases v <;> first | exact ⟨_, rfl⟩ | (cases h)
theorem ok_is_numberW (F : Df K mg "is_number" st_is_number ["value", "low", "high"]) (C1 : Cal P w K mg base 1 "is_integer" (spIsIntegerW K)) : Cal P w K mg base 2 "is_number" (spIsNumberW K) := by
  refine mkCal F sc_is_number (fun vs H Q E h => ?_) (fun f cdv A outer s H vs Q E hr h => ?_)
  · obtain ⟨v, lo, hi, rfl, _⟩ := h
    rfl
  · obtain ⟨v, lo, hi, rfl, hv, q⟩ := h
    refine ⟨_, pss_one (ps_ret (pe_and (pc C1 hr (pa_cons (pv 0) pa_nil)) (pe_one (pe_chain op_le op_le (pv 1) (pv 0) (pv 2))))), ?_⟩
    refine ⟨_, rfl, v, rfl, hv, ?_⟩
    cases ei : isI v with
    | true =>
      obtain ⟨i, rfl⟩ := isI_yes ei
      refine ⟨true, rfl, _, rfl, _, rfl, lo, i, rfl, rfl, _, rfl, ite2 (fun e => ?_) (fun e => ?_)⟩
      · refine ⟨_, rfl, i, hi, rfl, rfl, ?_⟩
        have q : Q (.bl (decide (lo ≤ i) && decide (i ≤ hi))) H := q
        rw [e, Bool.true_and] at q
        exact q
      · have e' : decide (lo ≤ i) = false := by simpa using e
        have q : Q (.bl (decide (lo ≤ i) && decide (i ≤ hi))) H := q
        rw [e', Bool.false_and] at q
        exact q
    | false =>
      rw [inV2_no ei] at q
      exact ⟨false, rfl, q⟩
def spIsPlaceW (K : PySem.W.Frag) : Sp := fun vs H Q _ => ∃ (v : V) (p : Int), vs = [v, .int p] ∧ Sw K H v ∧ Q (.bl (inV2 0 (p - 1) v)) H
theorem ok_is_placeW (F : Df K mg "is_place" st_is_place ["value", "places"]) (C2 : Cal P w K mg base 2 "is_number" (spIsNumberW K)) : Cal P w K mg base 3 "is_place" (spIsPlaceW K) := by
  refine mkCal F sc_is_place (fun vs H Q E h => ?_) (fun f cdv A outer s H vs Q E hr h => ?_)
  · obtain ⟨v, p, rfl, _⟩ := h
    rfl
  · obtain ⟨v, p, rfl, hv, q⟩ := h
    refine ⟨_, pss_one (ps_ret (pc C2 hr (pa_cons (pv 0) (pa_cons pe_int (pa_cons (pe_op op_sub (pv 1) pe_int) pa_nil))))), ?_⟩
    exact ⟨_, rfl, _, rfl, p, 1, rfl, rfl, v, 0, p - 1, rfl, hv, q⟩
/-- an integer, or the error -/
def spCheckIntX (K : PySem.W.Frag) (C : Addr) : Sp := fun vs H Q E => ∃ v, vs = [v] ∧ Sw K H v ∧ (isI v = true → Q .non H) ∧ (isI v = false → E (.ref C) none H)
theorem ok_check_integerX {C : Addr} (F : Df K mg "check_integer" st_check_integer ["value"]) (Xn : ExO K mg "BadNumber" C) (C1 : Cal P w K mg base 1 "is_integer" (spIsIntegerW K)) : CalX P w K mg base 2 "check_integer" (spCheckIntX K C) := by
  refine mkCalX F sc_check_integer (fun vs H Q E h => ?_) (fun f cdv A outer s H vs Q E hr h => ?_)
  · obtain ⟨v, rfl, _⟩ := h
    rfl
  · obtain ⟨v, rfl, hv, q1, q2⟩ := h
    refine ⟨_, pss_one (ps_if (pt_not (pt_val (pc C1 hr (pa_cons (pv 0) pa_nil)))) (pss_one (ps_raise rfl takesE (pmk_own PySem.F.excBase_ValueError Xn.q Xn.g Xn.k (raises_own Xn.b Xn.t) rfl))) pss_nil), ?_⟩
    refine ⟨_, rfl, v, rfl, hv, _, rfl, ?_⟩
    cases ei : isI v with
    | true => exact ifF rfl (q1 ei)
    | false => exact ifT rfl (q2 ei)
/-- a place, or the error -/
def spCheckPlX (K : PySem.W.Frag) (C : Addr) : Sp := fun vs H Q E => ∃ (v : V) (n : Nat), vs = [v, .int n] ∧ n ≤ 5 ∧ Sw K H v ∧ (inV2 0 ((n : Int) - 1) v = true → Q .non H) ∧ (inV2 0 ((n : Int) - 1) v = false → E (.ref C) none H)
theorem ok_check_placeX {C : Addr} (F : Df K mg "check_place" st_check_place ["place", "places"]) (Xn : ExO K mg "BadPlace" C) (C3 : Cal P w K mg base 3 "is_place" (spIsPlaceW K)) : CalX P w K mg base 4 "check_place" (spCheckPlX K C) := by
  refine mkCalX F sc_check_place (fun vs H Q E h => ?_) (fun f cdv A outer s H vs Q E hr h => ?_)
  · obtain ⟨v, n, rfl, _⟩ := h
    rfl
  · obtain ⟨v, n, rfl, n5, hv, q1, q2⟩ := h
    refine ⟨_, pss_one (ps_if (pt_not (pt_val (pc C3 hr (pa_cons (pv 0) (pa_cons (pv 1) pa_nil))))) (pss_one (ps_raise rfl takesE (SkE.pmk_own1 PySem.F.excBase_ValueError Xn.q Xn.g Xn.k (raises_own Xn.b Xn.t) rfl
      (pe_joined (.cons pe_str (.cons (pe_fmt (pv 1)) (.cons pe_str .nil))))))) pss_nil), ?_⟩
    refine ⟨_, rfl, _, rfl, v, n, rfl, hv, _, rfl, ?_⟩
    cases ei : inV2 0 ((n : Int) - 1) v with
    | true => exact ifF rfl (q1 ei)
    | false =>
      refine ifT rfl ?_
      have hn : n = 0 ∨ n = 1 ∨ n = 2 ∨ n = 3 ∨ n = 4 ∨ n = 5 := by omega
      refine ⟨_, rfl, ?_, _, rfl, .inr ⟨(n : Int), rfl, few_log n5, _, rfl, ?_, _, rfl, ?_, q2 ei⟩⟩
      · rw [sizeLine_eq]; decide +kernel
      · rw [sizeLine_eq]
        rcases hn with rfl | rfl | rfl | rfl | rfl | rfl <;> decide +kernel
      · rw [sizeLine_eq]
        rcases hn with rfl | rfl | rfl | rfl | rfl | rfl <;> decide +kernel
theorem ok_check_nameX {C : Addr} (F : Df K mg "check_name" st_check_name ["name", "places"]) (Xn : ExO K mg "BadNames" C) (C3 : Cal P w K mg base 3 "is_place" (spIsPlaceW K)) : CalX P w K mg base 4 "check_name" (spCheckPlX K C) := by
  refine mkCalX F sc_check_name (fun vs H Q E h => ?_) (fun f cdv A outer s H vs Q E hr h => ?_)
  · obtain ⟨v, n, rfl, _⟩ := h
    rfl
  · obtain ⟨v, n, rfl, n5, hv, q1, q2⟩ := h
    refine ⟨_, pss_one (ps_if (pt_not (pt_val (pc C3 hr (pa_cons (pv 0) (pa_cons (pv 1) pa_nil))))) (pss_one (ps_raise rfl takesE (SkE.pmk_own1 PySem.F.excBase_ValueError Xn.q Xn.g Xn.k (raises_own Xn.b Xn.t) rfl
      (pe_joined (.cons pe_str (.cons (pe_fmt (pv 1)) (.cons pe_str .nil))))))) pss_nil), ?_⟩
    refine ⟨_, rfl, _, rfl, v, n, rfl, hv, _, rfl, ?_⟩
    cases ei : inV2 0 ((n : Int) - 1) v with
    | true => exact ifF rfl (q1 ei)
    | false =>
      refine ifT rfl ?_
      have hn : n = 0 ∨ n = 1 ∨ n = 2 ∨ n = 3 ∨ n = 4 ∨ n = 5 := by omega
      refine ⟨_, rfl, ?_, _, rfl, .inr ⟨(n : Int), rfl, few_log n5, _, rfl, ?_, _, rfl, ?_, q2 ei⟩⟩
      · rw [sizeLine_eq]; decide +kernel
      · rw [sizeLine_eq]
        rcases hn with rfl | rfl | rfl | rfl | rfl | rfl <;> decide +kernel
      · rw [sizeLine_eq]
        rcases hn with rfl | rfl | rfl | rfl | rfl | rfl <;> decide +kernel
end
end RH
set_option Elab.async false
set_option linter.all false
set_option maxRecDepth 100000
set_option maxHeartbeats 2000000
namespace RH
open PySem PySem.Spec PyProof.Rows L2
/-! ### the class Shelf -/
theorem n12 : ¬ (("_habit" : Str) = "_stood") := by decide +kernel
theorem n13 : ¬ (("_habit" : Str) = "_touched") := by decide +kernel
theorem n14 : ¬ (("_habit" : Str) = "_worths") := by decide +kernel
theorem n23 : ¬ (("_stood" : Str) = "_touched") := by decide +kernel
theorem n24 : ¬ (("_stood" : Str) = "_worths") := by decide +kernel
theorem n34 : ¬ (("_touched" : Str) = "_worths") := by decide +kernel
/-- its attributes -/
def FL (hv a t l : V) : List (Str × V) := [("_habit", hv), ("_stood", a), ("_touched", t), ("_worths", l)]
theorem FL_make (hv a t l : V) : putF "_worths" l (putF "_touched" t (putF "_stood" a (putF "_habit" hv []))) = FL hv a t l := by
  simp only [putF, FL, if_neg n12, if_neg n13, if_neg n14, if_neg n23, if_neg n24, if_neg n34]
theorem FL_stood (hv a t l a' : V) : putF "_stood" a' (FL hv a t l) = FL hv a' t l := by
  simp only [putF, FL, if_neg n12, if_true]
theorem FL_look (hv a t l : V) : (FL hv a t l).lookup ("_habit" : Str) = some hv ∧ (FL hv a t l).lookup ("_stood" : Str) = some a ∧ (FL hv a t l).lookup ("_touched" : Str) = some t ∧ (FL hv a t l).lookup ("_worths" : Str) = some l := by
  rw [← FL_make]
  refine ⟨?_, ?_, ?_, ?_⟩
  · rw [lookup_putF, if_neg n14, lookup_putF, if_neg n13, lookup_putF, if_neg n12, lookup_putF, if_pos rfl]
  · rw [lookup_putF, if_neg n24, lookup_putF, if_neg n23, lookup_putF, if_pos rfl]
  · rw [lookup_putF, if_neg n34, lookup_putF, if_pos rfl]
  · rw [lookup_putF, if_pos rfl]
theorem FL_no {hv a t l : V} {m : Str} (h1 : ¬ m = "_habit") (h2 : ¬ m = "_stood") (h3 : ¬ m = "_touched") (h4 : ¬ m = "_worths") : (FL hv a t l).lookup m = none := by
  rw [← FL_make, lookup_putF, if_neg h4, lookup_putF, if_neg h3, lookup_putF, if_neg h2, lookup_putF, if_neg h1]
  rfl
/-- what the walk asks of the class -/
structure ShC (K : PySem.W.Frag) (mg : Str → Option Value) (C : Addr) : Prop where
  cl : Cls K C
  a1 : NoAttr K C "_habit"
  a2 : NoAttr K C "_stood"
  a3 : NoAttr K C "_touched"
  a4 : NoAttr K C "_worths"
  g : mg "Shelf" = some (.ref C)
/-- a shelf at p: habit, layout, the touches, what the books hold -/
structure ShP (K : PySem.W.Frag) (C : Addr) (H : Hp) (p dx : Addr) (hv : V) (a t l : Addr) (h : List (List Int)) (n : Nat) (L path held : List Int) : Prop where
  ob : H p = some (.ins C dx (FL hv (.ref a) (.ref t) (.ref l)))
  hT : TII K H hv h
  hb : Hb n h
  st : FT H a L
  pm : L.Perm (rg n)
  tc : H t = some (.lst (path.map V.int))
  wl : H l = some (.lst (held.map V.int))
  tl : t ≠ l
  hl : held.length = n
  pl : path.length ≤ 500
/-- the rest stays -/
def Sh3 (p t l : Addr) (H H' : Hp) : Prop := ∀ b o, H b = some o → b ≠ p → b ≠ t → b ≠ l → H' b = some o
theorem Sh3.refl (p t l : Addr) (H : Hp) : Sh3 p t l H H := fun _ _ e _ _ _ => e
theorem Sh3.trans {p t l : Addr} {H H1 H2 : Hp} (a : Sh3 p t l H H1) (b : Sh3 p t l H1 H2) : Sh3 p t l H H2 := fun c o e n1 n2 n3 => b c o (a c o e n1 n2 n3) n1 n2 n3
theorem Sh3.same {p t l : Addr} {H H1 : Hp} (a : Same H H1) : Sh3 p t l H H1 := fun c o e _ _ _ => a c o e
section
variable {K : PySem.W.Frag} {C : Addr} {H : Hp} {p dx : Addr} {hv : V} {a t l : Addr} {h : List (List Int)} {n : Nat} {L path held : List Int}
theorem ShP.ne (s : ShP K C H p dx hv a t l h n L path held) {b : Addr} {xs : List V} (e : Rd H b (.tup xs)) : b ≠ p ∧ b ≠ t ∧ b ≠ l := by
  rcases e with e | ⟨ob, e⟩
  · exact ⟨ne_of e s.ob (fun z => nomatch z), ne_of e s.tc (fun z => nomatch z), ne_of e s.wl (fun z => nomatch z)⟩
  · exact ⟨ne_of e s.ob (fun z => nomatch z), ne_of e s.tc (fun z => nomatch z), ne_of e s.wl (fun z => nomatch z)⟩
theorem ShP.rd (s : ShP K C H p dx hv a t l h n L path held) {H' : Hp} (f : Sh3 p t l H H') {b : Addr} {xs : List V} (e : Rd H b (.tup xs)) : Rd H' b (.tup xs) := by
  obtain ⟨n1, n2, n3⟩ := s.ne e
  rcases e with e | ⟨ob, e⟩
  · exact .inl (f _ _ e n1 n2 n3)
  · exact .inr ⟨ob, f _ _ e n1 n2 n3⟩
theorem ShP.tups (s : ShP K C H p dx hv a t l h n L path held) {H' : Hp} (f : Sh3 p t l H H') : Tups K H H' := fun b xs e => by
  rcases e with e | e
  · exact .inl (s.rd f e)
  · exact .inr e
theorem ShP.ft (s : ShP K C H p dx hv a t l h n L path held) {H' : Hp} (f : Sh3 p t l H H') {b : Addr} {ns : List Int} (e : FT H b ns) : FT H' b ns := by
  obtain ⟨ob, e, d⟩ := e
  exact ⟨ob, f _ _ e (ne_of e s.ob (fun z => nomatch z)) (ne_of e s.tc (fun z => nomatch z)) (ne_of e s.wl (fun z => nomatch z)), d⟩
theorem FTsame {H H' : Hp} (e : Same H H') {b : Addr} {ns : List Int} (f : FT H b ns) : FT H' b ns := let ⟨ob, e1, d⟩ := f; ⟨ob, e _ _ e1, d⟩
theorem ShP.same (s : ShP K C H p dx hv a t l h n L path held) {H' : Hp} (e : Same H H') : ShP K C H' p dx hv a t l h n L path held :=
  ⟨e _ _ s.ob, s.hT.on (Same.tups e), s.hb, FTsame e s.st, s.pm, e _ _ s.tc, e _ _ s.wl, s.tl, s.hl, s.pl⟩
theorem ShP.inR (s : ShP K C H p dx hv a t l h n L path held) : ∀ i ∈ L, InR n i := fun _ hi => perm_in s.pm hi
theorem ShP.sq (s : ShP K C H p dx hv a t l h n L path held) : SqT K H a (L.map V.int) := .inl s.st.kx
theorem ShP.len (s : ShP K C H p dx hv a t l h n L path held) : L.length = n := perm_len s.pm
theorem ShP.n5 (s : ShP K C H p dx hv a t l h n L path held) : n ≤ 5 := by have := s.hb.hi; omega
theorem ShP.mem (s : ShP K C H p dx hv a t l h n L path held) {i : Int} (hi : InR n i) : i ∈ L := s.pm.mem_iff.mpr (rg_mem.mpr hi)
theorem ShP.idx (s : ShP K C H p dx hv a t l h n L path held) {i : Int} (hi : InR n i) : L.idxOf i < n := by
  have := List.idxOf_lt_length_iff.mpr (s.mem hi)
  rw [s.len] at this
  exact this
theorem ShP.nd (s : ShP K C H p dx hv a t l h n L path held) : L.Nodup := s.pm.nodup_iff.mpr (by
  unfold rg
  refine List.pairwise_map.mpr (List.Pairwise.imp (fun {x y} hxy e => hxy ?_) List.nodup_range)
  exact Int.ofNat.inj e)
end
/-- a method of the class that stands -/
structure DfM (K : PySem.W.Frag) (C : Addr) (m q : Str) (st : Stmt) (ps : List Str) : Prop where
  ex : ∃ (f : Addr) (fd : FuncData), Fun K m q st f fd ∧ Meth K C m f ∧ Binds K fd ps []
section
variable {P : Program} {w : World} {K : PySem.W.Frag} {mg : Str → Option Value} {base : Heap} {C : Addr}
theorem mkMetX {m q : Str} {st : Stmt} {N ps : List Str} {k : Nat} {sp : Sp} (F : DfM K C m q st ps) (S : FnScope N ps (defScope st)) (len : ∀ vs H Q E, sp vs H Q E → vs.length = ps.length)
    (hbody : ∀ (f : Addr) (cdv : Value) (A : Around) (outer : List Env) (s : Shared) (H : Hp) (vs : List V) (Q : VK) (E : XK), Room k (A.deeper (envOfC q (defScope st) s.heap.objs.size f cdv)) → sp vs H Q E →
      ∃ t, PSs (cxOf (L2.CX P w) P w K mg base N q (defScope st) f cdv A outer s H E) (defBody st) t ∧ t { nx := fun _ H' => Q .non H', rt := Q } (start N vs) H) : MetX P w K mg base (k + 1) C m sp := by
  obtain ⟨f, fd, F, g, b⟩ := F.ex
  exact ⟨f, fd, ps, F.okX S len (hbody f), g, b⟩
def spBT (K : PySem.W.Frag) (C : Addr) : Sp := fun vs H Q _ => ∃ (p dx : Addr) (hv : V) (a t l : Addr) (h : List (List Int)) (n : Nat) (L path held : List Int) (i : Int), vs = [.ref p, .int i] ∧ ShP K C H p dx hv a t l h n L path held ∧ path.length < 500 ∧ InR n i ∧
  ∀ H' a', Sh3 p t l H H' → ShP K C H' p dx hv a' t l h n (stp h i L) (path ++ [i]) held → Q (.int (L.idxOf i : Nat)) H'
theorem ok_book_touched (F : DfM K C "_book_touched" "Shelf._book_touched" st_m__book_touched ["self", "place"]) (T : ShC K mg C) (CM : Cal P w K mg base 1 "move" (spMove K)) : MetX P w K mg base 2 C "_book_touched" (spBT K C) := by
  refine mkMetX F sc_m__book_touched (fun vs H Q E h => ?_) (fun f cdv A outer s H vs Q E hr h => ?_)
  · obtain ⟨p, dx, hv, a, t, l, h, n, L, path, held, i, rfl, _⟩ := h
    rfl
  · obtain ⟨p, dx, hv, a, t, l, h, n, L, path, held, i, rfl, S, hp5, hi, q⟩ := h
    refine ⟨_, pss_cons (ps_set (i := 2) sc_m__book_touched.nd rfl (.inl rfl) (pe_tidxF (pe_fld (pv 0) rfl) (pv 1)))
      (pss_cons (ps_fld (pv 0) (pc CM hr (pa_cons (pe_fld (pv 0) rfl) (pa_cons (pe_fld (pv 0) rfl) (pa_cons (pv 1) pa_nil)))) rfl)
      (pss_cons (ps_expr (pe_bm PySem.F.plainAttrs_list PySem.F.slot_list_append PySem.F.type_list_append mt_append (pe_fld (pv 0) rfl) (pa_cons (pv 1) pa_nil)))
      (pss_one (ps_ret (pv 2))))), ?_⟩
    obtain ⟨k1, k2, k3, k4⟩ := FL_look hv (.ref a) (.ref t) (.ref l)
    refine ⟨_, rfl, p, C, dx, _, _, rfl, S.ob, T.cl, T.a2, k2, a, L, rfl, S.st, _, rfl, i, rfl, S.st, S.mem hi, ?_⟩
    refine ⟨_, rfl, p, C, dx, _, _, rfl, S.ob, T.cl, T.a1, k1, _, rfl, p, C, dx, _, _, rfl, S.ob, T.cl, T.a2, k2, _, rfl, hv, h, n, a, L, i, rfl, S.hT, S.hb, S.sq, S.inR, by rw [S.len]; have := S.n5; omega, hi, fun H1 q1 s1 nq f1 => ?_⟩
    have S1 := S.same s1
    refine ⟨_, rfl, p, C, dx, _, rfl, S1.ob, T.cl, T.a2, by show 4 < 1000; decide, ?_⟩
    rw [FL_stood]
    have ne1 : t ≠ p := ne_of S1.tc S1.ob (fun z => nomatch z)
    have ne2 : l ≠ p := ne_of S1.wl S1.ob (fun z => nomatch z)
    have ne3 : q1 ≠ p := by
      obtain ⟨ob, e, _⟩ := f1
      exact ne_of e S1.ob (fun z => nomatch z)
    have ne4 : q1 ≠ t := by
      obtain ⟨ob, e, _⟩ := f1
      exact ne_of e S1.tc (fun z => nomatch z)
    obtain ⟨_, _, m3, _⟩ := FL_look hv (.ref q1) (.ref t) (.ref l)
    have e1 : (upd H1 p (.ins C dx (FL hv (.ref q1) (.ref t) (.ref l)))) t = some (.lst (path.map V.int)) := by
      rw [upd_ne ne1]
      exact S1.tc
    refine ⟨_, rfl, p, C, dx, _, .ref t, rfl, upd_same, T.cl, T.a3, m3, .inl ⟨rfl, _, lstAt e1⟩, _, rfl, t, _, _, rfl, rfl, e1, ?_, ?_⟩
    · rw [List.length_map]
      exact small1000 (by omega)
    have f3 : Sh3 p t l H1 (upd (upd H1 p (.ins C dx (FL hv (.ref q1) (.ref t) (.ref l)))) t (.lst (path.map V.int ++ [.int i]))) := fun b o e h1 h2 h3 => by
      rw [upd_ne h2, upd_ne h1]
      exact e
    refine ⟨_, rfl, q _ q1 ((Sh3.same s1).trans f3) ⟨?_, S1.hT.on (S1.tups f3), S.hb, S1.ft f3 f1, ?_, ?_, ?_, S.tl, S.hl, ?_⟩⟩
    · rw [upd_ne (Ne.symm ne1), upd_same]
    · exact S.hb.stp_perm hi S.pm
    · rw [upd_same, List.map_append]
      rfl
    · rw [upd_ne (Ne.symm S.tl), upd_ne ne2]
      exact S1.wl
    · rw [List.length_append]
      show path.length + 1 ≤ 500
      omega
end
end RH
set_option Elab.async false
set_option linter.all false
set_option maxRecDepth 100000
set_option maxHeartbeats 2000000
namespace RH
open PySem PySem.Spec PyProof.Rows L2
/-! ### its methods -/
theorem inV2_int {n : Nat} {v : V} (h : inV2 0 ((n : Int) - 1) v = true) : ∃ i, v = .int i ∧ InR n i := by
  cases v with
  | int i =>
    have h : (decide (0 ≤ i) && decide (i ≤ (n : Int) - 1)) = true := h
    rw [Bool.and_eq_true] at h
    have h1 := of_decide_eq_true h.1
    have h2 := of_decide_eq_true h.2
    exact ⟨i, rfl, h1, by omega⟩
  | _ => cases h
theorem inV2_yes {n : Nat} {i : Int} (h : InR n i) : inV2 0 ((n : Int) - 1) (.int i) = true := by
  show (decide (0 ≤ i) && decide (i ≤ (n : Int) - 1)) = true
  obtain ⟨h1, h2⟩ := h
  rw [decide_eq_true h1, decide_eq_true (by omega)]
  rfl
theorem rep_ints (n : Nat) : (List.replicate n [V.int 0]).flatten = (List.replicate n (0 : Int)).map V.int := by
  induction n with
  | zero => rfl
  | succ n ih =>
    rw [List.replicate_succ, List.flatten_cons, ih, List.replicate_succ, List.map_cons]
    rfl
section
variable {P : Program} {w : World} {K : PySem.W.Frag} {mg : Str → Option Value} {base : Heap} {C Cp Cn Cm : Addr}
theorem len_hab {H : Hp} {hv : V} {h : List (List Int)} {n : Nat} (hT : TII K H hv h) (hb : Hb n h) : ∃ ah xs, hv = .ref ah ∧ SqT K H ah xs ∧ xs.length = n := by
  obtain ⟨ah, xs, rfl, hS, hE⟩ := hT
  exact ⟨ah, xs, rfl, hS, hE.len.trans hb.len⟩
theorem tups_ins {H H' : Hp} {p dx : Addr} {fs : List (Str × V)} (hp : H p = some (.ins C dx fs)) (f : ∀ b o, H b = some o → b ≠ p → H' b = some o) : Tups K H H' := fun b xs e => by
  rcases e with (e | ⟨ob, e⟩) | e
  · exact .inl (.inl (f _ _ e (ne_of e hp (fun z => nomatch z))))
  · exact .inl (.inr ⟨ob, f _ _ e (ne_of e hp (fun z => nomatch z))⟩)
  · exact .inr e
/-- C(..) by its __init__ -/
structure MkX (P : Program) (w : World) (K : PySem.W.Frag) (mg : Str → Option Value) (base : Heap) (k : Nat) (C : Addr) (sp : Sp) : Prop where
  ex : ∃ (f : Addr) (fd : FuncData) (ps : List Str), FnOk P w K mg base CX0 k f fd ps sp ∧ Mk K C f ∧ Binds K fd ps []
structure DfI (K : PySem.W.Frag) (C : Addr) (q : Str) (st : Stmt) (ps : List Str) : Prop where
  ex : ∃ (f : Addr) (fd : FuncData), Fun K "__init__" q st f fd ∧ Mk K C f ∧ Binds K fd ps []
def spInit (K : PySem.W.Frag) (C : Addr) : Sp := fun vs H Q _ => ∃ (p dx : Addr) (hv : V) (a : Addr) (h : List (List Int)) (n : Nat) (L : List Int), vs = [.ref p, hv, .ref a] ∧ H p = some (.ins C dx []) ∧ TII K H hv h ∧ Hb n h ∧ FT H a L ∧ L.Perm (rg n) ∧
  ∀ H' t l, H t = none → H l = none → (∀ b o, H b = some o → b ≠ p → H' b = some o) → ShP K C H' p dx hv a t l h n L [] (List.replicate n 0) → Q .non H'
theorem ok_init (F : DfI K C "Shelf.__init__" st_m___init__ ["self", "habit", "layout"]) (B : Bu mg) (T : ShC K mg C) (CH : Cal P w K mg base 6 "check_habit" (spCheckHabit K)) (CL : Cal P w K mg base 6 "check_layout" (spCheckLayout K)) : MkX P w K mg base 7 C (spInit K C) := by
  obtain ⟨f, fd, F, g, b⟩ := F.ex
  refine ⟨f, fd, _, F.ok sc_m___init__ (fun vs H Q E h => ?_) (fun cdv A outer s H vs Q E hr h => ?_), g, b⟩
  · obtain ⟨p, dx, hv, a, h, n, L, rfl, _⟩ := h
    rfl
  · obtain ⟨p, dx, hv, a, h, n, L, rfl, hp, hT, hb, hF, hL, q⟩ := h
    refine ⟨_, PSs.nox (pss_cons (ps_expr (pc CH hr (pa_cons (pv 1) pa_nil)))
      (pss_cons (ps_expr (pc CL hr (pa_cons (pv 2) (pa_cons (pe_callB (cl_len K) (by rfl) B.len PySem.boot_len (pa_cons (pv 1) pa_nil)) pa_nil))))
      (pss_cons (ps_fld (pv 0) (pv 1) rfl)
      (pss_cons (ps_fld (pv 0) (pv 2) rfl)
      (pss_cons (ps_fld (pv 0) (pe_lst pa_nil) rfl)
      (pss_one (ps_fld (pv 0) (pe_op op_rep (pe_lst (pa_cons pe_int pa_nil)) (pe_callB (cl_len K) (by rfl) B.len PySem.boot_len (pa_cons (pv 1) pa_nil))) rfl))))))), ?_⟩
    refine ⟨_, rfl, hv, h, n, rfl, hT, hb, fun H1 s1 => ?_⟩
    have hT1 := hT.on (Same.tups s1)
    have hF1 := FTsame s1 hF
    have n5 := hb.hi
    obtain ⟨ah, xs, rfl, hS, hxl⟩ := len_hab hT1 hb
    refine ⟨_, rfl, _, rfl, ah, xs, rfl, .inr hS, .ref a, L, n, by rw [hxl]; rfl, ⟨a, rfl, .inl hF1.kx⟩, hL, by omega, fun H2 s2 => ?_⟩
    have s12 := s1.trans s2
    refine ⟨_, rfl, _, rfl, p, C, dx, _, rfl, s12 _ _ hp, T.cl, T.a1, by show 0 < 1000; decide, ?_⟩
    refine ⟨_, rfl, _, rfl, p, C, dx, _, rfl, upd_same, T.cl, T.a2, by show 1 < 1000; decide, ?_⟩
    refine ⟨Nat.zero_le _, fun t ht => ?_⟩
    have hp2 : H2 p = some (.ins C dx []) := s12 _ _ hp
    have npt : p ≠ t := ne_of_none upd_same ht
    have ht2 : H2 t = none := by
      rw [upd_ne (Ne.symm npt), upd_ne (Ne.symm npt)] at ht
      exact ht
    refine ⟨_, rfl, p, C, dx, _, rfl, by rw [upd_ne npt]; exact upd_same, T.cl, T.a3, by show 2 < 1000; decide, ?_⟩
    refine ⟨by show 1 ≤ sizeLine; decide, fun z hz => ?_⟩
    have npz : p ≠ z := ne_of_none upd_same hz
    have hz2 : z ≠ t ∧ H2 z = none := by
      rw [upd_ne (Ne.symm npz)] at hz
      have : z ≠ t := fun e => by
        subst e
        rw [upd_same] at hz
        cases hz
      rw [upd_ne this, upd_ne (Ne.symm npz), upd_ne (Ne.symm npz)] at hz
      exact ⟨this, hz⟩
    have fin : ∀ b o, H2 b = some o → b ≠ p → (upd (upd (upd (upd (upd H2 p (.ins C dx (putF "_habit" (.ref ah) []))) p (.ins C dx (putF "_stood" (.ref a) (putF "_habit" (.ref ah) [])))) t (.lst [])) p (.ins C dx (putF "_touched" (.ref t) (putF "_stood" (.ref a) (putF "_habit" (.ref ah) []))))) z (.lst [.int 0])) b = some o := fun b o e n1 => by
      rw [upd_ne (ne_of_none e hz2.2), upd_ne n1, upd_ne (ne_of_none e ht2), upd_ne n1, upd_ne n1]
      exact e
    refine ⟨_, rfl, ah, xs, rfl, .inr (tups_ins hp2 fin _ _ (onT s2 hS)), z, (xs.length : Int), [.int 0], rfl, rfl, upd_same, by omega, by omega, ?_, fun l hl => ?_⟩
    · rw [Int.toNat_natCast, hxl]
      exact Nat.le_of_lt (small1000 (by show 1 * n ≤ 1000; omega))
    rw [Int.toNat_natCast, hxl, rep_ints] at *
    have npl : p ≠ l := ne_of_none (by rw [upd_ne npz]; exact upd_same) hl
    have nzl : l ≠ z := fun e => by
      subst e
      rw [upd_same] at hl
      cases hl
    have ntl : t ≠ l := fun e => by
      subst e
      rw [upd_ne hz2.1.symm, upd_ne (Ne.symm npt), upd_same] at hl
      cases hl
    have hl2 : H2 l = none := by
      rw [upd_ne nzl, upd_ne (Ne.symm npl), upd_ne (Ne.symm ntl), upd_ne (Ne.symm npl), upd_ne (Ne.symm npl)] at hl
      exact hl
    refine ⟨_, rfl, p, C, dx, _, rfl, by rw [upd_ne npl, upd_ne npz]; exact upd_same, T.cl, T.a4, by show 3 < 1000; decide, ?_⟩
    rw [FL_make]
    have fin2 : ∀ b o, H2 b = some o → b ≠ p → (upd (upd (upd (upd (upd (upd (upd H2 p (.ins C dx (putF "_habit" (.ref ah) []))) p (.ins C dx (putF "_stood" (.ref a) (putF "_habit" (.ref ah) [])))) t (.lst [])) p (.ins C dx (putF "_touched" (.ref t) (putF "_stood" (.ref a) (putF "_habit" (.ref ah) []))))) z (.lst [.int 0])) l (.lst ((List.replicate n (0 : Int)).map V.int))) p (.ins C dx (FL (.ref ah) (.ref a) (.ref t) (.ref l)))) b = some o := fun b o e n1 => by
      rw [upd_ne n1, upd_ne (ne_of_none e hl2)]
      exact fin b o e n1
    have hF2 := FTsame s2 hF1
    obtain ⟨ob, eob, dob⟩ := hF2
    refine q _ t l ?_ ?_ (fun b o e n1 => fin2 b o (s12 _ _ e) n1) ⟨upd_same, (hT1.on (Same.tups s2)).on (tups_ins hp2 fin2), hb, ⟨ob, fin2 _ _ eob (ne_of eob hp2 (fun z => nomatch z)), dob⟩, hL, ?_, ?_, ntl, List.length_replicate, Nat.zero_le _⟩
    · exact none_of s12 ht2
    · exact none_of s12 hl2
    · rw [upd_ne (Ne.symm npt), upd_ne ntl, upd_ne hz2.1.symm, upd_ne (Ne.symm npt), upd_same]
      rfl
    · rw [upd_ne (Ne.symm npl), upd_same]
/-- a place is read -/
def spRead (K : PySem.W.Frag) (C Cp : Addr) : Sp := fun vs H Q E => ∃ (p dx : Addr) (hv : V) (a t l : Addr) (h : List (List Int)) (n : Nat) (L path held : List Int) (v : V), vs = [.ref p, v] ∧ ShP K C H p dx hv a t l h n L path held ∧ path.length < 500 ∧ Sw K H v ∧
  (∀ i, v = .int i → InR n i → ∀ H' a' z, Sh3 p t l H H' → ShP K C H' p dx hv a' t l h n (stp h i L) (path ++ [i]) held → held[L.idxOf i]? = some z → Q (.int z) H') ∧ (inV2 0 ((n : Int) - 1) v = false → E (.ref Cp) none H)
theorem no_bt {hv a t l : V} : (FL hv a t l).lookup ("_book_touched" : Str) = none := FL_no (by decide +kernel) (by decide +kernel) (by decide +kernel) (by decide +kernel)
theorem ok_read (F : DfM K C "read" "Shelf.read" st_m_read ["self", "place"]) (B : Bu mg) (T : ShC K mg C) (CP : CalX P w K mg base 4 "check_place" (spCheckPlX K Cp)) (MB : MetX P w K mg base 2 C "_book_touched" (spBT K C)) : MetX P w K mg base 5 C "read" (spRead K C Cp) := by
  refine mkMetX F sc_m_read (fun vs H Q E h => ?_) (fun f cdv A outer s H vs Q E hr h => ?_)
  · obtain ⟨p, dx, hv, a, t, l, h, n, L, path, held, v, rfl, _⟩ := h
    rfl
  · obtain ⟨p, dx, hv, a, t, l, h, n, L, path, held, v, rfl, S, hp5, hw, q, qE⟩ := h
    obtain ⟨ah, xs, rfl, hS, hxl⟩ := len_hab S.hT S.hb
    obtain ⟨k1, k2, k3, k4⟩ := FL_look (.ref ah) (.ref a) (.ref t) (.ref l)
    refine ⟨_, pss_cons (ps_expr (pcX CP passE hr (pa_cons (pv 1) (pa_cons (pe_callB (cl_len K) (by rfl) B.len PySem.boot_len (pa_cons (pe_fld (pv 0) rfl) pa_nil)) pa_nil))))
      (pss_one (ps_ret (pe_ix ix_list (pe_fld (pv 0) rfl) (pmX MB T.cl passE hr (pv 0) (pa_cons (pv 1) pa_nil)) (fun _ _ => rfl)))), ?_⟩
    refine ⟨_, rfl, _, rfl, p, C, dx, _, _, rfl, S.ob, T.cl, T.a1, k1, ah, xs, rfl, .inr hS, v, n, by rw [hxl]; rfl, S.n5, hw, fun hy => ?_, qE⟩
    obtain ⟨i, rfl, hi⟩ := inV2_int hy
    refine ⟨_, rfl, p, C, dx, _, _, rfl, S.ob, T.cl, T.a4, k4, _, rfl, p, dx, _, rfl, S.ob, no_bt, _, rfl, p, dx, .ref ah, a, t, l, h, n, L, path, held, i, rfl, S, hp5, hi, fun H1 a1 f1 S1 => ?_⟩
    obtain ⟨z, hz⟩ : ∃ z, held[L.idxOf i]? = some z := ⟨_, List.getElem?_eq_getElem (by rw [S.hl]; exact S.idx hi)⟩
    exact ⟨l, held.map V.int, (L.idxOf i : Nat), .int z, rfl, rfl, lstAt S1.wl, atI_nat (at_map hz), q i rfl hi H1 a1 z f1 S1 hz⟩
/-- a place is touched -/
def spTouchM (K : PySem.W.Frag) (C Cp : Addr) : Sp := fun vs H Q E => ∃ (p dx : Addr) (hv : V) (a t l : Addr) (h : List (List Int)) (n : Nat) (L path held : List Int) (v : V), vs = [.ref p, v] ∧ ShP K C H p dx hv a t l h n L path held ∧ path.length < 500 ∧ Sw K H v ∧
  (∀ i, v = .int i → InR n i → ∀ H' a', Sh3 p t l H H' → ShP K C H' p dx hv a' t l h n (stp h i L) (path ++ [i]) held → Q .non H') ∧ (inV2 0 ((n : Int) - 1) v = false → E (.ref Cp) none H)
theorem ok_touch (F : DfM K C "touch" "Shelf.touch" st_m_touch ["self", "place"]) (B : Bu mg) (T : ShC K mg C) (CP : CalX P w K mg base 4 "check_place" (spCheckPlX K Cp)) (MB : MetX P w K mg base 2 C "_book_touched" (spBT K C)) : MetX P w K mg base 5 C "touch" (spTouchM K C Cp) := by
  refine mkMetX F sc_m_touch (fun vs H Q E h => ?_) (fun f cdv A outer s H vs Q E hr h => ?_)
  · obtain ⟨p, dx, hv, a, t, l, h, n, L, path, held, v, rfl, _⟩ := h
    rfl
  · obtain ⟨p, dx, hv, a, t, l, h, n, L, path, held, v, rfl, S, hp5, hw, q, qE⟩ := h
    obtain ⟨ah, xs, rfl, hS, hxl⟩ := len_hab S.hT S.hb
    obtain ⟨k1, k2, k3, k4⟩ := FL_look (.ref ah) (.ref a) (.ref t) (.ref l)
    refine ⟨_, pss_cons (ps_expr (pcX CP passE hr (pa_cons (pv 1) (pa_cons (pe_callB (cl_len K) (by rfl) B.len PySem.boot_len (pa_cons (pe_fld (pv 0) rfl) pa_nil)) pa_nil))))
      (pss_one (ps_expr (pmX MB T.cl passE hr (pv 0) (pa_cons (pv 1) pa_nil)))), ?_⟩
    refine ⟨_, rfl, _, rfl, p, C, dx, _, _, rfl, S.ob, T.cl, T.a1, k1, ah, xs, rfl, .inr hS, v, n, by rw [hxl]; rfl, S.n5, hw, fun hy => ?_, qE⟩
    obtain ⟨i, rfl, hi⟩ := inV2_int hy
    exact ⟨_, rfl, p, dx, _, rfl, S.ob, no_bt, _, rfl, p, dx, .ref ah, a, t, l, h, n, L, path, held, i, rfl, S, hp5, hi, fun H1 a1 f1 S1 => q i rfl hi H1 a1 f1 S1⟩
/-- a place is written -/
def spWrite (K : PySem.W.Frag) (C Cp Cn : Addr) : Sp := fun vs H Q E => ∃ (p dx : Addr) (hv : V) (a t l : Addr) (h : List (List Int)) (n : Nat) (L path held : List Int) (v x : V), vs = [.ref p, v, x] ∧ ShP K C H p dx hv a t l h n L path held ∧ path.length < 500 ∧ Sw K H v ∧ Sw K H x ∧
  (∀ i z, v = .int i → InR n i → x = .int z → ∀ H' a', Sh3 p t l H H' → ShP K C H' p dx hv a' t l h n (stp h i L) (path ++ [i]) (held.set (L.idxOf i) z) → Q .non H') ∧ (inV2 0 ((n : Int) - 1) v = false → E (.ref Cp) none H) ∧ (inV2 0 ((n : Int) - 1) v = true → isI x = false → E (.ref Cn) none H)
theorem ok_write (F : DfM K C "write" "Shelf.write" st_m_write ["self", "place", "value"]) (B : Bu mg) (T : ShC K mg C) (CP : CalX P w K mg base 4 "check_place" (spCheckPlX K Cp)) (CI : CalX P w K mg base 2 "check_integer" (spCheckIntX K Cn)) (MB : MetX P w K mg base 2 C "_book_touched" (spBT K C)) : MetX P w K mg base 5 C "write" (spWrite K C Cp Cn) := by
  refine mkMetX F sc_m_write (fun vs H Q E h => ?_) (fun f cdv A outer s H vs Q E hr h => ?_)
  · obtain ⟨p, dx, hv, a, t, l, h, n, L, path, held, v, x, rfl, _⟩ := h
    rfl
  · obtain ⟨p, dx, hv, a, t, l, h, n, L, path, held, v, x, rfl, S, hp5, hw, hx, q, qE, qN⟩ := h
    obtain ⟨ah, xs, rfl, hS, hxl⟩ := len_hab S.hT S.hb
    obtain ⟨k1, k2, k3, k4⟩ := FL_look (.ref ah) (.ref a) (.ref t) (.ref l)
    refine ⟨_, pss_cons (ps_expr (pcX CP passE hr (pa_cons (pv 1) (pa_cons (pe_callB (cl_len K) (by rfl) B.len PySem.boot_len (pa_cons (pe_fld (pv 0) rfl) pa_nil)) pa_nil))))
      (pss_cons (ps_expr (pcX CI passE hr (pa_cons (pv 2) pa_nil)))
      (pss_one (ps_asg (pv 2) (pg_sub (pe_fld (pv 0) rfl) (pmX MB T.cl passE hr (pv 0) (pa_cons (pv 1) pa_nil)) set_list)))), ?_⟩
    refine ⟨_, rfl, _, rfl, p, C, dx, _, _, rfl, S.ob, T.cl, T.a1, k1, ah, xs, rfl, .inr hS, v, n, by rw [hxl]; rfl, S.n5, hw, fun hy => ?_, qE⟩
    refine ⟨_, rfl, x, rfl, hx, fun hxi => ?_, fun hxi => qN hy hxi⟩
    obtain ⟨i, rfl, hi⟩ := inV2_int hy
    obtain ⟨z, rfl⟩ := isI_yes hxi
    refine ⟨_, rfl, _, rfl, p, C, dx, _, _, rfl, S.ob, T.cl, T.a4, k4, _, rfl, p, dx, _, rfl, S.ob, no_bt, _, rfl, p, dx, .ref ah, a, t, l, h, n, L, path, held, i, rfl, S, hp5, hi, fun H1 a1 f1 S1 => ?_⟩
    have hid := S.idx hi
    refine ⟨l, held.map V.int, (L.idxOf i : Nat), L.idxOf i, rfl, rfl, S1.wl, ?_, ?_⟩
    · have := ixN_int (n := (held.map V.int).length) (k := ((L.idxOf i : Nat) : Int)) (by omega) (by rw [List.length_map, S.hl]; omega)
      exact this
    have f2 : Sh3 p t l H1 (upd H1 l (.lst ((held.map V.int).set (L.idxOf i) (.int z)))) := fun b o e _ _ n3 => by
      rw [upd_ne n3]
      exact e
    have npl : p ≠ l := ne_of S1.ob S1.wl (fun z => nomatch z)
    refine q i z rfl hi rfl _ a1 (f1.trans f2) ⟨?_, S1.hT.on (S1.tups f2), S1.hb, S1.ft f2 S1.st, S1.pm, ?_, ?_, S.tl, by rw [List.length_set]; exact S.hl, S1.pl⟩
    · rw [upd_ne npl]
      exact S1.ob
    · rw [upd_ne S.tl]
      exact S1.tc
    · rw [upd_same, List.map_set]
/-- a name is fetched -/
def spFetch (K : PySem.W.Frag) (C Cm : Addr) : Sp := fun vs H Q E => ∃ (p dx : Addr) (hv : V) (a t l : Addr) (h : List (List Int)) (n : Nat) (L path held : List Int) (v : V), vs = [.ref p, v] ∧ ShP K C H p dx hv a t l h n L path held ∧ path.length < 500 ∧ Sw K H v ∧
  (∀ j i, v = .int j → InR n j → L[j.toNat]? = some i → InR n i → L.idxOf i = j.toNat → ∀ H' a' z, Sh3 p t l H H' → ShP K C H' p dx hv a' t l h n (stp h i L) (path ++ [i]) held → held[j.toNat]? = some z → Q (.int z) H') ∧ (inV2 0 ((n : Int) - 1) v = false → E (.ref Cm) none H)
theorem ShP.at_ {H : Hp} {p dx : Addr} {hv : V} {a t l : Addr} {h : List (List Int)} {n : Nat} {L path held : List Int} (S : ShP K C H p dx hv a t l h n L path held) {j : Int} (hj : InR n j) : ∃ i, L[j.toNat]? = some i ∧ InR n i ∧ L.idxOf i = j.toNat ∧ atI (L.map V.int) j = some (.int i) := by
  obtain ⟨h1, h2⟩ := hj
  have hl : j.toNat < L.length := by
    rw [S.len]
    omega
  have e : L[j.toNat]? = some L[j.toNat] := List.getElem?_eq_getElem hl
  refine ⟨_, e, S.inR _ (List.mem_of_getElem? e), ?_, at_int h1 (at_map e)⟩
  exact S.nd.idxOf_getElem _ hl
theorem ok_fetch (F : DfM K C "fetch" "Shelf.fetch" st_m_fetch ["self", "name"]) (B : Bu mg) (T : ShC K mg C) (CM : CalX P w K mg base 4 "check_name" (spCheckPlX K Cm)) (MR : MetX P w K mg base 5 C "read" (spRead K C Cp)) : MetX P w K mg base 6 C "fetch" (spFetch K C Cm) := by
  refine mkMetX F sc_m_fetch (fun vs H Q E h => ?_) (fun f cdv A outer s H vs Q E hr h => ?_)
  · obtain ⟨p, dx, hv, a, t, l, h, n, L, path, held, v, rfl, _⟩ := h
    rfl
  · obtain ⟨p, dx, hv, a, t, l, h, n, L, path, held, v, rfl, S, hp5, hw, q, qE⟩ := h
    obtain ⟨ah, xs, rfl, hS, hxl⟩ := len_hab S.hT S.hb
    obtain ⟨k1, k2, k3, k4⟩ := FL_look (.ref ah) (.ref a) (.ref t) (.ref l)
    refine ⟨_, pss_cons (ps_expr (pcX CM passE hr (pa_cons (pv 1) (pa_cons (pe_callB (cl_len K) (by rfl) B.len PySem.boot_len (pa_cons (pe_fld (pv 0) rfl) pa_nil)) pa_nil))))
      (pss_one (ps_ret (pmX MR T.cl passE hr (pv 0) (pa_cons (pe_ix (ixT K) (pe_fld (pv 0) rfl) (pv 1) (fun _ _ => rfl)) pa_nil)))), ?_⟩
    refine ⟨_, rfl, _, rfl, p, C, dx, _, _, rfl, S.ob, T.cl, T.a1, k1, ah, xs, rfl, .inr hS, v, n, by rw [hxl]; rfl, S.n5, hw, fun hy => ?_, qE⟩
    obtain ⟨j, rfl, hj⟩ := inV2_int hy
    obtain ⟨i, e1, hi, e2, e3⟩ := S.at_ hj
    refine ⟨_, rfl, p, dx, _, rfl, S.ob, FL_no (by decide +kernel) (by decide +kernel) (by decide +kernel) (by decide +kernel), _, rfl, p, C, dx, _, _, rfl, S.ob, T.cl, T.a2, k2, _, rfl, a, _, j, _, rfl, rfl, S.sq, e3, ?_⟩
    refine ⟨p, dx, .ref ah, a, t, l, h, n, L, path, held, .int i, rfl, S, hp5, .int i, fun i' ei hi' H1 a1 z f1 S1 hz => ?_, fun z => ?_⟩
    · cases ei
      rw [e2] at hz
      exact q j i rfl hj e1 hi e2 H1 a1 z f1 S1 hz
    · rw [inV2_yes hi] at z
      cases z
/-- a name is put -/
def spPut (K : PySem.W.Frag) (C Cm : Addr) : Sp := fun vs H Q E => ∃ (p dx : Addr) (hv : V) (a t l : Addr) (h : List (List Int)) (n : Nat) (L path held : List Int) (v : V) (z : Int), vs = [.ref p, v, .int z] ∧ ShP K C H p dx hv a t l h n L path held ∧ path.length < 500 ∧ Sw K H v ∧
  (∀ j i, v = .int j → InR n j → L[j.toNat]? = some i → InR n i → L.idxOf i = j.toNat → ∀ H' a', Sh3 p t l H H' → ShP K C H' p dx hv a' t l h n (stp h i L) (path ++ [i]) (held.set j.toNat z) → Q .non H') ∧ (inV2 0 ((n : Int) - 1) v = false → E (.ref Cm) none H)
theorem ok_put (F : DfM K C "put" "Shelf.put" st_m_put ["self", "name", "value"]) (B : Bu mg) (T : ShC K mg C) (CM : CalX P w K mg base 4 "check_name" (spCheckPlX K Cm)) (MW : MetX P w K mg base 5 C "write" (spWrite K C Cp Cn)) : MetX P w K mg base 6 C "put" (spPut K C Cm) := by
  refine mkMetX F sc_m_put (fun vs H Q E h => ?_) (fun f cdv A outer s H vs Q E hr h => ?_)
  · obtain ⟨p, dx, hv, a, t, l, h, n, L, path, held, v, z, rfl, _⟩ := h
    rfl
  · obtain ⟨p, dx, hv, a, t, l, h, n, L, path, held, v, z, rfl, S, hp5, hw, q, qE⟩ := h
    obtain ⟨ah, xs, rfl, hS, hxl⟩ := len_hab S.hT S.hb
    obtain ⟨k1, k2, k3, k4⟩ := FL_look (.ref ah) (.ref a) (.ref t) (.ref l)
    refine ⟨_, pss_cons (ps_expr (pcX CM passE hr (pa_cons (pv 1) (pa_cons (pe_callB (cl_len K) (by rfl) B.len PySem.boot_len (pa_cons (pe_fld (pv 0) rfl) pa_nil)) pa_nil))))
      (pss_one (ps_expr (pmX MW T.cl passE hr (pv 0) (pa_cons (pe_ix (ixT K) (pe_fld (pv 0) rfl) (pv 1) (fun _ _ => rfl)) (pa_cons (pv 2) pa_nil))))), ?_⟩
    refine ⟨_, rfl, _, rfl, p, C, dx, _, _, rfl, S.ob, T.cl, T.a1, k1, ah, xs, rfl, .inr hS, v, n, by rw [hxl]; rfl, S.n5, hw, fun hy => ?_, qE⟩
    obtain ⟨j, rfl, hj⟩ := inV2_int hy
    obtain ⟨i, e1, hi, e2, e3⟩ := S.at_ hj
    refine ⟨_, rfl, p, dx, _, rfl, S.ob, FL_no (by decide +kernel) (by decide +kernel) (by decide +kernel) (by decide +kernel), _, rfl, p, C, dx, _, _, rfl, S.ob, T.cl, T.a2, k2, _, rfl, a, _, j, _, rfl, rfl, S.sq, e3, _, rfl, ?_⟩
    refine ⟨p, dx, .ref ah, a, t, l, h, n, L, path, held, .int i, .int z, rfl, S, hp5, .int i, .int z, fun i' z' ei hi' ez H1 a1 f1 S1 => ?_, fun z => ?_, fun _ z => nomatch z⟩
    · cases ei
      cases ez
      rw [e2] at S1
      exact q j i rfl hj e1 hi e2 H1 a1 f1 S1
    · rw [inV2_yes hi] at z
      cases z
/-! ### its properties -/
structure DfP (K : PySem.W.Frag) (C : Addr) (x q : Str) (st : Stmt) : Prop where
  ex : ∃ (pa g : Addr) (fd : FuncData), Fun K x q st g fd ∧ PropOf K C x pa g ∧ Binds K fd ["self"] []
structure PrX (P : Program) (w : World) (K : PySem.W.Frag) (mg : Str → Option Value) (base : Heap) (k : Nat) (C : Addr) (x : Str) (sp : Sp) : Prop where
  ex : ∃ (pa g : Addr) (fd : FuncData), FnOk P w K mg base CX0 k g fd ["self"] sp ∧ PropOf K C x pa g ∧ Binds K fd ["self"] []
def spPr (K : PySem.W.Frag) (C : Addr) (R : Addr → List Int → List Int → Hp → VK → Prop) : Sp := fun vs H Q _ => ∃ (p dx : Addr) (hv : V) (a t l : Addr) (h : List (List Int)) (n : Nat) (L path held : List Int), vs = [.ref p] ∧ ShP K C H p dx hv a t l h n L path held ∧ R a path held H Q
theorem ok_layout (F : DfP K C "layout" "Shelf.layout" st_m_layout) (T : ShC K mg C) : PrX P w K mg base 1 C "layout" (spPr K C fun a _ _ H Q => Q (.ref a) H) := by
  obtain ⟨pa, g, fd, F, hp, b⟩ := F.ex
  refine ⟨pa, g, fd, F.ok sc_m_layout (fun vs H Q E h => ?_) (fun cdv A outer s H vs Q E hr h => ?_), hp, b⟩
  · obtain ⟨p, dx, hv, a, t, l, h, n, L, path, held, rfl, _⟩ := h
    rfl
  · obtain ⟨p, dx, hv, a, t, l, h, n, L, path, held, rfl, S, q⟩ := h
    obtain ⟨k1, k2, k3, k4⟩ := FL_look hv (.ref a) (.ref t) (.ref l)
    exact ⟨_, PSs.nox (pss_one (ps_ret (pe_fld (pv 0) rfl))), _, rfl, p, C, dx, _, _, rfl, S.ob, T.cl, T.a2, k2, q⟩
theorem ok_path (F : DfP K C "path" "Shelf.path" st_m_path) (B : Bu mg) (T : ShC K mg C) : PrX P w K mg base 1 C "path" (spPr K C fun _ path _ H Q => ∀ q, H q = none → Q (.ref q) (upd H q (.tup (path.map V.int)))) := by
  obtain ⟨pa, g, fd, F, hp, b⟩ := F.ex
  refine ⟨pa, g, fd, F.ok sc_m_path (fun vs H Q E h => ?_) (fun cdv A outer s H vs Q E hr h => ?_), hp, b⟩
  · obtain ⟨p, dx, hv, a, t, l, h, n, L, path, held, rfl, _⟩ := h
    rfl
  · obtain ⟨p, dx, hv, a, t, l, h, n, L, path, held, rfl, S, q⟩ := h
    obtain ⟨k1, k2, k3, k4⟩ := FL_look hv (.ref a) (.ref t) (.ref l)
    exact ⟨_, PSs.nox (pss_one (ps_ret (pe_tupleOf (by rfl) B.tuple (pe_fld (pv 0) rfl)))), _, rfl, p, C, dx, _, _, rfl, S.ob, T.cl, T.a3, k3, .inl ⟨t, _, rfl, lstAt S.tc, q⟩⟩
theorem ok_held (F : DfP K C "held" "Shelf.held" st_m_held) (B : Bu mg) (T : ShC K mg C) : PrX P w K mg base 1 C "held" (spPr K C fun _ _ held H Q => ∀ q, H q = none → Q (.ref q) (upd H q (.tup (held.map V.int)))) := by
  obtain ⟨pa, g, fd, F, hp, b⟩ := F.ex
  refine ⟨pa, g, fd, F.ok sc_m_held (fun vs H Q E h => ?_) (fun cdv A outer s H vs Q E hr h => ?_), hp, b⟩
  · obtain ⟨p, dx, hv, a, t, l, h, n, L, path, held, rfl, _⟩ := h
    rfl
  · obtain ⟨p, dx, hv, a, t, l, h, n, L, path, held, rfl, S, q⟩ := h
    obtain ⟨k1, k2, k3, k4⟩ := FL_look hv (.ref a) (.ref t) (.ref l)
    exact ⟨_, PSs.nox (pss_one (ps_ret (pe_tupleOf (by rfl) B.tuple (pe_fld (pv 0) rfl)))), _, rfl, p, C, dx, _, _, rfl, S.ob, T.cl, T.a4, k4, .inl ⟨l, _, rfl, lstAt S.wl, q⟩⟩
end
end RH
set_option Elab.async false
set_option linter.all false
set_option maxRecDepth 100000
set_option maxHeartbeats 2000000
namespace RH
open PySem PySem.Spec PyProof.Rows L2
open NdefX (NScope CellsAt Caps slotAt slotAt_of cells_of startF ncx)
open LamX (Tabs TabS TabB ExtN CodeO codeO_ne)
/-! ### what an error tells -/
/-- the word of an error's class among five -/
def wordAt : Nat → Str
  | 2 => "place"
  | 3 => "names"
  | _ => "number"
structure Knd (K : PySem.W.Frag) (mg : Str → Option Value) (E : Addr) (b : Nat) : Prop where
  two : b = 2 ∨ b = 3 ∨ b = 4
  ex : ExcC K E
  sup : ∃ S, mg "ShelfError" = some (.ref S) ∧ PySem.W.exmOne K (.ref E) (.ref S) = some true
  k0 : ∃ c, mg "BadHabit" = some (.ref c) ∧ PySem.W.kitOne K (.ref E) (.ref c) = some false
  k1 : ∃ c, mg "BadLayout" = some (.ref c) ∧ PySem.W.kitOne K (.ref E) (.ref c) = some false
  k2 : ∃ c, mg "BadPlace" = some (.ref c) ∧ PySem.W.kitOne K (.ref E) (.ref c) = some (decide (b = 2))
  k3 : ∃ c, mg "BadNames" = some (.ref c) ∧ PySem.W.kitOne K (.ref E) (.ref c) = some (decide (b = 3))
  k4 : ∃ c, mg "BadNumber" = some (.ref c) ∧ PySem.W.kitOne K (.ref E) (.ref c) = some (decide (b = 4))
/-- the classes that the law names -/
structure Five (mg : Str → Option Value) (S c0 c1 c2 c3 c4 : Addr) : Prop where
  s : mg "ShelfError" = some (.ref S)
  h0 : mg "BadHabit" = some (.ref c0)
  h1 : mg "BadLayout" = some (.ref c1)
  h2 : mg "BadPlace" = some (.ref c2)
  h3 : mg "BadNames" = some (.ref c3)
  h4 : mg "BadNumber" = some (.ref c4)
theorem run_ex {X : Cx} {st : List Stmt} {pins : List (Addr × Obj)} {s : Shared} {σ : L2.St} {H : Hp} {D : Ends} (I : Inv X pins σ H s) (h : ∃ t, PSs X st t ∧ t D σ H) : wpAny (model X.prog X.w) X.A (execs st X.env) (SP X pins D) X.xe s := let ⟨_, ht, hq⟩ := h; ht.run pins s σ H D I hq
def RS (K : PySem.W.Frag) (mg : Str → Option Value) (a : Addr) (cls : Value) (d : Option Addr) : TS := fun D σ H => ∃ (v : V) (E : Addr) (b : Nat), σ = [some v, some .non, some (.ref a), none, none] ∧ cls = .ref E ∧ d = none ∧ Knd K mg E b ∧
  ∀ H3 k1 k2, Same H H3 → D.nx [some v, some (.str (wordAt b)), some (.ref a), some (.ref k1), some (.ref k2)] H3
section
variable {P : Program} {w : World} {K : PySem.W.Frag} {mg : Str → Option Value} {base : Heap}
def spRefused (P : Program) (w : World) (K : PySem.W.Frag) (mg : Str → Option Value) (base : Heap) : Sp := fun vs H Q _ => ∃ (f : Addr) (ok : Hp → VK → XK → Prop) (E : Addr) (b : Nat), vs = [.ref f] ∧ Ready P w K mg base 7 f H ok ∧ Knd K mg E b ∧
  (∀ Qx Ex, (∀ H2, Same H H2 → Ex (.ref E) none H2) → ok H Qx Ex) ∧ ∀ H3, Same H H3 → Q (.str (wordAt b)) H3
theorem ok_refused {S c0 c1 c2 c3 c4 : Addr} (F : Df K mg "_law_refused" st__law_refused ["work"]) (B : Bu mg) (Fv : Five mg S c0 c1 c2 c3 c4) : Cal P w K mg base 8 "_law_refused" (spRefused P w K mg base) := by
  refine mkCal F sc__law_refused (fun vs H Q E h => ?_) (fun f cdv A outer s H vs Q E hr h => ?_)
  · obtain ⟨f, ok, Er, b, rfl, _⟩ := h
    rfl
  · obtain ⟨fw, ok, E0, b0, rfl, R, Kn0, hok, q⟩ := h
    refine ⟨_, pss_cons (ps_set (i := 1) sc__law_refused.nd rfl (.inl rfl) pe_non)
      (pss_cons (ps_try_as (i := 2) (c := .ref S) (tb := fun W => tDrop (tCall0K P w K mg base 7 0 (WE W))) (ts := fun a cls d => RS K mg a cls d) (Wout := fun _ _ _ _ => False) rfl rfl sc__law_refused.nd rfl rfl ⟨rfl, by decide, .inl Fv.s⟩ takes0
        (fun W pn xe tk _ => by exact pss_one (ps_expr (pe_call0K hr (by decide) (fun σ => passAt tk σ) rfl (.inl rfl))))
        (fun a oe cls d pn hz hf => ⟨fun pins s2 σ H2 D I h2 => ?_⟩))
      (pss_one (ps_ret (pv 1)))), ?_⟩
    · obtain ⟨v, Er, b, rfl, rfl, rfl, Kn, q2⟩ := h2
      refine run_ex I ⟨_, pss_cons (ps_set (i := 3) sc__law_refused.nd rfl (.inl rfl) (pe_lst pa_nil))
          (pss_cons (ps_expr (pe_bm PySem.F.plainAttrs_list PySem.F.slot_list_append PySem.F.type_list_append mt_append (pv 3) (pa_cons (pe_callB (call_isX (X := (cxOf CX0 P w K mg base ["work", "found", "e", "kinds", "names"] "_law_refused" (defScope st__law_refused) f cdv A outer s H E).nox) (a := a) (pn := pn) hz hf) (by rfl) B.isi (by decide +kernel) (pa_cons (pv 2) (pa_cons (pe_glob (v := .ref c0) (by rfl) Fv.h0 (by rfl)) pa_nil))) pa_nil)))
          (pss_cons (ps_expr (pe_bm PySem.F.plainAttrs_list PySem.F.slot_list_append PySem.F.type_list_append mt_append (pv 3) (pa_cons (pe_callB (call_isX (X := (cxOf CX0 P w K mg base ["work", "found", "e", "kinds", "names"] "_law_refused" (defScope st__law_refused) f cdv A outer s H E).nox) (a := a) (pn := pn) hz hf) (by rfl) B.isi (by decide +kernel) (pa_cons (pv 2) (pa_cons (pe_glob (v := .ref c1) (by rfl) Fv.h1 (by rfl)) pa_nil))) pa_nil)))
          (pss_cons (ps_expr (pe_bm PySem.F.plainAttrs_list PySem.F.slot_list_append PySem.F.type_list_append mt_append (pv 3) (pa_cons (pe_callB (call_isX (X := (cxOf CX0 P w K mg base ["work", "found", "e", "kinds", "names"] "_law_refused" (defScope st__law_refused) f cdv A outer s H E).nox) (a := a) (pn := pn) hz hf) (by rfl) B.isi (by decide +kernel) (pa_cons (pv 2) (pa_cons (pe_glob (v := .ref c2) (by rfl) Fv.h2 (by rfl)) pa_nil))) pa_nil)))
          (pss_cons (ps_expr (pe_bm PySem.F.plainAttrs_list PySem.F.slot_list_append PySem.F.type_list_append mt_append (pv 3) (pa_cons (pe_callB (call_isX (X := (cxOf CX0 P w K mg base ["work", "found", "e", "kinds", "names"] "_law_refused" (defScope st__law_refused) f cdv A outer s H E).nox) (a := a) (pn := pn) hz hf) (by rfl) B.isi (by decide +kernel) (pa_cons (pv 2) (pa_cons (pe_glob (v := .ref c3) (by rfl) Fv.h3 (by rfl)) pa_nil))) pa_nil)))
          (pss_cons (ps_expr (pe_bm PySem.F.plainAttrs_list PySem.F.slot_list_append PySem.F.type_list_append mt_append (pv 3) (pa_cons (pe_callB (call_isX (X := (cxOf CX0 P w K mg base ["work", "found", "e", "kinds", "names"] "_law_refused" (defScope st__law_refused) f cdv A outer s H E).nox) (a := a) (pn := pn) hz hf) (by rfl) B.isi (by decide +kernel) (pa_cons (pv 2) (pa_cons (pe_glob (v := .ref c4) (by rfl) Fv.h4 (by rfl)) pa_nil))) pa_nil)))
          (pss_cons (ps_set (i := 4) sc__law_refused.nd rfl (.inl rfl) (pe_lst (pa_cons pe_str (pa_cons pe_str (pa_cons pe_str (pa_cons pe_str (pa_cons pe_str pa_nil)))))))
          (pss_cons (ps_set (i := 1) sc__law_refused.nd rfl (.inl rfl) (pe_ifExp (pt_cmpR op_eq (pe_bm PySem.F.plainAttrs_list PySem.F.slot_list_count PySem.F.type_list_count mt_countF (pv 3) (pa_cons pe_bl pa_nil)) pe_int (nomark _))
            (pe_ix ix_list (pv 4) (pe_bm PySem.F.plainAttrs_list PySem.F.slot_list_index PySem.F.type_list_index mt_index (pv 3) (pa_cons pe_bl pa_nil)) (fun _ _ => rfl)) pe_str))
          (pss_one (ps_set (i := 1) sc__law_refused.nd rfl (.inl rfl) (pe_ifExp (pt_cmpR op_eq (pv 1) pe_str (nomark _)) pe_no (pv 1))))))))))), ?_⟩
      obtain ⟨two, ex, _, ⟨e0, m0, k0⟩, ⟨e1, m1, k1⟩, ⟨e2, m2, k2⟩, ⟨e3, m3, k3⟩, ⟨e4, m4, k4⟩⟩ := Kn
      obtain rfl : e0 = c0 := Value.ref.inj (Option.some.inj (m0.symm.trans Fv.h0))
      obtain rfl : e1 = c1 := Value.ref.inj (Option.some.inj (m1.symm.trans Fv.h1))
      obtain rfl : e2 = c2 := Value.ref.inj (Option.some.inj (m2.symm.trans Fv.h2))
      obtain rfl : e3 = c3 := Value.ref.inj (Option.some.inj (m3.symm.trans Fv.h3))
      obtain rfl : e4 = c4 := Value.ref.inj (Option.some.inj (m4.symm.trans Fv.h4))
      refine ⟨Nat.zero_le _, fun kl hkl => ?_⟩
      have sk := same_new (o := .lst []) hkl
      refine ⟨_, rfl, .inl ⟨rfl, _, lstAt upd_same⟩, _, rfl, Er, e0, _, rfl, rfl, ex, rfl, k0, kl, _, _, rfl, rfl, upd_same, by show 0 < sizeLine; decide +kernel, ?_⟩
      refine ⟨_, rfl, .inl ⟨rfl, _, lstAt upd_same⟩, _, rfl, Er, e1, _, rfl, rfl, ex, rfl, k1, kl, _, _, rfl, rfl, upd_same, by show 1 < sizeLine; decide +kernel, ?_⟩
      refine ⟨_, rfl, .inl ⟨rfl, _, lstAt upd_same⟩, _, rfl, Er, e2, _, rfl, rfl, ex, rfl, k2, kl, _, _, rfl, rfl, upd_same, by show 2 < sizeLine; decide +kernel, ?_⟩
      refine ⟨_, rfl, .inl ⟨rfl, _, lstAt upd_same⟩, _, rfl, Er, e3, _, rfl, rfl, ex, rfl, k3, kl, _, _, rfl, rfl, upd_same, by show 3 < sizeLine; decide +kernel, ?_⟩
      refine ⟨_, rfl, .inl ⟨rfl, _, lstAt upd_same⟩, _, rfl, Er, e4, _, rfl, rfl, ex, rfl, k4, kl, _, _, rfl, rfl, upd_same, by show 4 < sizeLine; decide +kernel, ?_⟩
      refine ⟨by decide +kernel, fun nl hnl => ?_⟩
      have sn : Same H2 _ := fun bb o e => same_new (o := .lst [.str "habit", .str "layout", .str "place", .str "names", .str "number"]) hnl bb o (by
        have nb : bb ≠ kl := ne_of_none e hkl
        rw [upd_ne nb, upd_ne nb, upd_ne nb, upd_ne nb, upd_ne nb, upd_ne nb]
        exact e)
      have nkn : kl ≠ nl := ne_of_none upd_same hnl
      refine ⟨_, rfl, .inl ⟨rfl, _, lstAt (by rw [upd_ne nkn]; exact upd_same)⟩, kl, _, .bl true, rfl, rfl, lstAt (by rw [upd_ne nkn]; exact upd_same), rfl, rfl, rfl, _, rfl, ?_⟩
      rcases two with rfl | rfl | rfl
      · refine ifT (by decide +kernel) ⟨_, rfl, _, rfl, .inl ⟨rfl, _, lstAt (by rw [upd_ne nkn]; exact upd_same)⟩, kl, _, .bl true, 2, .bl true, rfl, rfl, lstAt (by rw [upd_ne nkn]; exact upd_same), rfl, rfl, rfl, rfl, fun m z' hm hz' => ?_, nl, _, _, _, rfl, rfl, lstAt upd_same, rfl, ?_⟩
        · match m, hm with
          | 0, _ => cases Option.some.inj hz'; rfl
          | 1, _ => cases Option.some.inj hz'; rfl
        · exact ⟨_, rfl, rfl, _, rfl, ifF (by decide +kernel) ⟨_, rfl, q2 _ kl nl sn⟩⟩
      · refine ifT (by decide +kernel) ⟨_, rfl, _, rfl, .inl ⟨rfl, _, lstAt (by rw [upd_ne nkn]; exact upd_same)⟩, kl, _, .bl true, 3, .bl true, rfl, rfl, lstAt (by rw [upd_ne nkn]; exact upd_same), rfl, rfl, rfl, rfl, fun m z' hm hz' => ?_, nl, _, _, _, rfl, rfl, lstAt upd_same, rfl, ?_⟩
        · match m, hm with
          | 0, _ => cases Option.some.inj hz'; rfl
          | 1, _ => cases Option.some.inj hz'; rfl
          | 2, _ => cases Option.some.inj hz'; rfl
        · exact ⟨_, rfl, rfl, _, rfl, ifF (by decide +kernel) ⟨_, rfl, q2 _ kl nl sn⟩⟩
      · refine ifT (by decide +kernel) ⟨_, rfl, _, rfl, .inl ⟨rfl, _, lstAt (by rw [upd_ne nkn]; exact upd_same)⟩, kl, _, .bl true, 4, .bl true, rfl, rfl, lstAt (by rw [upd_ne nkn]; exact upd_same), rfl, rfl, rfl, rfl, fun m z' hm hz' => ?_, nl, _, _, _, rfl, rfl, lstAt upd_same, rfl, ?_⟩
        · match m, hm with
          | 0, _ => cases Option.some.inj hz'; rfl
          | 1, _ => cases Option.some.inj hz'; rfl
          | 2, _ => cases Option.some.inj hz'; rfl
          | 3, _ => cases Option.some.inj hz'; rfl
        · exact ⟨_, rfl, rfl, _, rfl, ifF (by decide +kernel) ⟨_, rfl, q2 _ kl nl sn⟩⟩
    · refine ⟨fw, ok, rfl, R, hok _ _ fun H2 s2 => ?_⟩
      obtain ⟨S', gS, hS⟩ := Kn0.sup
      obtain rfl : S' = S := Value.ref.inj (Option.some.inj (gS.symm.trans Fv.s))
      exact ⟨true, hS, fun _ a ha => ⟨.ref fw, E0, b0, rfl, rfl, rfl, Kn0, fun H3 k1 k2 s3 => ⟨_, rfl, q H3 (s2.trans s3)⟩⟩, fun z => nomatch z⟩
end
end RH
set_option Elab.async false
set_option linter.all false
set_option maxRecDepth 100000
set_option maxHeartbeats 2000000
namespace RH
open PySem PySem.Spec PyProof.Rows L2
open NdefX (NScope CellsAt Caps slotAt slotAt_of cells_of startF ncx)
open LamX (Tabs TabS TabB ExtN CodeO codeO_ne)
/-! ### the lambdas that the law makes -/
def lamP : Expr → Arguments
  | .Lambda p _ _ _ => p
  | _ => defArgs st_law
def lamB : Expr → Expr
  | .Lambda _ b _ _ => b
  | e => e
def lamS : Expr → Scope
  | .Lambda _ _ sc _ => sc
  | _ => defScope st_law
def lamO : Expr → Pos
  | .Lambda _ _ _ p => p
  | _ => ⟨0, 0, 0, 0⟩
/-- a def of the text with its code object -/
structure DfC (K : PySem.W.Frag) (mg : Str → Option Value) (x : Str) (st : Stmt) (ps : List Str) (c : Addr) : Prop where
  ex : ∃ (f : Addr) (oc : Value) (od : Option Addr) (kV doc pm : Value) (an : Option Addr) (ct : Value) (osl : Array (Option Value)), K.lookup f = some ⟨oc, od, .func (PySem.W.fnOf x x (defArgs st) (defBody st) (defScope st) .none kV doc pm an (.ref c) ct), osl⟩ ∧
    PySem.W.codeIn K (.ref c) x = true ∧ PySem.W.keepIn K (.ref f) = true ∧ mg x = some (.ref f) ∧ Binds K (PySem.W.fnOf x x (defArgs st) (defBody st) (defScope st) .none kV doc pm an (.ref c) ct) ps []
/-- the first argument of a call that stands alone -/
def argOf : Stmt → Expr
  | .Expr (.Call _ as _ _) _ => as.getD 0 (.Constant .none 0 ⟨0, 0, 0, 0⟩)
  | _ => .Constant .none 0 ⟨0, 0, 0, 0⟩
abbrev lamW (i : Nat) : Expr := argOf ((defBody st__law_works).getD i (.Pass ⟨0, 0, 0, 0⟩))
theorem nsW1 : NScope ["one", "other"] [] ["one", "other"] (lamS (lamW 1)) := NdefX.nscope_by (by decide +kernel)
theorem nsW2 : NScope ["one", "other"] [] ["one", "other"] (lamS (lamW 2)) := NdefX.nscope_by (by decide +kernel)
theorem nsW3 : NScope ["one", "other", "third"] [] ["one", "other", "third"] (lamS (lamW 3)) := NdefX.nscope_by (by decide +kernel)
theorem nsW4 : NScope ["one", "third"] [] ["one", "third"] (lamS (lamW 4)) := NdefX.nscope_by (by decide +kernel)
theorem nsW5 : NScope ["one", "third"] [] ["one", "third"] (lamS (lamW 5)) := NdefX.nscope_by (by decide +kernel)
section
variable {P : Program} {w : World} {K : PySem.W.Frag} {mg : Str → Option Value} {base : Heap} {C Cp Cn Cm : Addr}
theorem passN {N : List Str} {F : NdefX.NF} {f : Addr} {A : Around} {outer : List Env} {s : Shared} {H : Hp} {E : XK} : Passes (L2.CX P w) (ncx (L2.CX P w) P w K mg base N F f A outer s H E) E :=
  passes_call (W := fun cls d _ H => E cls d H) (takes_of rfl rfl rfl rfl) (fun _ _ _ _ h => h)
def spW (sp : Sp) (g : List V → List V) : List (Option V) → Sp := fun ws vs H Q E => ∃ us : List V, ws = us.map some ∧ vs = [] ∧ sp (g us) H Q E
theorem no_m {hv a t l : V} : (FL hv a t l).lookup ("read" : Str) = none ∧ (FL hv a t l).lookup ("touch" : Str) = none ∧ (FL hv a t l).lookup ("write" : Str) = none ∧ (FL hv a t l).lookup ("fetch" : Str) = none ∧ (FL hv a t l).lookup ("put" : Str) = none :=
  ⟨FL_no (by decide +kernel) (by decide +kernel) (by decide +kernel) (by decide +kernel), FL_no (by decide +kernel) (by decide +kernel) (by decide +kernel) (by decide +kernel), FL_no (by decide +kernel) (by decide +kernel) (by decide +kernel) (by decide +kernel),
    FL_no (by decide +kernel) (by decide +kernel) (by decide +kernel) (by decide +kernel), FL_no (by decide +kernel) (by decide +kernel) (by decide +kernel) (by decide +kernel)⟩
theorem lokW1 (T : ShC K mg C) (M : MetX P w K mg base 5 C "read" (spRead K C Cp)) (q : Str) (cl : List (Str × Addr)) (c f : Addr) : LOk P w K mg base (L2.CX P w) 7 f ⟨q, lamP (lamW 1), lamB (lamW 1), lamS (lamW 1), cl, c⟩ [] ["one", "other"] (spW (spRead K C Cp) id) := by
  refine lok_of nsW1 (fun pm ctv us hl => ?_) (fun ws vs H Q E hq => ?_) (fun A outer s H vs ws Q E hr _ hsp => ?_)
  · match us, hl with
    | [], _ => rfl
  · obtain ⟨us, _, rfl, _⟩ := hq
    rfl
  · obtain ⟨us, rfl, rfl, hsp⟩ := hsp
    obtain ⟨p, dx, hv, a, t, l, h, n, L, path, held, v, e, S, r⟩ := id hsp
    obtain rfl : us = [.ref p, v] := e
    exact ⟨_, pmX M T.cl passN hr (pv 0) (pa_cons (pv 1) pa_nil), _, rfl, p, dx, _, rfl, S.ob, no_m.1, _, rfl, hsp⟩
theorem lokW2 (T : ShC K mg C) (M : MetX P w K mg base 5 C "touch" (spTouchM K C Cp)) (q : Str) (cl : List (Str × Addr)) (c f : Addr) : LOk P w K mg base (L2.CX P w) 7 f ⟨q, lamP (lamW 2), lamB (lamW 2), lamS (lamW 2), cl, c⟩ [] ["one", "other"] (spW (spTouchM K C Cp) id) := by
  refine lok_of nsW2 (fun pm ctv us hl => ?_) (fun ws vs H Q E hq => ?_) (fun A outer s H vs ws Q E hr _ hsp => ?_)
  · match us, hl with
    | [], _ => rfl
  · obtain ⟨us, _, rfl, _⟩ := hq
    rfl
  · obtain ⟨us, rfl, rfl, hsp⟩ := hsp
    obtain ⟨p, dx, hv, a, t, l, h, n, L, path, held, v, e, S, r⟩ := id hsp
    obtain rfl : us = [.ref p, v] := e
    exact ⟨_, pmX M T.cl passN hr (pv 0) (pa_cons (pv 1) pa_nil), _, rfl, p, dx, _, rfl, S.ob, no_m.2.1, _, rfl, hsp⟩
theorem lokW3 (T : ShC K mg C) (M : MetX P w K mg base 5 C "write" (spWrite K C Cp Cn)) (q : Str) (cl : List (Str × Addr)) (c f : Addr) : LOk P w K mg base (L2.CX P w) 7 f ⟨q, lamP (lamW 3), lamB (lamW 3), lamS (lamW 3), cl, c⟩ [] ["one", "other", "third"] (spW (spWrite K C Cp Cn) id) := by
  refine lok_of nsW3 (fun pm ctv us hl => ?_) (fun ws vs H Q E hq => ?_) (fun A outer s H vs ws Q E hr _ hsp => ?_)
  · match us, hl with
    | [], _ => rfl
  · obtain ⟨us, _, rfl, _⟩ := hq
    rfl
  · obtain ⟨us, rfl, rfl, hsp⟩ := hsp
    obtain ⟨p, dx, hv, a, t, l, h, n, L, path, held, v, x, e, S, r⟩ := id hsp
    obtain rfl : us = [.ref p, v, x] := e
    exact ⟨_, pmX M T.cl passN hr (pv 0) (pa_cons (pv 1) (pa_cons (pv 2) pa_nil)), _, rfl, p, dx, _, rfl, S.ob, no_m.2.2.1, _, rfl, _, rfl, hsp⟩
theorem lokW4 (T : ShC K mg C) (M : MetX P w K mg base 6 C "fetch" (spFetch K C Cm)) (q : Str) (cl : List (Str × Addr)) (c f : Addr) : LOk P w K mg base (L2.CX P w) 7 f ⟨q, lamP (lamW 4), lamB (lamW 4), lamS (lamW 4), cl, c⟩ [] ["one", "third"] (spW (spFetch K C Cm) id) := by
  refine lok_of nsW4 (fun pm ctv us hl => ?_) (fun ws vs H Q E hq => ?_) (fun A outer s H vs ws Q E hr _ hsp => ?_)
  · match us, hl with
    | [], _ => rfl
  · obtain ⟨us, _, rfl, _⟩ := hq
    rfl
  · obtain ⟨us, rfl, rfl, hsp⟩ := hsp
    obtain ⟨p, dx, hv, a, t, l, h, n, L, path, held, v, e, S, r⟩ := id hsp
    obtain rfl : us = [.ref p, v] := e
    exact ⟨_, pmX M T.cl passN hr (pv 0) (pa_cons (pv 1) pa_nil), _, rfl, p, dx, _, rfl, S.ob, no_m.2.2.2.1, _, rfl, hsp⟩
theorem lokW5 (T : ShC K mg C) (M : MetX P w K mg base 6 C "put" (spPut K C Cm)) (q : Str) (cl : List (Str × Addr)) (c f : Addr) : LOk P w K mg base (L2.CX P w) 7 f ⟨q, lamP (lamW 5), lamB (lamW 5), lamS (lamW 5), cl, c⟩ [] ["one", "third"] (spW (spPut K C Cm) fun us => us ++ [.int 0]) := by
  refine lok_of nsW5 (fun pm ctv us hl => ?_) (fun ws vs H Q E hq => ?_) (fun A outer s H vs ws Q E hr hwl hsp => ?_)
  · match us, hl with
    | [], _ => rfl
  · obtain ⟨us, _, rfl, _⟩ := hq
    rfl
  · obtain ⟨us, rfl, rfl, hsp⟩ := hsp
    obtain ⟨p, dx, hv, a, t, l, h, n, L, path, held, v, z, e, S, r⟩ := id hsp
    rw [List.length_map] at hwl
    match us, hwl, e, hsp with
    | [u1, u2], _, e, hsp =>
      have e : [u1, u2, V.int 0] = [V.ref p, v, V.int z] := e
      injection e with e1 e
      injection e with e2 e
      subst e1
      subst e2
      exact ⟨_, pmX M T.cl passN hr (pv 0) (pa_cons (pv 1) (pa_cons pe_int pa_nil)), _, rfl, p, dx, _, rfl, S.ob, no_m.2.2.2.2, _, rfl, hsp⟩
/-- a lambda of the law's stands with what it caught -/
structure LamAt (lam : Expr) (fr : List Str) (ws : List V) (l : CL) (f : Addr) (H : Hp) : Prop where
  ex : ∃ q cl c, LiveK f ⟨q, lamP lam, lamB lam, lamS lam, cl, c⟩ l H ∧ Cap ⟨q, lamP lam, lamB lam, lamS lam, cl, c⟩ fr ws l
def lamQ (x : Str) : Str := (envOfC x (defScope st__law_works) 0 0 .none).qual ++ "<lambda>"
def tabsW (P1 : Addr) : List (Addr × Str) := [(P1, lamQ "_law_works")]
def spWorks (T : List (Addr × Str)) : Sp := fun vs H Q _ => ∃ (v1 v2 v3 : V), vs = [v1, v2, v3] ∧ Tabs T H ∧ ∀ (lst f1 f2 f3 f4 f5 : Addr) (l : CL) (H' : Hp), ExtN H H' → Tabs T H' → H' lst = some (.lst [.ref f1, .ref f2, .ref f3, .ref f4, .ref f5]) → Stand l H' →
  LamAt (lamW 1) ["one", "other"] [v1, v2] l f1 H' → LamAt (lamW 2) ["one", "other"] [v1, v2] l f2 H' → LamAt (lamW 3) ["one", "other", "third"] [v1, v2, v3] l f3 H' → LamAt (lamW 4) ["one", "third"] [v1, v3] l f4 H' → LamAt (lamW 5) ["one", "third"] [v1, v3] l f5 H' → Q (.ref lst) H'
theorem cells_kind {y : Str} {c : Addr} : ∀ (names : List (Str × NameKind)) (n : Nat) (acc : List (Str × Addr)), (PySem.cellsFrom n names acc).lookup y = some c → (y, NameKind.cell) ∈ names ∨ acc.lookup y = some c
  | [], _, _, h => .inr h
  | (x, k) :: r, n, acc, h => by
    unfold PySem.cellsFrom at h
    split at h
    · rename_i hk
      have hk : k = .cell := by simpa using hk
      rcases cells_kind r _ _ h with z | z
      · exact .inl (List.mem_cons_of_mem _ z)
      · rw [List.lookup_cons] at z
        split at z
        · rename_i e
          have e : y = x := by simpa using e
          rw [e, hk]
          exact .inl (List.mem_cons_self ..)
        · exact .inr z
    · rcases cells_kind r _ _ h with z | z
      · exact .inl (List.mem_cons_of_mem _ z)
      · exact .inr z
theorem extN_upd {H H' : Hp} {p : Addr} {o : HO} (e : ExtN H H') (h : H p = none) : ExtN H (upd H' p o) := fun b u q n => by
  rw [upd_ne (ne_of_none q h)]
  exact e b u q n
theorem tabs_lst {T : List (Addr × Str)} {H : Hp} {p : Addr} {xs : List V} {o : HO} (t : Tabs T H) (h : H p = some (.lst xs)) : Tabs T (upd H p o) := fun q hq => by
  obtain ⟨ps, h1, h2, h3⟩ := t q hq
  refine ⟨ps, by rw [upd_ne (ne_of h1 h (fun z => nomatch z))]; exact h1, h2, fun pos cv hc => ?_⟩
  obtain ⟨c, e1, e2⟩ := h3 pos cv hc
  exact ⟨c, e1, by rw [upd_ne (ne_of e2 h (fun z => by unfold CodeO at z; cases z))]; exact e2⟩
/-- the first lambdas are in the list -/
def WSt (mk : Nat → Addr → LF) (T : List (Addr × Str)) (H : Hp) (lst : Addr) (fcs : List (Addr × Addr)) (H' : Hp) : Prop := ExtN H H' ∧ Tabs T H' ∧ H lst = none ∧ H' lst = some (.lst (fcs.map fun x => .ref x.1)) ∧
  ∀ i x, fcs[i]? = some x → H' x.1 = some (FnL x.1 (mk (i + 1) x.2)) ∧ H' x.2 = some (CodeO x.2 (mk (i + 1) x.2).qual)
theorem WSt.step {mk : Nat → Addr → LF} {T : List (Addr × Str)} {H : Hp} {lst : Addr} {fcs : List (Addr × Addr)} {H0 H1 : Hp} {f c : Addr} (s : WSt mk T H lst fcs H0) (ex : ExtN H0 H1) (t1 : Tabs T H1) (e1 : H1 f = some (FnL f (mk (fcs.length + 1) c))) (e2 : H1 c = some (CodeO c (mk (fcs.length + 1) c).qual)) :
    H1 lst = some (.lst (fcs.map fun x => .ref x.1)) ∧ WSt mk T H lst (fcs ++ [(f, c)]) (upd H1 lst (.lst ((fcs.map fun x => V.ref x.1) ++ [.ref f]))) := by
  obtain ⟨x0, t0, hn, el, hx⟩ := s
  have el1 : H1 lst = some (.lst (fcs.map fun x => .ref x.1)) := ex _ _ el (fun ps z => nomatch z)
  have nf : ∀ b F, H1 b = some (FnL b F) → b ≠ lst := fun b F e => ne_of e el1 (fun z => by unfold FnL at z; cases z)
  have nc : ∀ b q, H1 b = some (CodeO b q) → b ≠ lst := fun b q e => ne_of e el1 (fun z => by unfold CodeO at z; cases z)
  refine ⟨el1, extN_upd (x0.trans ex) hn, tabs_lst t1 el1, hn, ?_, fun i x hi => ?_⟩
  · rw [upd_same, List.map_append]
    rfl
  · rcases Nat.lt_or_ge i fcs.length with z | z
    · rw [List.getElem?_append_left z] at hi
      obtain ⟨a1, a2⟩ := hx i x hi
      have b1 := ex _ _ a1 (fun ps => fnL_ne ps)
      have b2 := ex _ _ a2 (fun ps => codeO_ne ps)
      exact ⟨by rw [upd_ne (nf _ _ b1)]; exact b1, by rw [upd_ne (nc _ _ b2)]; exact b2⟩
    · rw [List.getElem?_append_right z] at hi
      have hz : i = fcs.length := by
        have := (List.getElem?_eq_some_iff.mp hi).1
        rw [List.length_singleton] at this
        omega
      subst hz
      rw [Nat.sub_self] at hi
      obtain rfl : (f, c) = x := Option.some.inj hi
      exact ⟨by rw [upd_ne (nf _ _ e1)]; exact e1, by rw [upd_ne (nc _ _ e2)]; exact e2⟩
theorem three_of {a1 a2 a3 : Addr} {v1 v2 v3 : V} {b : Addr} {y : V} (h : ([(a1, v1), (a2, v2), (a3, v3)] : CL).lookup b = some y) : (b = a1 ∧ y = v1) ∨ (b = a2 ∧ y = v2) ∨ (b = a3 ∧ y = v3) := by
  rw [List.lookup_cons] at h
  split at h
  · rename_i e
    exact .inl ⟨by simpa using e, (Option.some.inj h).symm⟩
  · rw [List.lookup_cons] at h
    split at h
    · rename_i e
      exact .inr (.inl ⟨by simpa using e, (Option.some.inj h).symm⟩)
    · rw [List.lookup_cons] at h
      split at h
      · rename_i e
        exact .inr (.inr ⟨by simpa using e, (Option.some.inj h).symm⟩)
      · cases h
theorem ok_works {c P1 : Addr} (F : DfC K mg "_law_works" st__law_works ["one", "other", "third"] c) (TB : TabB base mg c P1) : Cal P w K mg base 1 "_law_works" (spWorks (tabsW P1)) := by
  obtain ⟨f, oc, od, kV, doc, pm, an, ct, osl, lk, hcd, kp, g, b⟩ := F.ex
  refine ⟨f, _, _, fnR_of lk hcd sc__law_works (fun vs H Q E h => ?_) (fun A outer s H vs Q E hr h => ?_), g, kp, b⟩
  · obtain ⟨v1, v2, v3, rfl, _⟩ := h
    rfl
  · obtain ⟨v1, v2, v3, rfl, hT, q⟩ := h
    let X : Cx := cxOf CX0 P w K mg base ["one", "other", "third", "works"] "_law_works" (defScope st__law_works) f (.ref c) A outer s H E
    have h1 : ∀ y ∈ (lamS (lamW 1)).names, y.2 = .free → X.env.scope.names.lookup y.1 = some .cell ∨ X.env.scope.names.lookup y.1 = some .free := by
      have : ∀ y ∈ (lamS (lamW 1)).names, y.2 = .free → (defScope st__law_works).names.lookup y.1 = some .cell ∨ (defScope st__law_works).names.lookup y.1 = some .free := by decide +kernel
      exact this
    have h2 : ∀ y ∈ (lamS (lamW 2)).names, y.2 = .free → X.env.scope.names.lookup y.1 = some .cell ∨ X.env.scope.names.lookup y.1 = some .free := by
      have : ∀ y ∈ (lamS (lamW 2)).names, y.2 = .free → (defScope st__law_works).names.lookup y.1 = some .cell ∨ (defScope st__law_works).names.lookup y.1 = some .free := by decide +kernel
      exact this
    have h3 : ∀ y ∈ (lamS (lamW 3)).names, y.2 = .free → X.env.scope.names.lookup y.1 = some .cell ∨ X.env.scope.names.lookup y.1 = some .free := by
      have : ∀ y ∈ (lamS (lamW 3)).names, y.2 = .free → (defScope st__law_works).names.lookup y.1 = some .cell ∨ (defScope st__law_works).names.lookup y.1 = some .free := by decide +kernel
      exact this
    have h4 : ∀ y ∈ (lamS (lamW 4)).names, y.2 = .free → X.env.scope.names.lookup y.1 = some .cell ∨ X.env.scope.names.lookup y.1 = some .free := by
      have : ∀ y ∈ (lamS (lamW 4)).names, y.2 = .free → (defScope st__law_works).names.lookup y.1 = some .cell ∨ (defScope st__law_works).names.lookup y.1 = some .free := by decide +kernel
      exact this
    have h5 : ∀ y ∈ (lamS (lamW 5)).names, y.2 = .free → X.env.scope.names.lookup y.1 = some .cell ∨ X.env.scope.names.lookup y.1 = some .free := by
      have : ∀ y ∈ (lamS (lamW 5)).names, y.2 = .free → (defScope st__law_works).names.lookup y.1 = some .cell ∨ (defScope st__law_works).names.lookup y.1 = some .free := by decide +kernel
      exact this
    let mk : Nat → Addr → LF := fun i c' => ⟨X.env.qual ++ "<lambda>", lamP (lamW i), lamB (lamW i), lamS (lamW i), cloFrom X.env.cells (lamS (lamW i)).names [], c'⟩
    have huT : ∀ p ∈ tabsW P1, p.1 = P1 → p.2 = X.env.qual ++ "<lambda>" := fun p hp e => by
      rw [List.mem_singleton.mp hp]
      rfl
    refine ⟨fun r σ' H' => ∃ lst fcs, r = .ref lst ∧ σ' = [some v1, some v2, some v3, some (.ref lst)] ∧ fcs.length = 5 ∧ WSt mk (tabsW P1) H lst fcs H', _, psr_cons (ps_set (i := 3) sc__law_works.nd rfl (.inl rfl) (pe_lst pa_nil))
      (psr_cons (ps_expr (pe_bm PySem.F.plainAttrs_list PySem.F.slot_list_append PySem.F.type_list_append mt_append (pv 3) (pa_cons (pe_lam (T := tabsW P1) (params := lamP (lamW 1)) (body := lamB (lamW 1)) (scope := lamS (lamW 1)) (pos := lamO (lamW 1)) TB rfl (by exact List.Mem.head _) huT rfl h1) pa_nil)))
      (psr_cons (ps_expr (pe_bm PySem.F.plainAttrs_list PySem.F.slot_list_append PySem.F.type_list_append mt_append (pv 3) (pa_cons (pe_lam (T := tabsW P1) (params := lamP (lamW 2)) (body := lamB (lamW 2)) (scope := lamS (lamW 2)) (pos := lamO (lamW 2)) TB rfl (by exact List.Mem.head _) huT rfl h2) pa_nil)))
      (psr_cons (ps_expr (pe_bm PySem.F.plainAttrs_list PySem.F.slot_list_append PySem.F.type_list_append mt_append (pv 3) (pa_cons (pe_lam (T := tabsW P1) (params := lamP (lamW 3)) (body := lamB (lamW 3)) (scope := lamS (lamW 3)) (pos := lamO (lamW 3)) TB rfl (by exact List.Mem.head _) huT rfl h3) pa_nil)))
      (psr_cons (ps_expr (pe_bm PySem.F.plainAttrs_list PySem.F.slot_list_append PySem.F.type_list_append mt_append (pv 3) (pa_cons (pe_lam (T := tabsW P1) (params := lamP (lamW 4)) (body := lamB (lamW 4)) (scope := lamS (lamW 4)) (pos := lamO (lamW 4)) TB rfl (by exact List.Mem.head _) huT rfl h4) pa_nil)))
      (psr_cons (ps_expr (pe_bm PySem.F.plainAttrs_list PySem.F.slot_list_append PySem.F.type_list_append mt_append (pv 3) (pa_cons (pe_lam (T := tabsW P1) (params := lamP (lamW 5)) (body := lamB (lamW 5)) (scope := lamS (lamW 5)) (pos := lamO (lamW 5)) TB rfl (by exact List.Mem.head _) huT rfl h5) pa_nil)))
      (psr_ret (pv 3))))))), ?_, fun s' σ' H' r ur J rv hR => ?_⟩
    · refine ⟨Nat.zero_le _, fun lst hl => ?_⟩
      have W0 : WSt mk (tabsW P1) H lst [] (upd H lst (.lst [])) := ⟨extN_upd (ExtN.refl H) hl, hT.ext fun bb o e => same_new hl bb o e, hl, upd_same, fun i x hi => by simp at hi⟩
      refine ⟨_, rfl, .inl ⟨rfl, _, lstAt W0.2.2.2.1⟩, W0.2.1, fun f1 c1 G1 x1 nn1 t1 nf1 a1 b1 => ?_⟩
      obtain ⟨l1, W1⟩ := W0.step (f := f1) (c := c1) x1 t1 a1 b1
      refine ⟨lst, _, _, rfl, rfl, l1, by show 0 < sizeLine; decide +kernel, ?_⟩
      refine ⟨_, rfl, .inl ⟨rfl, _, lstAt W1.2.2.2.1⟩, W1.2.1, fun f2 c2 G2 x2 nn2 t2 nf2 a2 b2 => ?_⟩
      obtain ⟨l2, W2⟩ := W1.step (f := f2) (c := c2) x2 t2 a2 b2
      refine ⟨lst, _, _, rfl, rfl, l2, by show 1 < sizeLine; decide +kernel, ?_⟩
      refine ⟨_, rfl, .inl ⟨rfl, _, lstAt W2.2.2.2.1⟩, W2.2.1, fun f3 c3 G3 x3 nn3 t3 nf3 a3 b3 => ?_⟩
      obtain ⟨l3, W3⟩ := W2.step (f := f3) (c := c3) x3 t3 a3 b3
      refine ⟨lst, _, _, rfl, rfl, l3, by show 2 < sizeLine; decide +kernel, ?_⟩
      refine ⟨_, rfl, .inl ⟨rfl, _, lstAt W3.2.2.2.1⟩, W3.2.1, fun f4 c4 G4 x4 nn4 t4 nf4 a4 b4 => ?_⟩
      obtain ⟨l4, W4⟩ := W3.step (f := f4) (c := c4) x4 t4 a4 b4
      refine ⟨lst, _, _, rfl, rfl, l4, by show 3 < sizeLine; decide +kernel, ?_⟩
      refine ⟨_, rfl, .inl ⟨rfl, _, lstAt W4.2.2.2.1⟩, W4.2.1, fun f5 c5 G5 x5 nn5 t5 nf5 a5 b5 => ?_⟩
      obtain ⟨l5, W5⟩ := W4.step (f := f5) (c := c5) x5 t5 a5 b5
      refine ⟨lst, _, _, rfl, rfl, l5, by show 4 < sizeLine; decide +kernel, ?_⟩
      exact ⟨_, rfl, lst, _, rfl, rfl, rfl, W5⟩
    · obtain ⟨lst, fcs, rfl, rfl, hl5, ex, T1, _, el, hx⟩ := hR
      match fcs, hl5, el, hx with
      | [x1, x2, x3, x4, x5], _, el, hx =>
      have kA : (defScope st__law_works).names.lookup ("one" : Str) = some NameKind.cell := by decide +kernel
      have kB : (defScope st__law_works).names.lookup ("other" : Str) = some NameKind.cell := by decide +kernel
      have kC : (defScope st__law_works).names.lookup ("third" : Str) = some NameKind.cell := by decide +kernel
      have only : ∀ y ∈ (defScope st__law_works).names, y.2 = NameKind.cell → y.1 = ("one" : Str) ∨ y.1 = ("other" : Str) ∨ y.1 = ("third" : Str) := by decide +kernel
      obtain ⟨a1, ha1⟩ := J.ok.has "one" (.inl kA)
      obtain ⟨a2, ha2⟩ := J.ok.has "other" (.inl kB)
      obtain ⟨a3, ha3⟩ := J.ok.has "third" (.inl kC)
      have n12 : a1 ≠ a2 := fun z => by
        have := J.ok.inj "one" "other" a1 ha1 (by rw [z]; exact ha2)
        exact absurd this (by decide)
      have n13 : a1 ≠ a3 := fun z => by
        have := J.ok.inj "one" "third" a1 ha1 (by rw [z]; exact ha3)
        exact absurd this (by decide)
      have n23 : a2 ≠ a3 := fun z => by
        have := J.ok.inj "other" "third" a2 ha2 (by rw [z]; exact ha3)
        exact absurd this (by decide)
      have l1 : ([(a1, v1), (a2, v2), (a3, v3)] : CL).lookup a1 = some v1 := by rw [List.lookup_cons]; simp
      have l2 : ([(a1, v1), (a2, v2), (a3, v3)] : CL).lookup a2 = some v2 := by
        rw [List.lookup_cons]
        have : (a2 == a1) = false := by simpa using Ne.symm n12
        rw [this, List.lookup_cons]
        simp
      have l3 : ([(a1, v1), (a2, v2), (a3, v3)] : CL).lookup a3 = some v3 := by
        rw [List.lookup_cons]
        have e1 : (a3 == a1) = false := by simpa using Ne.symm n13
        have e2 : (a3 == a2) = false := by simpa using Ne.symm n23
        rw [e1, List.lookup_cons, e2, List.lookup_cons]
        simp
      have up : ∀ b o, H' b = some o → lay [(a1, v1), (a2, v2), (a3, v3)] H' b = some o := fun b o e => by
        cases z : ([(a1, v1), (a2, v2), (a3, v3)] : CL).lookup b with
        | none => exact (lay_no z).trans e
        | some y =>
          exfalso
          rcases three_of z with ⟨rfl, _⟩ | ⟨rfl, _⟩ | ⟨rfl, _⟩
          · rw [J.freeC "one" _ ha1] at e
            cases e
          · rw [J.freeC "other" _ ha2] at e
            cases e
          · rw [J.freeC "third" _ ha3] at e
            cases e
      have cap : ∀ (i : Nat) (fr : List Str) (ws : List V) (c' : Addr), (∀ y ∈ (lamS (lamW i)).names, y.2 = .free → X.env.scope.names.lookup y.1 = some .cell ∨ X.env.scope.names.lookup y.1 = some .free) → ws.length = fr.length →
          (∀ (j : Nat) (y : Str), fr[j]? = some y → (y, NameKind.free) ∈ (lamS (lamW i)).names ∧ ∃ (a : Addr) (v : V), X.env.cells.lookup y = some a ∧ ([(a1, v1), (a2, v2), (a3, v3)] : CL).lookup a = some v ∧ ws[j]? = some v) → Cap (mk i c') fr ws [(a1, v1), (a2, v2), (a3, v3)] := fun i fr ws c' hf hl hj => by
        have hfm : ∀ y ∈ (lamS (lamW i)).names, y.2 = .free → ∃ c, X.env.cells.lookup y.1 = some c := fun y hy e => (hf y hy e).elim (fun z => J.ok.has _ (.inl z)) fun z => J.ok.has _ (.inr z)
        refine ⟨hl, fun y c e => ?_, fun x y c ex1 ey1 => J.ok.inj x y c (NdefX.clo_cm hfm ex1) (NdefX.clo_cm hfm ey1), fun j y e => ?_⟩
        · have h1 := NdefX.clo_cm hfm e
          have h2 : (PySem.cellsFrom (s.heap.objs.size + 1) (defScope st__law_works).names []).lookup y = some c := h1
          rcases cells_kind _ _ _ h2 with z | z
          · rcases only _ z rfl with w1 | w1 | w1
            · have w1 : y = ("one" : Str) := w1
              subst w1
              have := ha1.symm.trans h1
              rw [← Option.some.inj this]
              exact ⟨_, l1⟩
            · have w1 : y = ("other" : Str) := w1
              subst w1
              have := ha2.symm.trans h1
              rw [← Option.some.inj this]
              exact ⟨_, l2⟩
            · have w1 : y = ("third" : Str) := w1
              subst w1
              have := ha3.symm.trans h1
              rw [← Option.some.inj this]
              exact ⟨_, l3⟩
          · cases z
        · obtain ⟨m, a, v, e1, e2, e3⟩ := hj j y e
          exact ⟨a, NdefX.clo_has hfm m e1, fun v' ev => by
            rw [e3] at ev
            rw [← Option.some.inj ev]
            exact e2⟩
      have sl : Stand [(a1, v1), (a2, v2), (a3, v3)] (lay [(a1, v1), (a2, v2), (a3, v3)] H') := Stand.lay _ _
      have liv : ∀ (i : Nat) (x : Addr × Addr), H' x.1 = some (FnL x.1 (mk i x.2)) → H' x.2 = some (CodeO x.2 (mk i x.2).qual) → LiveK x.1 (mk i x.2) [(a1, v1), (a2, v2), (a3, v3)] (lay [(a1, v1), (a2, v2), (a3, v3)] H') := fun i x e1 e2 => ⟨up _ _ e1, up _ _ e2, sl⟩
      have m1 : LamAt (lamW 1) ["one", "other"] [v1, v2] [(a1, v1), (a2, v2), (a3, v3)] x1.1 (lay [(a1, v1), (a2, v2), (a3, v3)] H') := by
        obtain ⟨e1, e2⟩ := hx 0 x1 rfl
        refine ⟨_, _, _, liv 1 x1 e1 e2, cap 1 _ _ _ h1 rfl fun j y e => ?_⟩
        match j, e with
        | 0, e =>
          cases Option.some.inj e
          exact ⟨by decide +kernel, a1, v1, ha1, l1, rfl⟩
        | 1, e =>
          cases Option.some.inj e
          exact ⟨by decide +kernel, a2, v2, ha2, l2, rfl⟩
        | j + 2, e => simp at e
      have m2 : LamAt (lamW 2) ["one", "other"] [v1, v2] [(a1, v1), (a2, v2), (a3, v3)] x2.1 (lay [(a1, v1), (a2, v2), (a3, v3)] H') := by
        obtain ⟨e1, e2⟩ := hx 1 x2 rfl
        refine ⟨_, _, _, liv 2 x2 e1 e2, cap 2 _ _ _ h2 rfl fun j y e => ?_⟩
        match j, e with
        | 0, e =>
          cases Option.some.inj e
          exact ⟨by decide +kernel, a1, v1, ha1, l1, rfl⟩
        | 1, e =>
          cases Option.some.inj e
          exact ⟨by decide +kernel, a2, v2, ha2, l2, rfl⟩
        | j + 2, e => simp at e
      have m3 : LamAt (lamW 3) ["one", "other", "third"] [v1, v2, v3] [(a1, v1), (a2, v2), (a3, v3)] x3.1 (lay [(a1, v1), (a2, v2), (a3, v3)] H') := by
        obtain ⟨e1, e2⟩ := hx 2 x3 rfl
        refine ⟨_, _, _, liv 3 x3 e1 e2, cap 3 _ _ _ h3 rfl fun j y e => ?_⟩
        match j, e with
        | 0, e =>
          cases Option.some.inj e
          exact ⟨by decide +kernel, a1, v1, ha1, l1, rfl⟩
        | 1, e =>
          cases Option.some.inj e
          exact ⟨by decide +kernel, a2, v2, ha2, l2, rfl⟩
        | 2, e =>
          cases Option.some.inj e
          exact ⟨by decide +kernel, a3, v3, ha3, l3, rfl⟩
        | j + 3, e => simp at e
      have m4 : LamAt (lamW 4) ["one", "third"] [v1, v3] [(a1, v1), (a2, v2), (a3, v3)] x4.1 (lay [(a1, v1), (a2, v2), (a3, v3)] H') := by
        obtain ⟨e1, e2⟩ := hx 3 x4 rfl
        refine ⟨_, _, _, liv 4 x4 e1 e2, cap 4 _ _ _ h4 rfl fun j y e => ?_⟩
        match j, e with
        | 0, e =>
          cases Option.some.inj e
          exact ⟨by decide +kernel, a1, v1, ha1, l1, rfl⟩
        | 1, e =>
          cases Option.some.inj e
          exact ⟨by decide +kernel, a3, v3, ha3, l3, rfl⟩
        | j + 2, e => simp at e
      have m5 : LamAt (lamW 5) ["one", "third"] [v1, v3] [(a1, v1), (a2, v2), (a3, v3)] x5.1 (lay [(a1, v1), (a2, v2), (a3, v3)] H') := by
        obtain ⟨e1, e2⟩ := hx 4 x5 rfl
        refine ⟨_, _, _, liv 5 x5 e1 e2, cap 5 _ _ _ h5 rfl fun j y e => ?_⟩
        match j, e with
        | 0, e =>
          cases Option.some.inj e
          exact ⟨by decide +kernel, a1, v1, ha1, l1, rfl⟩
        | 1, e =>
          cases Option.some.inj e
          exact ⟨by decide +kernel, a3, v3, ha3, l3, rfl⟩
        | j + 2, e => simp at e
      refine ce_lay (X := X) (l := [(a1, v1), (a2, v2), (a3, v3)]) (fun _ => rfl) J rfl rfl (fun b y e => ?_) rv (q lst x1.1 x2.1 x3.1 x4.1 x5.1 [(a1, v1), (a2, v2), (a3, v3)] _ (fun b o e n => up _ _ (ex b o e n)) (T1.ext up) (up _ _ el) sl m1 m2 m3 m4 m5)
      rcases three_of e with ⟨rfl, rfl⟩ | ⟨rfl, rfl⟩ | ⟨rfl, rfl⟩
      · exact ⟨"one", 0, ha1, rfl, rfl, kA⟩
      · exact ⟨"other", 1, ha2, rfl, rfl, kB⟩
      · exact ⟨"third", 2, ha3, rfl, rfl, kC⟩
end
end RH
set_option Elab.async false
set_option linter.all false
set_option maxRecDepth 100000
set_option maxHeartbeats 2000000
namespace RH
open PySem PySem.Spec PyProof.Rows L2
open NdefX (NScope CellsAt Caps slotAt slotAt_of cells_of startF ncx)
open LamX (Tabs TabS TabB ExtN CodeO codeO_ne)
/-- a statement's way on, as the reading tells it -/
theorem ps_cutR {X : Cx} {st : Stmt} {t : TS} (h : PS X st t) : PS X st (fun D σ H => ∃ G : L2.St → Hp → Prop, (∀ σ' H', G σ' H' → D.nx σ' H') ∧ t { D with nx := G } σ H) := by
  refine ⟨fun pins s σ H D I hw => ?_⟩
  obtain ⟨G, hG, hw⟩ := hw
  refine thn (h.run pins s σ H { D with nx := G } I hw) fun fl s1 q => ?_
  cases fl with
  | next =>
    obtain ⟨σ', H', I', q⟩ := q
    exact ⟨σ', H', I', hG _ _ q⟩
  | ret v => exact q
  | brk => exact q
  | cont => exact q
/-! ### the lambdas are ready -/
theorem era_tups {K : PySem.W.Frag} {l : CL} {H : Hp} (s : Stand l H) : Tups K H (era l H) := fun a xs hs => by
  rcases hs with hs | hs
  · exact .inl (s.rd hs)
  · exact .inr hs
theorem era_keep {l : CL} {H : Hp} (s : Stand l H) {b : Addr} {o : HO} (e : H b = some o) (ne : ∀ v, o ≠ CellO b v) : era l H b = some o := by
  rcases s.cases e with ⟨v, _, z⟩ | ⟨_, z⟩
  · exact absurd z (ne v)
  · exact z
theorem lay_era {l : CL} {H : Hp} (s : Stand l H) : lay l (era l H) = H := by
  funext b
  cases q : l.lookup b with
  | some v => rw [lay_in q, s b v q]
  | none => rw [lay_no q, era_no q]
section
variable {P : Program} {w : World} {K : PySem.W.Frag} {mg : Str → Option Value} {base : Heap} {C Cp Cn Cm : Addr}
theorem Sw.era {l : CL} {H : Hp} (s : Stand l H) {v : V} (h : Sw K H v) : Sw K (era l H) v := by
  cases h with
  | int i => exact .int i
  | bl b => exact .bl b
  | non => exact .non
  | str z => exact .str z
  | tup h => exact .tup (era_tups s _ _ h)
  | @lst a xs h =>
    refine .lst (xs := xs) ?_
    rcases h with (h | ⟨o, h⟩) | h
    · exact .inl (.inl (era_keep s h (fun v z => by unfold CellO at z; cases z)))
    · exact .inl (.inr ⟨o, era_keep s h (fun v z => by unfold CellO at z; cases z)⟩)
    · exact .inr h
theorem ShP.era {cl : CL} {H : Hp} (s : Stand cl H) {p dx : Addr} {hv : V} {a t l : Addr} {h : List (List Int)} {n : Nat} {L path held : List Int} (S : ShP K C H p dx hv a t l h n L path held) : ShP K C (era cl H) p dx hv a t l h n L path held := by
  obtain ⟨ob, e, d⟩ := S.st
  exact ⟨era_keep s S.ob (fun v z => by unfold CellO at z; cases z), S.hT.on (era_tups s), S.hb, ⟨ob, era_keep s e (fun v z => by unfold CellO at z; cases z), d⟩, S.pm, era_keep s S.tc (fun v z => by unfold CellO at z; cases z), era_keep s S.wl (fun v z => by unfold CellO at z; cases z), S.tl, S.hl, S.pl⟩
section
variable {H : Hp} {ps dx : Addr} {hv : V} {a t l : Addr} {h : List (List Int)} {n : Nat} {L path held : List Int} {v x : V} {cl : CL} {f : Addr}
theorem rdy1 (T : ShC K mg C) (M : MetX P w K mg base 5 C "read" (spRead K C Cp)) (S : ShP K C H ps dx hv a t l h n L path held) (hp : path.length < 500) (hw : Sw K H v) (hb : inV2 0 ((n : Int) - 1) v = false) (La : LamAt (lamW 1) ["one", "other"] [.ref ps, v] cl f H) :
    Ready P w K mg base 7 f H (fun H' _ E => H' = H ∧ E (.ref Cp) none H) := by
  obtain ⟨q, cl', c, live, cap⟩ := La.ex
  refine ⟨_, _, _, _, _, lokW1 T M q cl' c f, cap, live, fun Q E hE => ⟨[.ref ps, v], rfl, rfl, ps, dx, hv, a, t, l, h, n, L, path, held, v, rfl, S.era live.st, hp, hw.era live.st, fun i e hi => ?_, fun _ gone => ?_⟩⟩
  · subst e
    rw [inV2_yes hi] at hb
    cases hb
  · rw [lay_era live.st]
    exact hE.2
theorem rdy2 (T : ShC K mg C) (M : MetX P w K mg base 5 C "touch" (spTouchM K C Cp)) (S : ShP K C H ps dx hv a t l h n L path held) (hp : path.length < 500) (hw : Sw K H v) (hb : inV2 0 ((n : Int) - 1) v = false) (La : LamAt (lamW 2) ["one", "other"] [.ref ps, v] cl f H) :
    Ready P w K mg base 7 f H (fun H' _ E => H' = H ∧ E (.ref Cp) none H) := by
  obtain ⟨q, cl', c, live, cap⟩ := La.ex
  refine ⟨_, _, _, _, _, lokW2 T M q cl' c f, cap, live, fun Q E hE => ⟨[.ref ps, v], rfl, rfl, ps, dx, hv, a, t, l, h, n, L, path, held, v, rfl, S.era live.st, hp, hw.era live.st, fun i e hi => ?_, fun _ gone => ?_⟩⟩
  · subst e
    rw [inV2_yes hi] at hb
    cases hb
  · rw [lay_era live.st]
    exact hE.2
theorem rdy3 (T : ShC K mg C) (M : MetX P w K mg base 5 C "write" (spWrite K C Cp Cn)) (S : ShP K C H ps dx hv a t l h n L path held) (hp : path.length < 500) (hw : Sw K H v) (hx : Sw K H x) (hb : inV2 0 ((n : Int) - 1) v = false) (La : LamAt (lamW 3) ["one", "other", "third"] [.ref ps, v, x] cl f H) :
    Ready P w K mg base 7 f H (fun H' _ E => H' = H ∧ E (.ref Cp) none H) := by
  obtain ⟨q, cl', c, live, cap⟩ := La.ex
  refine ⟨_, _, _, _, _, lokW3 T M q cl' c f, cap, live, fun Q E hE => ⟨[.ref ps, v, x], rfl, rfl, ps, dx, hv, a, t, l, h, n, L, path, held, v, x, rfl, S.era live.st, hp, hw.era live.st, hx.era live.st, fun i z e hi => ?_, fun _ gone => ?_, fun z => ?_⟩⟩
  · subst e
    rw [inV2_yes hi] at hb
    cases hb
  · rw [lay_era live.st]
    exact hE.2
  · rw [z] at hb
    cases hb
/-- no integer is written -/
theorem rdy3n (T : ShC K mg C) (M : MetX P w K mg base 5 C "write" (spWrite K C Cp Cn)) (S : ShP K C H ps dx hv a t l h n L path held) (hp : path.length < 500) (hx : Sw K H x) (hi : inV2 0 ((n : Int) - 1) v = true) (hb : isI x = false) (La : LamAt (lamW 3) ["one", "other", "third"] [.ref ps, v, x] cl f H) :
    Ready P w K mg base 7 f H (fun H' _ E => H' = H ∧ E (.ref Cn) none H) := by
  obtain ⟨q, cl', c, live, cap⟩ := La.ex
  obtain ⟨i, rfl, hin⟩ := inV2_int hi
  refine ⟨_, _, _, _, _, lokW3 T M q cl' c f, cap, live, fun Q E hE => ⟨[.ref ps, .int i, x], rfl, rfl, ps, dx, hv, a, t, l, h, n, L, path, held, .int i, x, rfl, S.era live.st, hp, .int i, hx.era live.st, fun i' z _ _ e => ?_, fun z => ?_, fun _ _ gone => ?_⟩⟩
  · subst e
    cases hb
  · rw [hi] at z
    cases z
  · rw [lay_era live.st]
    exact hE.2
theorem rdy4 (T : ShC K mg C) (M : MetX P w K mg base 6 C "fetch" (spFetch K C Cm)) (S : ShP K C H ps dx hv a t l h n L path held) (hp : path.length < 500) (hw : Sw K H v) (hb : inV2 0 ((n : Int) - 1) v = false) (La : LamAt (lamW 4) ["one", "third"] [.ref ps, v] cl f H) :
    Ready P w K mg base 7 f H (fun H' _ E => H' = H ∧ E (.ref Cm) none H) := by
  obtain ⟨q, cl', c, live, cap⟩ := La.ex
  refine ⟨_, _, _, _, _, lokW4 T M q cl' c f, cap, live, fun Q E hE => ⟨[.ref ps, v], rfl, rfl, ps, dx, hv, a, t, l, h, n, L, path, held, v, rfl, S.era live.st, hp, hw.era live.st, fun j i e hj => ?_, fun _ gone => ?_⟩⟩
  · subst e
    rw [inV2_yes hj] at hb
    cases hb
  · rw [lay_era live.st]
    exact hE.2
theorem rdy5 (T : ShC K mg C) (M : MetX P w K mg base 6 C "put" (spPut K C Cm)) (S : ShP K C H ps dx hv a t l h n L path held) (hp : path.length < 500) (hw : Sw K H v) (hb : inV2 0 ((n : Int) - 1) v = false) (La : LamAt (lamW 5) ["one", "third"] [.ref ps, v] cl f H) :
    Ready P w K mg base 7 f H (fun H' _ E => H' = H ∧ E (.ref Cm) none H) := by
  obtain ⟨q, cl', c, live, cap⟩ := La.ex
  refine ⟨_, _, _, _, _, lokW5 T M q cl' c f, cap, live, fun Q E hE => ⟨[.ref ps, v], rfl, rfl, ps, dx, hv, a, t, l, h, n, L, path, held, v, 0, rfl, S.era live.st, hp, hw.era live.st, fun j i e hj => ?_, fun _ gone => ?_⟩⟩
  · subst e
    rw [inV2_yes hj] at hb
    cases hb
  · rw [lay_era live.st]
    exact hE.2
end
/-- what the law holds, and the shelf -/
structure WI (K : PySem.W.Frag) (C : Addr) (H : Hp) (p ps dx : Addr) (hv : V) (aS t l qL hl pl : Addr) (h : List (List Int)) (n : Nat) (LS pathS heldS L path held : List Int) : Prop where
  row : Row K H p
  sh : ShP K C H ps dx hv aS t l h n LS pathS heldS
  fL : FT H qL L
  pm : L.Perm (rg n)
  eh : H hl = some (.lst (held.map V.int))
  ep : H pl = some (.lst (path.map V.int))
  ll : held.length = n
  d1 : p ≠ t ∧ p ≠ l ∧ p ≠ hl ∧ p ≠ pl
  d2 : hl ≠ t ∧ hl ≠ l ∧ pl ≠ t ∧ pl ≠ l ∧ hl ≠ pl
section
variable {H : Hp} {p ps dx : Addr} {hv : V} {aS t l qL hl pl : Addr} {h : List (List Int)} {n : Nat} {LS pathS heldS L path held : List Int}
theorem WI.same (W : WI K C H p ps dx hv aS t l qL hl pl h n LS pathS heldS L path held) {H' : Hp} (e : Same H H') : WI K C H' p ps dx hv aS t l qL hl pl h n LS pathS heldS L path held :=
  ⟨W.row.same e, W.sh.same e, FTsame e W.fL, W.pm, e _ _ W.eh, e _ _ W.ep, W.ll, W.d1, W.d2⟩
theorem ShP.fix (S : ShP K C H ps dx hv aS t l h n LS pathS heldS) {H' : Hp} (e : Fix H H') (e1 : H' t = H t) (e2 : H' l = H l) : ShP K C H' ps dx hv aS t l h n LS pathS heldS := by
  obtain ⟨ob, e3, d⟩ := S.st
  exact ⟨e _ _ S.ob (fun xs z => nomatch z), S.hT.on e.tups, S.hb, ⟨ob, e _ _ e3 (fun xs z => nomatch z), d⟩, S.pm, e1.trans S.tc, e2.trans S.wl, S.tl, S.hl, S.pl⟩
theorem WI.but (W : WI K C H p ps dx hv aS t l qL hl pl h n LS pathS heldS L path held) {H' : Hp} (e : But p H H') (r : Row K H' p) : WI K C H' p ps dx hv aS t l qL hl pl h n LS pathS heldS L path held := by
  obtain ⟨d1, d2, d3, d4⟩ := W.d1
  have fx := W.row.fix e
  have k1 := e _ _ W.sh.tc (Ne.symm d1)
  have k2 := e _ _ W.sh.wl (Ne.symm d2)
  obtain ⟨ob, e3, d⟩ := W.fL
  exact ⟨r, W.sh.fix fx (k1.trans W.sh.tc.symm) (k2.trans W.sh.wl.symm), ⟨ob, fx _ _ e3 (fun xs z => nomatch z), d⟩, W.pm, e _ _ W.eh (Ne.symm d3), e _ _ W.ep (Ne.symm d4), W.ll, W.d1, W.d2⟩
theorem WI.go (W : WI K C H p ps dx hv aS t l qL hl pl h n LS pathS heldS L path held) {H' : Hp} {a' : Addr} {LS' pathS' heldS' : List Int} (f : Sh3 ps t l H H') (S' : ShP K C H' ps dx hv a' t l h n LS' pathS' heldS') : WI K C H' p ps dx hv a' t l qL hl pl h n LS' pathS' heldS' L path held := by
  obtain ⟨d1, d2, d3, d4⟩ := W.d1
  obtain ⟨g1, g2, g3, g4, g5⟩ := W.d2
  have lp : ∀ {b : Addr} {xs : List V}, H b = some (.lst xs) → b ≠ ps := fun e => ne_of e W.sh.ob (fun z => nomatch z)
  refine ⟨?_, S', W.sh.ft f W.fL, W.pm, f _ _ W.eh (lp W.eh) g1 g2, f _ _ W.ep (lp W.ep) g3 g4, W.ll, W.d1, W.d2⟩
  obtain ⟨a, ns, i, r, c, R⟩ := W.row
  refine ⟨a, ns, i, r, c, f _ _ R.at_ (lp R.at_) d1 d2, ?_, R.pos⟩
  rcases R.fz with ⟨o, z⟩ | z
  · exact .inl ⟨o, f _ _ z (ne_of z W.sh.ob (fun z => nomatch z)) (ne_of z W.sh.tc (fun z => nomatch z)) (ne_of z W.sh.wl (fun z => nomatch z))⟩
  · exact .inr z
theorem WI.put (W : WI K C H p ps dx hv aS t l qL hl pl h n LS pathS heldS L path held) {held' : List Int} (hl' : held'.length = n) : WI K C (upd H hl (.lst (held'.map V.int))) p ps dx hv aS t l qL hl pl h n LS pathS heldS L path held' := by
  obtain ⟨d1, d2, d3, d4⟩ := W.d1
  obtain ⟨g1, g2, g3, g4, g5⟩ := W.d2
  have fx : Fix H (upd H hl (.lst (held'.map V.int))) := Fix.lst W.eh
  obtain ⟨ob, e3, d⟩ := W.fL
  exact ⟨W.row.lst_upd W.eh d3, W.sh.fix fx (upd_ne (Ne.symm g1)) (upd_ne (Ne.symm g2)), ⟨ob, fx _ _ e3 (fun xs z => nomatch z), d⟩, W.pm, upd_same, by rw [upd_ne (Ne.symm g5)]; exact W.ep, hl', W.d1, W.d2⟩
theorem Row.ext {H' : Hp} {p : Addr} (e : ExtN H H') (h : Row K H p) : Row K H' p := by
  obtain ⟨a, ns, i, r, c, h⟩ := h
  refine ⟨a, ns, i, r, c, e _ _ h.at_ (fun ps z => nomatch z), ?_, h.pos⟩
  rcases h.fz with ⟨o, z⟩ | z
  · exact .inl ⟨o, e _ _ z (fun ps z => nomatch z)⟩
  · exact .inr z
theorem extN_tups {K : PySem.W.Frag} {H H' : Hp} (e : ExtN H H') : Tups K H H' := fun a xs hs => by
  rcases hs with (hs | ⟨o, hs⟩) | hs
  · exact .inl (.inl (e _ _ hs (fun ps z => nomatch z)))
  · exact .inl (.inr ⟨o, e _ _ hs (fun ps z => nomatch z)⟩)
  · exact .inr hs
theorem ShP.ext (S : ShP K C H ps dx hv aS t l h n LS pathS heldS) {H' : Hp} (e : ExtN H H') : ShP K C H' ps dx hv aS t l h n LS pathS heldS := by
  obtain ⟨ob, e3, d⟩ := S.st
  exact ⟨e _ _ S.ob (fun xs z => nomatch z), S.hT.on (extN_tups e), S.hb, ⟨ob, e _ _ e3 (fun xs z => nomatch z), d⟩, S.pm, e _ _ S.tc (fun xs z => nomatch z), e _ _ S.wl (fun xs z => nomatch z), S.tl, S.hl, S.pl⟩
theorem WI.ext (W : WI K C H p ps dx hv aS t l qL hl pl h n LS pathS heldS L path held) {H' : Hp} (e : ExtN H H') : WI K C H' p ps dx hv aS t l qL hl pl h n LS pathS heldS L path held := by
  obtain ⟨ob, e3, d⟩ := W.fL
  exact ⟨W.row.ext e, W.sh.ext e, ⟨ob, e _ _ e3 (fun xs z => nomatch z), d⟩, W.pm, e _ _ W.eh (fun xs z => nomatch z), e _ _ W.ep (fun xs z => nomatch z), W.ll, W.d1, W.d2⟩
theorem Sw.ext {H' : Hp} (e : ExtN H H') {v : V} (h : Sw K H v) : Sw K H' v := by
  cases h with
  | int i => exact .int i
  | bl b => exact .bl b
  | non => exact .non
  | str z => exact .str z
  | tup h => exact .tup (extN_tups e _ _ h)
  | @lst a xs h =>
    refine .lst (xs := xs) ?_
    rcases h with (h | ⟨o, h⟩) | h
    · exact .inl (.inl (e _ _ h (fun ps z => nomatch z)))
    · exact .inl (.inr ⟨o, e _ _ h (fun ps z => nomatch z)⟩)
    · exact .inr h
end
theorem Fix.tabs {T : List (Addr × Str)} {H H' : Hp} (f : Fix H H') (t : Tabs T H) : Tabs T H' := fun p hp => by
  obtain ⟨ps, h1, h2, h3⟩ := t p hp
  refine ⟨ps, f _ _ h1 (fun xs z => nomatch z), h2, fun pos cv hc => ?_⟩
  obtain ⟨c, e1, e2⟩ := h3 pos cv hc
  exact ⟨c, e1, f _ _ e2 (fun xs z => by unfold CodeO at z; cases z)⟩
theorem Sh3.tabs {T : List (Addr × Str)} {H H' : Hp} {ps dx : Addr} {hv : V} {a t l : Addr} {h : List (List Int)} {n : Nat} {L path held : List Int} (S : ShP K C H ps dx hv a t l h n L path held) (f : Sh3 ps t l H H') (tb : Tabs T H) : Tabs T H' := fun p hp => by
  obtain ⟨tp, h1, h2, h3⟩ := tb p hp
  refine ⟨tp, f _ _ h1 (ne_of h1 S.ob (fun z => nomatch z)) (ne_of h1 S.tc (fun z => nomatch z)) (ne_of h1 S.wl (fun z => nomatch z)), h2, fun pos cv hc => ?_⟩
  obtain ⟨c, e1, e2⟩ := h3 pos cv hc
  exact ⟨c, e1, f _ _ e2 (ne_of e2 S.ob (fun z => by unfold CodeO at z; cases z)) (ne_of e2 S.tc (fun z => by unfold CodeO at z; cases z)) (ne_of e2 S.wl (fun z => by unfold CodeO at z; cases z))⟩
end
section
variable {X : Cx} {C : Addr} {x : Str} {sp : Sp} {k j : Nat} {p pos : Pos} {e o : Expr} {es : List Expr} {t : TA} {ta : TE}
theorem pmk (M : MkX X.prog X.w X.K X.mg X.base k C sp) (hm : X.mg x = some (.ref C)) (hr : Room j X.A) (ha : PA X (e :: es) t) (hk : k + 1 ≤ j := by decide) (hg : Gl X x := by rfl)
    (hdb : (x == ("__debug__" : Str)) = false := by decide) (he : starEach (e :: es) X.env = (false, eval e X.env) :: starEach es X.env := by rfl) (hpl : (backTo pos (starEach es X.env)).any (·.1) = false := by rfl) :
    PE X (.Call (.Name x p) (e :: es) [] pos) (tMake C sp [] E0 t) := by
  obtain ⟨f, fd, ps, F, M, b⟩ := M.ex
  exact pe_make M F (hr.mono hk) hg hm b .nil pass0 ha hdb he hpl
theorem ppr (M : PrX X.prog X.w X.K X.mg X.base k C x sp) (c : Cls X.K C) (hr : Room j X.A) (ho : PE X o ta) (hk : k + 1 ≤ j := by decide) (hab : attributeBase o x X.env (eval o X.env) = eval o X.env := by rfl) : PE X (.Attribute o x pos) (tProp C sp [] E0 ta) := by
  obtain ⟨pa, g, fd, F, hp, b⟩ := M.ex
  exact pe_prop ho c hp F (hr.mono hk) b .nil pass0 hab
end
end RH
set_option Elab.async false
set_option linter.all false
set_option maxRecDepth 100000
set_option maxHeartbeats 2000000
namespace RH
open PySem PySem.Spec PyProof.Rows L2
open NdefX (NScope CellsAt Caps slotAt slotAt_of cells_of startF ncx)
open LamX (Tabs TabS TabB ExtN CodeO codeO_ne)
section
variable {P : Program} {w : World} {K : PySem.W.Frag} {mg : Str → Option Value} {base : Heap} {C Cp Cn Cm : Addr}
abbrev NL20 : List Str := ["script", "row", "places", "habit", "layout", "shelf", "held", "path", "turn", "way", "place", "value", "name", "spot", "wrong", "works", "work"]
def spLaw (K : PySem.W.Frag) (T : List (Addr × Str)) : Sp := fun vs H Q _ => ∃ (a : Addr) (ns : List Int), vs = [.ref a] ∧ Fz K H a (ns.map V.int) ∧ Tabs T H ∧ ∀ H', Q (.bl true) H'
/-- within a turn: whether the access is done hangs on the way -/
def GT (K : PySem.W.Frag) (C : Addr) (T : List (Addr × Str)) (a0 : Addr) (i : Nat) (D : Int → Bool) (σ : L2.St) (H : Hp) : Prop := ∃ (p : Addr) (n : Nat) (vH : V) (qL ps hl pl : Addr) (y8 : Option V) (wy pc vl nm sp : Int) (dx aS t l : Addr) (h : List (List Int)) (L path held : List Int),
  σ = [some (.ref a0), some (.ref p), some (.int (n : Int)), some vH, some (.ref qL), some (.ref ps), some (.ref hl), some (.ref pl), y8, some (.int wy), some (.int pc), some (.int vl), some (.int nm), some (.int sp), none, none, none] ∧
  WI K C H p ps dx vH aS t l qL hl pl h n (if D wy = true then stp h sp L else L) (if D wy = true then path ++ [sp] else path) held L path held ∧ 0 ≤ wy ∧ wy < 5 ∧ (wy < 3 → pc = sp) ∧ InR n nm ∧ InR n sp ∧ L[nm.toNat]? = some sp ∧ L.idxOf sp = nm.toNat ∧ path.length = i ∧ i < 25 ∧ Tabs T H
/-- within a turn: the name is told -/
def GN (K : PySem.W.Frag) (C : Addr) (T : List (Addr × Str)) (a0 : Addr) (i : Nat) (σ : L2.St) (H : Hp) : Prop := ∃ (p : Addr) (n : Nat) (vH : V) (qL ps hl pl : Addr) (y8 y13 : Option V) (wy pc vl nm : Int) (dx aS t l : Addr) (h : List (List Int)) (L path held : List Int),
  σ = [some (.ref a0), some (.ref p), some (.int (n : Int)), some vH, some (.ref qL), some (.ref ps), some (.ref hl), some (.ref pl), y8, some (.int wy), some (.int pc), some (.int vl), some (.int nm), y13, none, none, none] ∧
  WI K C H p ps dx vH aS t l qL hl pl h n L path held L path held ∧ 0 ≤ wy ∧ wy < 5 ∧ InR n pc ∧ (wy < 3 → nm = (L.idxOf pc : Nat)) ∧ (¬ wy < 3 → nm = pc) ∧ path.length = i ∧ i < 25 ∧ Tabs T H
/-- ahead of a turn -/
def GL (K : PySem.W.Frag) (C : Addr) (T : List (Addr × Str)) (a0 : Addr) (i : Nat) (σ : L2.St) (H : Hp) : Prop := ∃ (p : Addr) (n : Nat) (vH : V) (qL ps hl pl : Addr) (y8 y9 y10 y11 y12 y13 : Option V) (dx aS t l : Addr) (h : List (List Int)) (L path held : List Int),
  σ = [some (.ref a0), some (.ref p), some (.int (n : Int)), some vH, some (.ref qL), some (.ref ps), some (.ref hl), some (.ref pl), y8, y9, y10, y11, y12, y13, none, none, none] ∧ WI K C H p ps dx vH aS t l qL hl pl h n L path held L path held ∧ path.length = i ∧ Tabs T H
theorem alike3 {a1 a2 a3 b1 b2 b3 z1 z2 : Addr} {H : Hp} {L path held : List Int} (h1 : H z1 = some (.lst [.ref a1, .ref a2, .ref a3])) (h2 : H z2 = some (.lst [.ref b1, .ref b2, .ref b3])) (e1 : SqT K H a1 (L.map V.int)) (e2 : SqT K H a2 (path.map V.int)) (e3 : SqT K H a3 (held.map V.int))
    (f1 : SqT K H b1 (L.map V.int)) (f2 : SqT K H b2 (path.map V.int)) (f3 : SqT K H b3 (held.map V.int)) :
    Dp K H (.ref z1) (.list [.tuple (L.map PyData.int), .tuple (path.map PyData.int), .tuple (held.map PyData.int)]) ∧ Dp K H (.ref z2) (.list [.tuple (L.map PyData.int), .tuple (path.map PyData.int), .tuple (held.map PyData.int)]) :=
  ⟨.lst (lstAt h1) (.cons (dp_tup e1) (.cons (dp_tup e2) (.cons (dp_tup e3) .nil))), .lst (lstAt h2) (.cons (dp_tup f1) (.cons (dp_tup f2) (.cons (dp_tup f3) .nil)))⟩
theorem okD_ints1 (ns : List Int) (h : ns.length ≤ 1000) : okD 1 (.tuple (ns.map PyData.int)) := by
  refine ⟨by rw [List.length_map]; exact h, fun d hd => ?_⟩
  obtain ⟨i, _, rfl⟩ := List.mem_map.mp hd
  exact True.intro
theorem okD_three {L path held : List Int} (h1 : L.length ≤ 1000) (h2 : path.length ≤ 1000) (h3 : held.length ≤ 1000) : okD 2 (.list [.tuple (L.map PyData.int), .tuple (path.map PyData.int), .tuple (held.map PyData.int)]) := by
  refine ⟨by show 3 ≤ 1000; decide, fun d hd => ?_⟩
  rcases List.mem_cons.mp hd with rfl | hd
  · exact okD_ints1 _ h1
  · rcases List.mem_cons.mp hd with rfl | hd
    · exact okD_ints1 _ h2
    · rw [List.mem_singleton.mp hd]
      exact okD_ints1 _ h3
theorem wrong6 {H : Hp} {q : Addr} {n : Nat} (hq : SqT K H q [.int 0]) {i : Nat} {x : V} (hx : ([V.non, .bl true, .int (0 - 1), .int (n : Int), .str "0", .ref q] : List V)[i]? = some x) : Sw K H x ∧ inV2 0 ((n : Int) - 1) x = false := by
  match i, hx with
  | 0, hx => cases Option.some.inj hx; exact ⟨.non, rfl⟩
  | 1, hx => cases Option.some.inj hx; exact ⟨.bl _, rfl⟩
  | 2, hx => cases Option.some.inj hx; exact ⟨.int _, by show (decide ((0 : Int) ≤ 0 - 1) && decide ((0 - 1 : Int) ≤ (n : Int) - 1)) = false; rfl⟩
  | 3, hx => cases Option.some.inj hx; exact ⟨.int _, by show (decide ((0 : Int) ≤ (n : Int)) && decide ((n : Int) ≤ (n : Int) - 1)) = false; rw [decide_eq_false (p := (n : Int) ≤ (n : Int) - 1) (by omega), Bool.and_false]⟩
  | 4, hx => cases Option.some.inj hx; exact ⟨.str _, rfl⟩
  | 5, hx => cases Option.some.inj hx; exact ⟨.tup hq, rfl⟩
  | i + 6, hx => simp at hx
theorem wrong5 {H : Hp} {q l : Addr} (hq : SqT K H q [.int 1]) (hl : SqL K H l []) {i : Nat} {x : V} (hx : ([V.non, .bl true, .str "1", .ref q, .ref l] : List V)[i]? = some x) : Sw K H x ∧ isI x = false := by
  match i, hx with
  | 0, hx => cases Option.some.inj hx; exact ⟨.non, rfl⟩
  | 1, hx => cases Option.some.inj hx; exact ⟨.bl _, rfl⟩
  | 2, hx => cases Option.some.inj hx; exact ⟨.str _, rfl⟩
  | 3, hx => cases Option.some.inj hx; exact ⟨.tup hq, rfl⟩
  | 4, hx => cases Option.some.inj hx; exact ⟨.lst hl, rfl⟩
  | i + 5, hx => simp at hx
theorem Sw.same {H H' : Hp} (e : Same H H') {v : V} (h : Sw K H v) : Sw K H' v := h.ext fun b o q _ => e b o q
theorem LamAt.same {lam : Expr} {fr : List Str} {ws : List V} {l : CL} {f : Addr} {H H' : Hp} (L : LamAt lam fr ws l f H) (e : Same H H') : LamAt lam fr ws l f H' := by
  obtain ⟨q, cl, c, live, cap⟩ := L.ex
  exact ⟨q, cl, c, live.same e, cap⟩
abbrev told5 : List V := [.str "place", .str "place", .str "place", .str "names", .str "names"]
abbrev told5D : List PyData := [.str "place", .str "place", .str "place", .str "names", .str "names"]
theorem dp_told {H : Hp} {a : Addr} (h : SqL K H a told5) : Dp K H (.ref a) (.list told5D) := .lst h (.cons (.str _) (.cons (.str _) (.cons (.str _) (.cons (.str _) (.cons (.str _) .nil)))))
theorem way_cases {wy : Int} (h0 : 0 ≤ wy) (h5 : wy < 5) : wy = 0 ∨ wy = 1 ∨ wy = 2 ∨ wy = 3 ∨ wy = 4 := by omega
def D0 (wy : Int) : Bool := false
def D1 (wy : Int) : Bool := decide (wy = 0) || decide (wy = 3)
def D2 (wy : Int) : Bool := decide (wy = 0) || decide (wy = 3) || decide (wy = 1)
def D3 (wy : Int) : Bool := decide (wy = 0) || decide (wy = 3) || decide (wy = 1) || decide (wy = 4)
def D4 (wy : Int) : Bool := true
theorem ok_law {P1 : Addr} {f : Addr} {fd : FuncData} (F : Fun K "law" "law" st_law f fd) (B : Bu mg) (T : ShC K mg C) (CT : Cal P w K mg base 1 "_law_taken" (spTaken K)) (CPk : Cal P w K mg base 2 "_law_pick" (spPick K)) (CO : Cal P w K mg base 2 "_law_order" (spOrder K)) (CH : Cal P w K mg base 3 "_law_habit" (spHabit K))
    (CLT : Cal P w K mg base 1 "_law_touch" (spMove K)) (CA : Cal P w K mg base 3 "_law_alike" (spAlike K 2)) (MI : MkX P w K mg base 7 C (spInit K C)) (MR : MetX P w K mg base 5 C "read" (spRead K C Cp)) (MT : MetX P w K mg base 5 C "touch" (spTouchM K C Cp)) (MW : MetX P w K mg base 5 C "write" (spWrite K C Cp Cn))
    (MF : MetX P w K mg base 6 C "fetch" (spFetch K C Cm)) (MP : MetX P w K mg base 6 C "put" (spPut K C Cm)) (PL : PrX P w K mg base 1 C "layout" (spPr K C fun a _ _ H Q => Q (.ref a) H)) (PP : PrX P w K mg base 1 C "path" (spPr K C fun _ path _ H Q => ∀ q, H q = none → Q (.ref q) (upd H q (.tup (path.map V.int)))))
    (PH : PrX P w K mg base 1 C "held" (spPr K C fun _ _ held H Q => ∀ q, H q = none → Q (.ref q) (upd H q (.tup (held.map V.int))))) (CW : Cal P w K mg base 1 "_law_works" (spWorks (tabsW P1))) (CR : Cal P w K mg base 8 "_law_refused" (spRefused P w K mg base))
    (Kp : Knd K mg Cp 2) (Km : Knd K mg Cm 3) (Kn : Knd K mg Cn 4) : FnOk P w K mg base CX0 9 f fd ["script"] (spLaw K (tabsW P1)) := by
  refine F.ok sc_law (fun vs H Q E h => ?_) (fun cdv A outer s H vs Q E hr h => ?_)
  · obtain ⟨a, ns, rfl, _⟩ := h
    rfl
  · obtain ⟨a, scr, rfl, hZ, hTb, q⟩ := h
    refine ⟨_, PSs.nox (pss_cons (ps_set (i := 1) sc_law.nd rfl (.inl rfl) (pe_lst (pa_cons (pv 0) (pa_cons pe_int (pa_cons pe_int (pa_cons pe_int pa_nil))))))
      (pss_cons (ps_set (i := 2) sc_law.nd rfl (.inl rfl) (pe_op op_add pe_int (pc CT hr (pa_cons (pv 1) (pa_cons pe_int pa_nil)))))
      (pss_cons (ps_par (i := 3) (j := 4) rfl sc_law.nd rfl rfl (by decide) rfl rfl (pa_cons (pc CH hr (pa_cons (pv 1) (pa_cons (pv 2) pa_nil))) (pa_cons (pc CO hr (pa_cons (pv 1) (pa_cons (pv 2) pa_nil))) pa_nil)) rfl)
      (pss_cons (ps_cutR (ps_par3 (i := 5) (j := 6) (l := 7) rfl sc_law.nd rfl rfl rfl (by decide) (by decide) (by decide) rfl rfl rfl (pa_cons (pmk MI T.g hr (pa_cons (pv 3) (pa_cons (pv 4) pa_nil))) (pa_cons (pe_op op_rep (pe_lst (pa_cons pe_int pa_nil)) (pv 2)) (pa_cons (pe_lst pa_nil) pa_nil))) rfl))
      (pss_cons (ps_for PassesOwn.never rfl (pi_range1 (by rfl) B.range (pa_cons (pc CT hr (pa_cons (pv 1) (pa_cons pe_int pa_nil))) pa_nil)) (pg_name (i := 8) sc_law.nd rfl (.inl rfl))
        (pss_cons (ps_par3 (i := 9) (j := 10) (l := 11) rfl sc_law.nd rfl rfl rfl (by decide) (by decide) (by decide) rfl rfl rfl (pa_cons (pc CT hr (pa_cons (pv 1) (pa_cons pe_int pa_nil))) (pa_cons (pc CT hr (pa_cons (pv 1) (pa_cons (pv 2) pa_nil))) (pa_cons (pe_op op_sub (pc CT hr (pa_cons (pv 1) (pa_cons pe_int pa_nil))) pe_int) pa_nil))) rfl)
        (pss_cons (ps_cutR (ps_set (i := 12) sc_law.nd rfl (.inl rfl) (pe_ifExp (pt_cmpR op_lt (pv 9) pe_int (nomark _)) (pe_tidxF (pv 4) (pv 10)) (pv 10))))
        (pss_cons (ps_cutR (ps_set (i := 13) sc_law.nd rfl (.inl rfl) (pe_ifExp (pt_cmpR op_lt (pv 9) pe_int (nomark _)) (pv 10) (pe_ix (ixT K) (pv 4) (pv 12) (fun _ _ => rfl)))))
        (pss_cons (ps_cutR (ps_if (PW.pt (pw_or (PW.pt (pw_and (pt_cmpR op_eq (pv 9) pe_int (nomark _)) (pw_and1 (pt_cmpR op_ne (pmX MR T.cl passL hr (pv 5) (pa_cons (pv 10) pa_nil)) (pe_ix ix_list (pv 6) (pv 12) (fun _ _ => rfl)) (nomark _)))))
            (pw_or1 (PW.pt (pw_and (pt_cmpR op_eq (pv 9) pe_int (nomark _)) (pw_and1 (pt_cmpR op_ne (pmX MF T.cl passL hr (pv 5) (pa_cons (pv 12) pa_nil)) (pe_ix ix_list (pv 6) (pv 12) (fun _ _ => rfl)) (nomark _))))))))
          (pss_one (ps_ret pe_bl)) pss_nil))
        (pss_cons (ps_cutR (ps_if (pt_cmpR op_eq (pv 9) pe_int (nomark _)) (pss_cons (ps_asg (pv 11) (pg_sub (pv 6) (pv 12) set_list)) (pss_one (ps_if (pt_cmp (pc_notN (pmX MW T.cl passL hr (pv 5) (pa_cons (pv 10) (pa_cons (pv 11) pa_nil))))) (pss_one (ps_ret pe_bl)) pss_nil))) pss_nil))
        (pss_cons (ps_cutR (ps_if (pt_cmpR op_eq (pv 9) pe_int (nomark _)) (pss_cons (ps_asg (pv 11) (pg_sub (pv 6) (pv 12) set_list)) (pss_one (ps_if (pt_cmp (pc_notN (pmX MP T.cl passL hr (pv 5) (pa_cons (pv 12) (pa_cons (pv 11) pa_nil))))) (pss_one (ps_ret pe_bl)) pss_nil))) pss_nil))
        (pss_cons (ps_cutR (ps_if (PW.pt (pw_and (pt_cmpR op_eq (pv 9) pe_int (nomark _)) (pw_and1 (pt_cmp (pc_notN (pmX MT T.cl passL hr (pv 5) (pa_cons (pv 10) pa_nil))))))) (pss_one (ps_ret pe_bl)) pss_nil))
        (pss_cons (ps_par (i := 4) (j := 7) rfl sc_law.nd rfl rfl (by decide) rfl rfl (pa_cons (pc CLT hr (pa_cons (pv 3) (pa_cons (pv 4) (pa_cons (pv 13) pa_nil)))) (pa_cons (pe_op op_cat (pv 7) (pe_lst (pa_cons (pv 13) pa_nil))) pa_nil)) rfl)
        (pss_one (ps_if (pt_not (pt_val (pc CA hr (pa_cons (pe_lst (pa_cons (ppr PL T.cl hr (pv 5)) (pa_cons (ppr PP T.cl hr (pv 5)) (pa_cons (ppr PH T.cl hr (pv 5)) pa_nil))))
            (pa_cons (pe_lst (pa_cons (pv 4) (pa_cons (pe_tupleOf (by rfl) B.tuple (pv 7)) (pa_cons (pe_tupleOf (by rfl) B.tuple (pv 6)) pa_nil)))) pa_nil))))) (pss_one (ps_ret pe_bl)) pss_nil)))))))))))
      (pss_cons (ps_set (i := 14) sc_law.nd rfl (.inl rfl) (pc CPk hr (pa_cons (pv 1) (pa_cons (pe_lst (pa_cons pe_non (pa_cons pe_bl (pa_cons (pe_op op_sub pe_int pe_int) (pa_cons (pv 2) (pa_cons pe_str (pa_cons (pe_tup (pa_cons pe_int pa_nil)) pa_nil))))))) pa_nil))))
      (pss_cons (ps_set (i := 15) sc_law.nd rfl (.inl rfl) (pc CW hr (pa_cons (pv 5) (pa_cons (pv 14) (pa_cons (pv 14) pa_nil)))))
      (pss_cons (ps_if (pt_cmpR (op_neD hr.units) (pe_lc (own := [("work", 16)]) (g := gName 16) (tt := tYes) rfl sc_law.nd (pi_list (pv 15)) (blkOk_by (N := NL20) (sc := defScope st_law) (by decide +kernel)) (fun _ _ _ _ _ => pg_name (i := 16) sc_law.nd rfl (Or.inl rfl)) (fun _ _ _ _ _ => pts_nil) (fun _ _ _ _ _ => pc CR hr (pa_cons (pv 16) pa_nil)))
          (pe_op op_cat (pe_op op_rep (pe_lst (pa_cons pe_str pa_nil)) pe_int) (pe_op op_rep (pe_lst (pa_cons pe_str pa_nil)) pe_int)) (nomark _)) (pss_one (ps_ret pe_bl)) pss_nil)
      (pss_cons (ps_set (i := 11) sc_law.nd rfl (.inl rfl) (pc CPk hr (pa_cons (pv 1) (pa_cons (pe_lst (pa_cons pe_non (pa_cons pe_bl (pa_cons pe_str (pa_cons (pe_tup (pa_cons pe_int pa_nil)) (pa_cons (pe_lst pa_nil) pa_nil)))))) pa_nil))))
      (pss_cons (ps_if (pt_cmpR op_ne (pc CR hr (pa_cons (pe_ix ix_list (pc CW hr (pa_cons (pv 5) (pa_cons pe_int (pa_cons (pv 11) pa_nil)))) pe_int (fun _ _ => rfl)) pa_nil)) pe_str (nomark _)) (pss_one (ps_ret pe_bl)) pss_nil)
      (pss_one (ps_ret (pc CA hr (pa_cons (pe_lst (pa_cons (ppr PL T.cl hr (pv 5)) (pa_cons (ppr PP T.cl hr (pv 5)) (pa_cons (ppr PH T.cl hr (pv 5)) pa_nil))))
            (pa_cons (pe_lst (pa_cons (pv 4) (pa_cons (pe_tupleOf (by rfl) B.tuple (pv 7)) (pa_cons (pe_tupleOf (by rfl) B.tuple (pv 6)) pa_nil)))) pa_nil))))))))))))))), ?_⟩
    -- row, places
    refine ⟨_, rfl, by show 4 ≤ sizeLine; decide, fun p hp => ?_⟩
    have hR1 : Row K (upd H p (.lst [.ref a, .int 0, .int 5020, .int 0])) p := ⟨a, scr, 0, 5020, 0, upd_same, hZ.on (Fix.same (same_new hp)), Int.le_refl _⟩
    have tb1 : Tabs (tabsW P1) (upd H p (.lst [.ref a, .int 0, .int 5020, .int 0])) := hTb.ext fun b o e => same_new hp b o e
    refine ⟨_, rfl, p, 4, rfl, hR1, by decide, by decide, fun k H2 k0 k1 hB2 hR2 => ⟨2, k, rfl, rfl, ?_⟩⟩
    obtain ⟨n, hn⟩ : ∃ n : Nat, 2 + k = (n : Int) := ⟨(2 + k).toNat, by omega⟩
    show gName 2 (V.int (2 + k)) _ _ _
    rw [hn]
    have n2 : 2 ≤ n := by omega
    have n5 : n ≤ 5 := by omega
    have tb2 := (hR1.fix hB2).tabs tb1
    -- habit, layout
    refine ⟨_, rfl, _, rfl, p, n, rfl, hR2, n2, n5, fun H3 vH h hb hB3 hR3 hT3 => ?_⟩
    have tb3 := (hR2.fix hB3).tabs tb2
    refine ⟨_, rfl, _, rfl, p, n, rfl, hR3, by omega, fun H4 qL L hL hB4 hR4 _ fL4 => ⟨_, _, rfl, ?_⟩⟩
    have hT4 : TII K H4 vH h := hT3.on (hR3.fix hB4).tups
    have tb4 := (hR3.fix hB4).tabs tb3
    -- shelf, held, path
    refine ⟨GL K C (tabsW P1) a 0, fun σ5 H5 g5 => ?_, ?_⟩
    case refine_2 =>
      refine ⟨_, rfl, _, rfl, fun x dx hx hdx ne => ?_⟩
      have sI : Same H4 (upd (upd H4 dx (.own x)) x (.ins C dx [])) := fun b o e => by
        rw [upd_ne (ne_of_none e hx), upd_ne (ne_of_none e hdx)]
        exact e
      refine ⟨x, dx, vH, qL, h, n, L, rfl, upd_same, hT4.on (Same.tups sI), hb, FTsame sI fL4, hL, fun H5 t l ht hl fr S => ⟨rfl, ?_⟩⟩
      have s5 : Same H4 H5 := fun b o e => fr b o (sI b o e) (ne_of_none e hx)
      have ht4 := none_of sI ht
      have hl4 := none_of sI hl
      refine ⟨by show 1 ≤ sizeLine; decide, fun z hz => ?_⟩
      have sz := same_new (o := .lst [.int 0]) hz
      refine ⟨_, rfl, z, (n : Int), [.int 0], rfl, rfl, upd_same, by omega, by omega, ?_, fun hh hhh => ?_⟩
      · rw [Int.toNat_natCast]
        exact Nat.le_of_lt (small1000 (by show 1 * n ≤ 1000; omega))
      rw [Int.toNat_natCast, rep_ints] at *
      have sh := same_new (o := .lst ((List.replicate n (0 : Int)).map V.int)) hhh
      refine ⟨Nat.zero_le _, fun pl hpl => ⟨_, _, _, rfl, ?_⟩⟩
      have sp := same_new (o := .lst []) hpl
      have s57 := sz.trans (sh.trans sp)
      have s47 := s5.trans s57
      obtain ⟨rs, hrs⟩ := hR4.lst
      have h5h := none_of (sz) hhh
      have h5p := none_of (sz.trans sh) hpl
      have n1 : p ≠ t := ne_of_none hrs ht4
      have n2' : p ≠ l := ne_of_none hrs hl4
      have n3 : p ≠ hh := ne_of_none (s5 _ _ hrs) h5h
      have n4 : p ≠ pl := ne_of_none (s5 _ _ hrs) h5p
      have n6 : t ≠ hh := ne_of_none S.tc h5h
      have n7 : l ≠ hh := ne_of_none S.wl h5h
      have n8 : t ≠ pl := ne_of_none S.tc h5p
      have n9 : l ≠ pl := ne_of_none S.wl h5p
      have n10 : hh ≠ pl := ne_of_none upd_same hpl
      refine ⟨p, n, vH, qL, x, hh, pl, none, none, none, none, none, none, dx, qL, t, l, h, L, [], List.replicate n 0, rfl, ⟨hR4.same s47, S.same s57, FTsame s47 fL4, hL, sp _ _ upd_same, upd_same, List.length_replicate, ⟨n1, n2', n3, n4⟩, ⟨n6.symm, n7.symm, n8.symm, n9.symm, n10⟩⟩, rfl, tb4.ext fun b o e => s47 b o e⟩
    obtain ⟨p, n, vH, qL, ps, hl, pl, y8, y9, y10, y11, y12, y13, dx, aS, t, l, h, L, path, held, rfl, W5, hpl5, tb5⟩ := g5
    -- the turns
    refine ⟨_, rfl, p, 25, rfl, W5.row, by decide, by decide, fun kt H6 k0 k1 hB6 hR6 => ⟨kt, rfl, by omega, by omega, ?_⟩⟩
    refine for_range (lo := 0) (n := kt.toNat) (fun i σ H' => GL K C (tabsW P1) a i σ H') ⟨p, n, vH, qL, ps, hl, pl, y8, y9, y10, y11, y12, y13, dx, aS, t, l, h, L, path, held, rfl, W5.but hB6 hR6, hpl5, (W5.row.fix hB6).tabs tb5⟩ (fun i σ7 H7 hi g7 => ?_) (fun σ7 H7 g7 => ?_)
    · obtain ⟨p, n, vH, qL, ps, hl, pl, y8, y9, y10, y11, y12, y13, dx, aS, t, l, h, L, path, held, rfl, W, hpi, tb⟩ := g7
      have i25 : i < 25 := by omega
      refine ⟨_, rfl, p, 5, rfl, W.row, by decide, by decide, fun wy Ha w0 w1 hBa hRa => ?_⟩
      have Wa := W.but hBa hRa
      have tba := (W.row.fix hBa).tabs tb
      have n5' := W.sh.n5
      have n2' := W.sh.hb.lo
      refine ⟨_, rfl, _, rfl, p, (n : Int), rfl, Wa.row, by omega, by omega, fun pc Hb p0 p1 hBb hRb => ?_⟩
      have Wb := Wa.but hBb hRb
      have tbb := (Wa.row.fix hBb).tabs tba
      refine ⟨_, rfl, p, 99, rfl, Wb.row, by decide, by decide, fun kv Hc v0 v1 hBc hRc => ⟨kv, 40, rfl, rfl, _, _, _, rfl, ?_⟩⟩
      have Wc := Wb.but hBc hRc
      have tbc := (Wb.row.fix hBc).tabs tbb
      have hpc : InR n pc := ⟨p0, p1⟩
      -- the name
      refine ⟨GN K C (tabsW P1) a i, fun σ8 H8 g8 => ?_, ?_⟩
      case refine_2 =>
        refine ⟨_, rfl, _, _, rfl, rfl, _, rfl, ite2 (fun e => ?_) (fun e => ?_)⟩
        · have hw : wy < 3 := of_decide_eq_true e
          refine ⟨_, rfl, qL, L, rfl, Wc.fL, _, rfl, pc, rfl, Wc.fL, Wc.pm.mem_iff.mpr (rg_mem.mpr hpc), ?_⟩
          exact ⟨p, n, vH, qL, ps, hl, pl, _, _, wy, pc, _, _, dx, aS, t, l, h, L, path, held, rfl, Wc, w0, w1, hpc, fun _ => rfl, fun z => absurd hw z, hpi, i25, tbc⟩
        · have hw : ¬ wy < 3 := fun z => e (decide_eq_true z)
          exact ⟨_, rfl, p, n, vH, qL, ps, hl, pl, _, _, wy, pc, _, _, dx, aS, t, l, h, L, path, held, rfl, Wc, w0, w1, hpc, fun z => absurd z hw, fun _ => rfl, hpi, i25, tbc⟩
      obtain ⟨p, n, vH, qL, ps, hl, pl, y8, y13, wy, pc, vl, nm, dx, aS, t, l, h, L, path, held, rfl, W, w0, w1, hpc, hn1, hn2, hpi, i25, tb⟩ := g8
      -- the spot
      refine ⟨GT K C (tabsW P1) a i D0, fun σ9 H9 g9 => ?_, ?_⟩
      case refine_2 =>
        refine ⟨_, rfl, _, _, rfl, rfl, _, rfl, ite2 (fun e => ?_) (fun e => ?_)⟩
        · have hw : wy < 3 := of_decide_eq_true e
          have en := hn1 hw
          have hmem : pc ∈ L := W.pm.mem_iff.mpr (rg_mem.mpr hpc)
          have hix : L.idxOf pc < L.length := List.idxOf_lt_length_iff.mpr hmem
          have hln : L.length = n := perm_len W.pm
          refine ⟨_, rfl, p, n, vH, qL, ps, hl, pl, _, wy, pc, vl, nm, pc, dx, aS, t, l, h, L, path, held, rfl, W, w0, w1, fun _ => rfl, ?_, hpc, ?_, ?_, hpi, i25, tb⟩
          · subst en
            exact ⟨by omega, by omega⟩
          · subst en
            rw [Int.toNat_natCast, List.getElem?_eq_getElem hix, List.getElem_idxOf]
          · subst en
            rw [Int.toNat_natCast]
        · have hw : ¬ wy < 3 := fun z => e (decide_eq_true z)
          have en := hn2 hw
          subst en
          obtain ⟨sp, e1, hsp, e2, e3⟩ := W.sh.at_ hpc
          exact ⟨_, rfl, _, rfl, qL, _, _, _, rfl, rfl, .inl W.fL.kx, e3, p, n, vH, qL, ps, hl, pl, _, wy, nm, vl, nm, sp, dx, aS, t, l, h, L, path, held, rfl, W, w0, w1, fun z => absurd z hw, hpc, hsp, e1, e2, hpi, i25, tb⟩
      obtain ⟨p, n, vH, qL, ps, hl, pl, y8, wy, pc, vl, nm, sp, dx, aS, t, l, h, L, path, held, rfl, W, w0, w1, hps, hnm, hsp, hat, hix, hpi, i25, tb⟩ := g9
      -- read, fetch
      refine ⟨GT K C (tabsW P1) a i D1, fun σ10 H10 g10 => ?_, ?_⟩
      case refine_2 =>
        have W : WI K C H9 p ps dx vH aS t l qL hl pl h n L path held L path held := W
        have hh : nm.toNat < held.length := by
          rw [W.ll]
          obtain ⟨q1, q2⟩ := hnm
          omega
        rcases way_cases w0 w1 with rfl | rfl | rfl | rfl | rfl
        · have epc := hps (by decide)
          subst epc
          refine ⟨_, rfl, rfl, _, rfl, ifT (by decide) ?_⟩
          refine ⟨_, rfl, ps, dx, _, rfl, W.sh.ob, no_m.1, _, rfl, ps, dx, vH, aS, t, l, h, n, L, path, held, .int pc, rfl, W.sh, by omega, .int pc, fun i' e hi' Hr a' z fr S' hz => ?_, fun z => ?_⟩
          · cases e
            have W' := W.go fr S'
            refine ⟨_, rfl, _, rfl, hl, _, nm, .int z, rfl, rfl, lstAt W'.eh, ?_, rfl, _, rfl, ifF (by rw [decide_eq_true (rfl : V.int z = V.int z)]; rfl) ?_⟩
            · rw [hix] at hz
              exact at_int hnm.1 (at_map hz)
            · refine ⟨_, rfl, rfl, _, rfl, ifF (by decide) (ifF rfl ?_)⟩
              exact ⟨p, n, vH, qL, ps, hl, pl, _, 0, pc, vl, nm, pc, dx, a', t, l, h, L, path, held, rfl, W', w0, w1, fun _ => rfl, hnm, hsp, hat, hix, hpi, i25, Sh3.tabs W.sh fr tb⟩
          · rw [inV2_yes hsp] at z
            cases z
        · refine ⟨_, rfl, rfl, _, rfl, ifF (by decide) (ifF rfl ⟨_, rfl, rfl, _, rfl, ifF (by decide) (ifF rfl ?_)⟩)⟩
          exact ⟨p, n, vH, qL, ps, hl, pl, _, 1, pc, vl, nm, sp, dx, aS, t, l, h, L, path, held, rfl, W, w0, w1, hps, hnm, hsp, hat, hix, hpi, i25, tb⟩
        · refine ⟨_, rfl, rfl, _, rfl, ifF (by decide) (ifF rfl ⟨_, rfl, rfl, _, rfl, ifF (by decide) (ifF rfl ?_)⟩)⟩
          exact ⟨p, n, vH, qL, ps, hl, pl, _, 2, pc, vl, nm, sp, dx, aS, t, l, h, L, path, held, rfl, W, w0, w1, hps, hnm, hsp, hat, hix, hpi, i25, tb⟩
        · refine ⟨_, rfl, rfl, _, rfl, ifF (by decide) (ifF rfl ⟨_, rfl, rfl, _, rfl, ifT (by decide) ?_⟩)⟩
          refine ⟨_, rfl, ps, dx, _, rfl, W.sh.ob, no_m.2.2.2.1, _, rfl, ps, dx, vH, aS, t, l, h, n, L, path, held, .int nm, rfl, W.sh, by omega, .int nm, fun j' i' e hj' e1 hi' e2 Hr a' z fr S' hz => ?_, fun z => ?_⟩
          · cases e
            rw [hat] at e1
            cases e1
            have W' := W.go fr S'
            refine ⟨_, rfl, _, rfl, hl, _, nm, .int z, rfl, rfl, lstAt W'.eh, at_int hnm.1 (at_map hz), rfl, _, rfl, ifF (by rw [decide_eq_true (rfl : V.int z = V.int z)]; rfl) ?_⟩
            exact ⟨p, n, vH, qL, ps, hl, pl, _, 3, pc, vl, nm, sp, dx, a', t, l, h, L, path, held, rfl, W', w0, w1, hps, hnm, hsp, hat, hix, hpi, i25, Sh3.tabs W.sh fr tb⟩
          · rw [inV2_yes hnm] at z
            cases z
        · refine ⟨_, rfl, rfl, _, rfl, ifF (by decide) (ifF rfl ⟨_, rfl, rfl, _, rfl, ifF (by decide) (ifF rfl ?_)⟩)⟩
          exact ⟨p, n, vH, qL, ps, hl, pl, _, 4, pc, vl, nm, sp, dx, aS, t, l, h, L, path, held, rfl, W, w0, w1, hps, hnm, hsp, hat, hix, hpi, i25, tb⟩
      obtain ⟨p, n, vH, qL, ps, hl, pl, y8, wy, pc, vl, nm, sp, dx, aS, t, l, h, L, path, held, rfl, W, w0, w1, hps, hnm, hsp, hat, hix, hpi, i25, tb⟩ := g10
      have hnl : ∀ (held : List Int), held.length = n → ixN (held.map V.int).length nm = some nm.toNat := fun held hh => by
        obtain ⟨q1, q2⟩ := hnm
        exact ixN_int (n := (held.map V.int).length) (k := nm) q1 (by rw [List.length_map, hh]; exact q2)
      -- write
      refine ⟨GT K C (tabsW P1) a i D2, fun σ11 H11 g11 => ?_, ?_⟩
      case refine_2 =>
        rcases way_cases w0 w1 with rfl | rfl | rfl | rfl | rfl
        · refine ⟨_, rfl, rfl, _, rfl, ifF (by decide) ?_⟩
          exact ⟨p, n, vH, qL, ps, hl, pl, _, 0, pc, vl, nm, sp, dx, aS, t, l, h, L, path, held, rfl, W, w0, w1, hps, hnm, hsp, hat, hix, hpi, i25, tb⟩
        · have W : WI K C H10 p ps dx vH aS t l qL hl pl h n L path held L path held := W
          have epc := hps (by decide)
          subst epc
          refine ⟨_, rfl, rfl, _, rfl, ifT (by decide) ⟨_, rfl, _, rfl, _, rfl, hl, _, nm, nm.toNat, rfl, rfl, W.eh, hnl held W.ll, ?_⟩⟩
          rw [show (held.map V.int).set nm.toNat (.int vl) = (held.set nm.toNat vl).map V.int from (List.map_set ..).symm]
          have W2 := W.put (held' := held.set nm.toNat vl) (by rw [List.length_set]; exact W.ll)
          have tb2 := (Fix.lst (o := .lst ((held.set nm.toNat vl).map V.int)) W.eh).tabs tb
          refine ⟨_, rfl, ps, dx, _, rfl, W2.sh.ob, no_m.2.2.1, _, rfl, _, rfl, ps, dx, vH, aS, t, l, h, n, L, path, held, .int pc, .int vl, rfl, W2.sh, by omega, .int pc, .int vl, fun i' z e hi' ez Hr a' fr S' => ?_, fun z => ?_, fun _ z => nomatch z⟩
          · cases e
            cases ez
            rw [hix] at S'
            have W3 := W2.go fr S'
            refine ⟨_, rfl, ifF rfl ?_⟩
            exact ⟨p, n, vH, qL, ps, hl, pl, _, 1, pc, vl, nm, pc, dx, a', t, l, h, L, path, held.set nm.toNat vl, rfl, W3, w0, w1, fun _ => rfl, hnm, hsp, hat, hix, hpi, i25, Sh3.tabs W2.sh fr tb2⟩
          · rw [inV2_yes hsp] at z
            cases z
        · refine ⟨_, rfl, rfl, _, rfl, ifF (by decide) ?_⟩
          exact ⟨p, n, vH, qL, ps, hl, pl, _, 2, pc, vl, nm, sp, dx, aS, t, l, h, L, path, held, rfl, W, w0, w1, hps, hnm, hsp, hat, hix, hpi, i25, tb⟩
        · refine ⟨_, rfl, rfl, _, rfl, ifF (by decide) ?_⟩
          exact ⟨p, n, vH, qL, ps, hl, pl, _, 3, pc, vl, nm, sp, dx, aS, t, l, h, L, path, held, rfl, W, w0, w1, hps, hnm, hsp, hat, hix, hpi, i25, tb⟩
        · refine ⟨_, rfl, rfl, _, rfl, ifF (by decide) ?_⟩
          exact ⟨p, n, vH, qL, ps, hl, pl, _, 4, pc, vl, nm, sp, dx, aS, t, l, h, L, path, held, rfl, W, w0, w1, hps, hnm, hsp, hat, hix, hpi, i25, tb⟩
      clear hnl
      obtain ⟨p, n, vH, qL, ps, hl, pl, y8, wy, pc, vl, nm, sp, dx, aS, t, l, h, L, path, held, rfl, W, w0, w1, hps, hnm, hsp, hat, hix, hpi, i25, tb⟩ := g11
      have hnl : ∀ (held : List Int), held.length = n → ixN (held.map V.int).length nm = some nm.toNat := fun held hh => by
        obtain ⟨q1, q2⟩ := hnm
        exact ixN_int (n := (held.map V.int).length) (k := nm) q1 (by rw [List.length_map, hh]; exact q2)
      -- put
      refine ⟨GT K C (tabsW P1) a i D3, fun σ12 H12 g12 => ?_, ?_⟩
      case refine_2 =>
        rcases way_cases w0 w1 with rfl | rfl | rfl | rfl | rfl
        · refine ⟨_, rfl, rfl, _, rfl, ifF (by decide) ?_⟩
          exact ⟨p, n, vH, qL, ps, hl, pl, _, 0, pc, vl, nm, sp, dx, aS, t, l, h, L, path, held, rfl, W, w0, w1, hps, hnm, hsp, hat, hix, hpi, i25, tb⟩
        · refine ⟨_, rfl, rfl, _, rfl, ifF (by decide) ?_⟩
          exact ⟨p, n, vH, qL, ps, hl, pl, _, 1, pc, vl, nm, sp, dx, aS, t, l, h, L, path, held, rfl, W, w0, w1, hps, hnm, hsp, hat, hix, hpi, i25, tb⟩
        · refine ⟨_, rfl, rfl, _, rfl, ifF (by decide) ?_⟩
          exact ⟨p, n, vH, qL, ps, hl, pl, _, 2, pc, vl, nm, sp, dx, aS, t, l, h, L, path, held, rfl, W, w0, w1, hps, hnm, hsp, hat, hix, hpi, i25, tb⟩
        · refine ⟨_, rfl, rfl, _, rfl, ifF (by decide) ?_⟩
          exact ⟨p, n, vH, qL, ps, hl, pl, _, 3, pc, vl, nm, sp, dx, aS, t, l, h, L, path, held, rfl, W, w0, w1, hps, hnm, hsp, hat, hix, hpi, i25, tb⟩
        · have W : WI K C H11 p ps dx vH aS t l qL hl pl h n L path held L path held := W
          refine ⟨_, rfl, rfl, _, rfl, ifT (by decide) ⟨_, rfl, _, rfl, _, rfl, hl, _, nm, nm.toNat, rfl, rfl, W.eh, hnl held W.ll, ?_⟩⟩
          rw [show (held.map V.int).set nm.toNat (.int vl) = (held.set nm.toNat vl).map V.int from (List.map_set ..).symm]
          have W2 := W.put (held' := held.set nm.toNat vl) (by rw [List.length_set]; exact W.ll)
          have tb2 := (Fix.lst (o := .lst ((held.set nm.toNat vl).map V.int)) W.eh).tabs tb
          refine ⟨_, rfl, ps, dx, _, rfl, W2.sh.ob, no_m.2.2.2.2, _, rfl, _, rfl, ps, dx, vH, aS, t, l, h, n, L, path, held, .int nm, vl, rfl, W2.sh, by omega, .int nm, fun j' i' e hj' e1 hi' e2 Hr a' fr S' => ?_, fun z => ?_⟩
          · cases e
            rw [hat] at e1
            cases e1
            have W3 := W2.go fr S'
            refine ⟨_, rfl, ifF rfl ?_⟩
            exact ⟨p, n, vH, qL, ps, hl, pl, _, 4, pc, vl, nm, sp, dx, a', t, l, h, L, path, held.set nm.toNat vl, rfl, W3, w0, w1, hps, hnm, hsp, hat, hix, hpi, i25, Sh3.tabs W2.sh fr tb2⟩
          · rw [inV2_yes hnm] at z
            cases z
      clear hnl
      obtain ⟨p, n, vH, qL, ps, hl, pl, y8, wy, pc, vl, nm, sp, dx, aS, t, l, h, L, path, held, rfl, W, w0, w1, hps, hnm, hsp, hat, hix, hpi, i25, tb⟩ := g12
      -- touch
      refine ⟨GT K C (tabsW P1) a i D4, fun σ13 H13 g13 => ?_, ?_⟩
      case refine_2 =>
        rcases way_cases w0 w1 with rfl | rfl | rfl | rfl | rfl
        · refine ⟨_, rfl, rfl, _, rfl, ifF (by decide) (ifF rfl ?_)⟩
          exact ⟨p, n, vH, qL, ps, hl, pl, _, 0, pc, vl, nm, sp, dx, aS, t, l, h, L, path, held, rfl, W, w0, w1, hps, hnm, hsp, hat, hix, hpi, i25, tb⟩
        · refine ⟨_, rfl, rfl, _, rfl, ifF (by decide) (ifF rfl ?_)⟩
          exact ⟨p, n, vH, qL, ps, hl, pl, _, 1, pc, vl, nm, sp, dx, aS, t, l, h, L, path, held, rfl, W, w0, w1, hps, hnm, hsp, hat, hix, hpi, i25, tb⟩
        · have W : WI K C H12 p ps dx vH aS t l qL hl pl h n L path held L path held := W
          have epc := hps (by decide)
          subst epc
          refine ⟨_, rfl, rfl, _, rfl, ifT (by decide) ?_⟩
          refine ⟨_, rfl, ps, dx, _, rfl, W.sh.ob, no_m.2.1, _, rfl, ps, dx, vH, aS, t, l, h, n, L, path, held, .int pc, rfl, W.sh, by omega, .int pc, fun i' e hi' Hr a' fr S' => ?_, fun z => ?_⟩
          · cases e
            have W3 := W.go fr S'
            refine ⟨_, rfl, ifF rfl ?_⟩
            exact ⟨p, n, vH, qL, ps, hl, pl, _, 2, pc, vl, nm, pc, dx, a', t, l, h, L, path, held, rfl, W3, w0, w1, fun _ => rfl, hnm, hsp, hat, hix, hpi, i25, Sh3.tabs W.sh fr tb⟩
          · rw [inV2_yes hsp] at z
            cases z
        · refine ⟨_, rfl, rfl, _, rfl, ifF (by decide) (ifF rfl ?_)⟩
          exact ⟨p, n, vH, qL, ps, hl, pl, _, 3, pc, vl, nm, sp, dx, aS, t, l, h, L, path, held, rfl, W, w0, w1, hps, hnm, hsp, hat, hix, hpi, i25, tb⟩
        · refine ⟨_, rfl, rfl, _, rfl, ifF (by decide) (ifF rfl ?_)⟩
          exact ⟨p, n, vH, qL, ps, hl, pl, _, 4, pc, vl, nm, sp, dx, aS, t, l, h, L, path, held, rfl, W, w0, w1, hps, hnm, hsp, hat, hix, hpi, i25, tb⟩
      obtain ⟨p, n, vH, qL, ps, hl, pl, y8, wy, pc, vl, nm, sp, dx, aS, t, l, h, L, path, held, rfl, W, w0, w1, hps, hnm, hsp, hat, hix, hpi, i25, tb⟩ := g13
      have W : WI K C H13 p ps dx vH aS t l qL hl pl h n (stp h sp L) (path ++ [sp]) held L path held := W
      -- the law's own layout and path
      have n5'' := W.sh.n5
      have hln : L.length = n := perm_len W.pm
      refine ⟨_, rfl, _, rfl, _, rfl, vH, h, n, qL, L, sp, rfl, W.sh.hT, W.sh.hb, .inl W.fL.kx, fun x hx => perm_in W.pm hx, by omega, hsp, fun Ha qN sA nq fA => ?_⟩
      have Wa := W.same sA
      refine ⟨_, rfl, _, rfl, by show 1 ≤ sizeLine; decide, fun z hz => ?_⟩
      have sz := same_new (o := .lst [.int sp]) hz
      have Wz := Wa.same sz
      refine ⟨pl, z, _, _, rfl, rfl, Wz.ep, upd_same, ?_, fun pN hpN => ⟨_, _, rfl, ?_⟩⟩
      · rw [List.length_map, hpi]
        exact Nat.le_of_lt (small1000 (by show i + 1 ≤ 1000; omega))
      have eL : path.map V.int ++ [V.int sp] = (path ++ [sp]).map V.int := by rw [List.map_append]; rfl
      have sN := same_new (o := .lst (path.map V.int ++ [V.int sp])) hpN
      have WN := Wz.same sN
      have fN := FTsame sN (FTsame sz fA)
      have ePN : (upd (upd Ha z (.lst [.int sp])) pN (.lst (path.map V.int ++ [V.int sp]))) pN = some (.lst ((path ++ [sp]).map V.int)) := by rw [upd_same, eL]
      have tbN : Tabs (tabsW P1) (upd (upd Ha z (.lst [.int sp])) pN (.lst (path.map V.int ++ [V.int sp]))) := tb.ext fun b o e => (sA.trans (sz.trans sN)) b o e
      obtain ⟨rs, hrs⟩ := Wz.row.lst
      have m1 : p ≠ pN := ne_of_none hrs hpN
      have m2 : t ≠ pN := ne_of_none Wz.sh.tc hpN
      have m3 : l ≠ pN := ne_of_none Wz.sh.wl hpN
      have m4 : hl ≠ pN := ne_of_none Wz.eh hpN
      obtain ⟨d1, d2, d3, d4⟩ := W.d1
      obtain ⟨g1, g2, g3, g4, g5⟩ := W.d2
      have WF : WI K C (upd (upd Ha z (.lst [.int sp])) pN (.lst (path.map V.int ++ [V.int sp]))) p ps dx vH aS t l qN hl pN h n (stp h sp L) (path ++ [sp]) held (stp h sp L) (path ++ [sp]) held :=
        ⟨WN.row, WN.sh, fN, W.sh.hb.stp_perm hsp W.pm, WN.eh, ePN, W.ll, ⟨d1, d2, d3, m1⟩, ⟨g1, g2, m2.symm, m3.symm, m4⟩⟩
      -- they are alike
      refine ⟨_, rfl, ps, dx, _, rfl, WF.sh.ob, ps, dx, vH, aS, t, l, h, n, _, _, _, rfl, WF.sh, ?_⟩
      refine ⟨_, rfl, ps, dx, _, rfl, WF.sh.ob, ps, dx, vH, aS, t, l, h, n, _, _, _, rfl, WF.sh, fun q1 hq1 => ?_⟩
      have s1 := same_new (o := .tup ((path ++ [sp]).map V.int)) hq1
      have W1 := WF.same s1
      refine ⟨_, rfl, ps, dx, _, rfl, W1.sh.ob, ps, dx, vH, aS, t, l, h, n, _, _, _, rfl, W1.sh, fun q2 hq2 => ?_⟩
      have s2 := same_new (o := .tup (held.map V.int)) hq2
      have W2 := W1.same s2
      refine ⟨by show 3 ≤ sizeLine; decide, fun z1 hz1 => ?_⟩
      have s3 := same_new (o := .lst [.ref aS, .ref q1, .ref q2]) hz1
      have W3 := W2.same s3
      refine ⟨_, rfl, _, rfl, .inl ⟨pN, _, rfl, lstAt W3.ep, fun q3 hq3 => ?_⟩⟩
      have s4 := same_new (o := .tup ((path ++ [sp]).map V.int)) hq3
      have W4 := W3.same s4
      refine ⟨_, rfl, .inl ⟨hl, _, rfl, lstAt W4.eh, fun q4 hq4 => ?_⟩⟩
      have s5 := same_new (o := .tup (held.map V.int)) hq4
      have W5 := W4.same s5
      refine ⟨by show 3 ≤ sizeLine; decide, fun z2 hz2 => ?_⟩
      have s6 := same_new (o := .lst [.ref qN, .ref q3, .ref q4]) hz2
      have W6 := W5.same s6
      obtain ⟨dp1, dp2⟩ := alike3 (K := K) (L := stp h sp L) (path := path ++ [sp]) (held := held) (s6 _ _ (s5 _ _ (s4 _ _ upd_same))) upd_same (.inl W6.sh.st.kx) (tupAt (s6 _ _ (s5 _ _ (s4 _ _ (s3 _ _ (s2 _ _ upd_same)))))) (tupAt (s6 _ _ (s5 _ _ (s4 _ _ (s3 _ _ upd_same)))))
        (.inl W6.fL.kx) (tupAt (s6 _ _ (s5 _ _ upd_same))) (tupAt (s6 _ _ upd_same))
      have hl2 : (stp h sp L).length = n := perm_len (W.sh.hb.stp_perm hsp W.pm)
      refine ⟨_, _, _, rfl, dp1, dp2, okD_three (by omega) (by rw [List.length_append, hpi]; show i + 1 ≤ 1000; omega) (by rw [W.ll]; omega), fun HF sF => ⟨_, rfl, ifF rfl ?_⟩⟩
      have tbF : Tabs (tabsW P1) HF := tbN.ext fun b o e => (s1.trans (s2.trans (s3.trans (s4.trans (s5.trans (s6.trans sF)))))) b o e
      exact ⟨p, n, vH, qN, ps, hl, pN, _, _, _, _, _, _, dx, aS, t, l, h, stp h sp L, path ++ [sp], held, rfl, W6.same sF, by rw [List.length_append, hpi]; rfl, tbF⟩
    · obtain ⟨p, n, vH, qL, ps, hl, pl, y8, y9, y10, y11, y12, y13, dx, aS, t, l, h, L, path, held, rfl, W, hpi, tb⟩ := g7
      have hp5 : path.length < 500 := by omega
      -- what is no place of the shelf
      refine ⟨_, rfl, 0, 1, rfl, rfl, _, rfl, by decide +kernel, fun q0 hq0 => ⟨by show 6 ≤ sizeLine; decide +kernel, fun wl hwl => ?_⟩⟩
      have s0 := same_new (o := .tup [.int 0]) hq0
      have s1 := same_new (o := .lst [.non, .bl true, .int (0 - 1), .int (n : Int), .str "0", .ref q0]) hwl
      have W1 := W.same (s0.trans s1)
      have tb1 : Tabs (tabsW P1) _ := tb.ext fun b o e => (s0.trans s1) b o e
      obtain ⟨rs, hrs⟩ := W.row.lst
      have np : wl ≠ p := (ne_of_none (s0 _ _ hrs) hwl).symm
      refine ⟨p, wl, _, rfl, W1.row, upd_same, np, by show 0 < 6; decide, by show 6 ≤ 1000; decide, fun iw wx H8 hwx hB8 hR8 => ?_⟩
      have W8 := W1.but hB8 hR8
      have tb8 := (W1.row.fix hB8).tabs tb1
      obtain ⟨sw, bad⟩ := wrong6 (K := K) (H := H8) ((W1.row.fix hB8).tups _ _ (tupAt (s1 _ _ upd_same))) hwx
      -- five works are refused
      refine ⟨_, rfl, _, rfl, _, rfl, .ref ps, wx, wx, rfl, tb8, fun lst f1 f2 f3 f4 f5 cl H9 ext9 tb9 hl9 st9 m1 m2 m3 m4 m5 => ?_⟩
      have W9 := W8.ext ext9
      have sw9 := sw.ext ext9
      refine ⟨_, rfl, lst, rfl, ⟨_, lstAt hl9⟩, fun D hD => ?_⟩
      have sD := same_new (o := .lst []) hD
      refine lc_list (xs := [.ref f1, .ref f2, .ref f3, .ref f4, .ref f5]) (fun i H' => Same H9 H' ∧ H' D = some (.lst (told5.take i))) ⟨sD, upd_same⟩ (fun i H' _ h' => lstAt (h'.1 _ _ hl9)) (fun i x H' hx h' => ?_) (fun H' h' => ?_)
      · obtain ⟨sm, eD⟩ := h'
        have W' := W9.same sm
        have nx : ∀ (z : Str) (H3 : Hp), told5[i]? = some (.str z) → Same H' H3 → ∃ acc, H3 D = some (.lst acc) ∧ acc.length < sizeLine ∧ (Same H9 (upd H3 D (.lst (acc ++ [.str z]))) ∧ upd H3 D (.lst (acc ++ [.str z])) D = some (.lst (told5.take (i + 1)))) := fun z H3 hz s3 => by
          refine ⟨_, s3 _ _ eD, ?_, fun b o e => ?_, ?_⟩
          · have : (told5.take i).length ≤ 5 := by rw [List.length_take]; exact Nat.min_le_right ..
            exact Nat.lt_of_le_of_lt this (by decide +kernel)
          · rw [upd_ne (ne_of_none e hD)]
            exact s3 _ _ (sm _ _ e)
          · rw [upd_same, List.take_add_one, hz]
            rfl
        refine ⟨rfl, _, rfl, ?_⟩
        match i, hx, nx with
        | 0, hx, nx =>
          cases Option.some.inj hx
          exact ⟨f1, _, Cp, 2, rfl, rdy1 T MR W'.sh hp5 (Sw.same sm sw9) bad (m1.same sm), Kp, fun _ _ z => ⟨rfl, z _ (Same.refl _)⟩, fun H3 s3 => nx "place" H3 rfl s3⟩
        | 1, hx, nx =>
          cases Option.some.inj hx
          exact ⟨f2, _, Cp, 2, rfl, rdy2 T MT W'.sh hp5 (Sw.same sm sw9) bad (m2.same sm), Kp, fun _ _ z => ⟨rfl, z _ (Same.refl _)⟩, fun H3 s3 => nx "place" H3 rfl s3⟩
        | 2, hx, nx =>
          cases Option.some.inj hx
          exact ⟨f3, _, Cp, 2, rfl, rdy3 T MW W'.sh hp5 (Sw.same sm sw9) (Sw.same sm sw9) bad (m3.same sm), Kp, fun _ _ z => ⟨rfl, z _ (Same.refl _)⟩, fun H3 s3 => nx "place" H3 rfl s3⟩
        | 3, hx, nx =>
          cases Option.some.inj hx
          exact ⟨f4, _, Cm, 3, rfl, rdy4 T MF W'.sh hp5 (Sw.same sm sw9) bad (m4.same sm), Km, fun _ _ z => ⟨rfl, z _ (Same.refl _)⟩, fun H3 s3 => nx "names" H3 rfl s3⟩
        | 4, hx, nx =>
          cases Option.some.inj hx
          exact ⟨f5, _, Cm, 3, rfl, rdy5 T MP W'.sh hp5 (Sw.same sm sw9) bad (m5.same sm), Km, fun _ _ z => ⟨rfl, z _ (Same.refl _)⟩, fun H3 s3 => nx "names" H3 rfl s3⟩
        | i + 5, hx, nx => simp at hx
      · obtain ⟨sm, eD⟩ := h'
        have eD : H' D = some (.lst told5) := eD
        have W10 := W9.same sm
        have tb10 : Tabs (tabsW P1) H' := tb9.ext fun b o e => sm b o e
        refine ⟨by decide +kernel, fun a1 ha1 => ⟨a1, 3, _, rfl, rfl, upd_same, by decide, by decide, by decide +kernel, fun a2 ha2 => ⟨by decide +kernel, fun a3 ha3 => ⟨a3, 2, _, rfl, rfl, upd_same, by decide, by decide, by decide +kernel, fun a4 ha4 => ?_⟩⟩⟩⟩
        have t1 := same_new (o := .lst [.str "place"]) ha1
        have t2 := same_new (o := .lst [.str "place", .str "place", .str "place"]) ha2
        have t3 := same_new (o := .lst [.str "names"]) ha3
        have t4 := same_new (o := .lst [.str "names", .str "names"]) ha4
        refine ⟨a2, a4, _, _, rfl, rfl, t4 _ _ (t3 _ _ upd_same), upd_same, by decide +kernel, fun a5 ha5 => ?_⟩
        have t5 := same_new (o := .lst told5) ha5
        have t15 := t1.trans (t2.trans (t3.trans (t4.trans t5)))
        refine ⟨.list told5D, .list told5D, dp_told (lstAt (t15 _ _ eD)), dp_told (lstAt upd_same), by decide +kernel, by decide +kernel, _, rfl, ifF (by decide +kernel) ?_⟩
        have W11 := W10.same t15
        have tb11 : Tabs (tabsW P1) _ := tb10.ext fun b o e => t15 b o e
        -- what is no number
        refine ⟨_, rfl, by decide +kernel, fun q1 hq1 => ⟨Nat.zero_le _, fun l1 hl1 => ⟨by show 5 ≤ sizeLine; decide +kernel, fun wl2 hwl2 => ?_⟩⟩⟩
        have u0 := same_new (o := .tup [.int 1]) hq1
        have u1 := same_new (o := .lst []) hl1
        have u2 := same_new (o := .lst [.non, .bl true, .str "1", .ref q1, .ref l1]) hwl2
        have u02 := u0.trans (u1.trans u2)
        have W12 := W11.same u02
        have tb12 : Tabs (tabsW P1) _ := tb11.ext fun b o e => u02 b o e
        obtain ⟨rs2, hrs2⟩ := W11.row.lst
        have np2 : wl2 ≠ p := (ne_of_none (u1 _ _ (u0 _ _ hrs2)) hwl2).symm
        have nl2 : l1 ≠ p := (ne_of_none (u0 _ _ hrs2) hl1).symm
        refine ⟨p, wl2, _, rfl, W12.row, upd_same, np2, by show 0 < 5; decide, by show 5 ≤ 1000; decide, fun iv vx H13 hvx hB13 hR13 => ?_⟩
        have W13 := W12.but hB13 hR13
        have tb13 := (W12.row.fix hB13).tabs tb12
        obtain ⟨swv, badv⟩ := wrong5 (K := K) (H := H13) ((W12.row.fix hB13).tups _ _ (tupAt (u2 _ _ (u1 _ _ upd_same)))) (lstAt (hB13 _ _ (u2 _ _ upd_same) nl2)) hvx
        refine ⟨_, rfl, _, rfl, .ref ps, .int 0, vx, rfl, tb13, fun lst2 g1 g2 g3 g4 g5 cl2 H14 ext14 tb14 hl14 st14 k1 k2 k3 k4 k5 => ?_⟩
        have W14 := W13.ext ext14
        have n2' := W14.sh.hb.lo
        refine ⟨lst2, _, 2, .ref g3, rfl, rfl, lstAt hl14, rfl, g3, _, Cn, 4, rfl, rdy3n T MW W14.sh hp5 (swv.ext ext14) (inV2_yes ⟨Int.le_refl _, by omega⟩) badv k3, Kn, fun _ _ z => ⟨rfl, z _ (Same.refl _)⟩, fun H15 s15 => ?_⟩
        refine ⟨rfl, _, rfl, ifF (by decide +kernel) ?_⟩
        have W15 := W14.same s15
        -- they are alike
        refine ⟨_, rfl, ps, dx, _, rfl, W15.sh.ob, ps, dx, vH, aS, t, l, h, n, _, _, _, rfl, W15.sh, ?_⟩
        refine ⟨_, rfl, ps, dx, _, rfl, W15.sh.ob, ps, dx, vH, aS, t, l, h, n, _, _, _, rfl, W15.sh, fun q1 hq1 => ?_⟩
        have s1 := same_new (o := .tup (path.map V.int)) hq1
        have W1 := W15.same s1
        refine ⟨_, rfl, ps, dx, _, rfl, W1.sh.ob, ps, dx, vH, aS, t, l, h, n, _, _, _, rfl, W1.sh, fun q2 hq2 => ?_⟩
        have s2 := same_new (o := .tup (held.map V.int)) hq2
        have W2 := W1.same s2
        refine ⟨by show 3 ≤ sizeLine; decide, fun z1 hz1 => ?_⟩
        have s3 := same_new (o := .lst [.ref aS, .ref q1, .ref q2]) hz1
        have W3 := W2.same s3
        refine ⟨_, rfl, _, rfl, .inl ⟨pl, _, rfl, lstAt W3.ep, fun q3 hq3 => ?_⟩⟩
        have s4 := same_new (o := .tup (path.map V.int)) hq3
        have W4 := W3.same s4
        refine ⟨_, rfl, .inl ⟨hl, _, rfl, lstAt W4.eh, fun q4 hq4 => ?_⟩⟩
        have s5 := same_new (o := .tup (held.map V.int)) hq4
        have W5 := W4.same s5
        refine ⟨by show 3 ≤ sizeLine; decide, fun z2 hz2 => ?_⟩
        have s6 := same_new (o := .lst [.ref qL, .ref q3, .ref q4]) hz2
        have W6 := W5.same s6
        obtain ⟨dp1, dp2⟩ := alike3 (K := K) (L := L) (path := path) (held := held) (s6 _ _ (s5 _ _ (s4 _ _ upd_same))) upd_same (.inl W6.sh.st.kx) (tupAt (s6 _ _ (s5 _ _ (s4 _ _ (s3 _ _ (s2 _ _ upd_same)))))) (tupAt (s6 _ _ (s5 _ _ (s4 _ _ (s3 _ _ upd_same)))))
          (.inl W6.fL.kx) (tupAt (s6 _ _ (s5 _ _ upd_same))) (tupAt (s6 _ _ upd_same))
        have hln : L.length = n := perm_len W.pm
        have n5'' := W.sh.n5
        exact ⟨_, _, _, rfl, dp1, dp2, okD_three (by omega) (by omega) (by rw [W.ll]; omega), fun HF sF => q HF⟩
end
end RH
set_option Elab.async false
set_option linter.all false
set_option maxRecDepth 100000
set_option maxHeartbeats 2000000
namespace RH
open PySem PySem.Spec PyProof.Rows L2
open LamX (Tabs TabS TabB ExtN CodeO codeO_ne)
/-! ### what the top has left -/
theorem df_mk {K : PySem.W.Frag} {h : Heap} {mg : Str → Option Value} (X : K.In h) (G : h.Ns mainGlobals mg) {x : Str} {st : Stmt} {ps : List Str} {f : Addr} {od an : Option Addr} {sl : Array (Option Value)} {oc kV dc pm cd ct : Value}
    (a : PySem.W.nsIn K mainGlobals x = some (some (.ref f))) (l : K.lookup f = some ⟨oc, od, .func (PySem.W.fnOf x x (defArgs st) (defBody st) (defScope st) .none kV dc pm an cd ct), sl⟩) (c : PySem.W.codeIn K cd x = true) (k : PySem.W.keepIn K (.ref f) = true)
    (b : ∀ (kV doc pm : Value) (an : Option Addr) (cdv ct : Value) (us : List Value), us.length = ps.length → bindArgs (PySem.W.fnOf x x (defArgs st) (defBody st) (defScope st) .none kV doc pm an cdv ct) ⟨us, []⟩ = pure (ps.zip us)) : Df K mg x st ps := by
  have F := fun_mk (st := st) l c k
  exact ⟨f, _, F, PySem.W.mg_of X G a, F.binds b⟩
theorem dfc_mk {K : PySem.W.Frag} {h : Heap} {mg : Str → Option Value} (X : K.In h) (G : h.Ns mainGlobals mg) {x : Str} {st : Stmt} {ps : List Str} {f c : Addr} {od an : Option Addr} {sl : Array (Option Value)} {oc kV dc pm ct : Value}
    (a : PySem.W.nsIn K mainGlobals x = some (some (.ref f))) (l : K.lookup f = some ⟨oc, od, .func (PySem.W.fnOf x x (defArgs st) (defBody st) (defScope st) .none kV dc pm an (.ref c) ct), sl⟩) (cc : PySem.W.codeIn K (.ref c) x = true) (k : PySem.W.keepIn K (.ref f) = true)
    (b : ∀ (kV doc pm : Value) (an : Option Addr) (cdv ct : Value) (us : List Value), us.length = ps.length → bindArgs (PySem.W.fnOf x x (defArgs st) (defBody st) (defScope st) .none kV doc pm an cdv ct) ⟨us, []⟩ = pure (ps.zip us)) : DfC K mg x st ps c := by
  have F := fun_mk (st := st) l cc k
  exact ⟨f, oc, od, kV, dc, pm, an, ct, sl, l, cc, k, PySem.W.mg_of X G a, F.binds b⟩
/-- where a code object's table stands -/
def tabOf (o : Obj) : Option Value := match o.data with
  | .fields vs => vs.toList[11]?
  | _ => none
/-- a maker: its code object, its table -/
structure Mkr (K : PySem.W.Frag) (h : Heap) (mg : Str → Option Value) (x : Str) (st : Stmt) (ps : List Str) (c p : Addr) : Prop where
  df : DfC K mg x st ps c
  hd : PySem.W.CodeHd h c p
  no : K.lookup p = none
  tab : h.get? p = some (PySem.W.tabObj #[])
theorem mkr {K : PySem.W.Frag} {h : Heap} {mg : Str → Option Value} (X : K.In h) (G : h.Ns mainGlobals mg) {x : Str} {st : Stmt} {ps : List Str} {f c p : Addr} {od an : Option Addr} {sl : Array (Option Value)} {oc kV dc pm ct : Value} {o : Obj}
    (a : PySem.W.nsIn K mainGlobals x = some (some (.ref f))) (l : K.lookup f = some ⟨oc, od, .func (PySem.W.fnOf x x (defArgs st) (defBody st) (defScope st) .none kV dc pm an (.ref c) ct), sl⟩) (cc : PySem.W.codeIn K (.ref c) x = true) (k : PySem.W.keepIn K (.ref f) = true)
    (lc : K.lookup c = some o) (t : tabOf o = some (.ref p)) (d : ∀ K' : PySem.W.Frag, K'.lookup c = some o → PySem.W.codeHdIn K' c p = true) (e : K.lookup p = none) (g : h.get? p = some (PySem.W.tabObj #[]))
    (b : ∀ (kV doc pm : Value) (an : Option Addr) (cdv ct : Value) (us : List Value), us.length = ps.length → bindArgs (PySem.W.fnOf x x (defArgs st) (defBody st) (defScope st) .none kV doc pm an cdv ct) ⟨us, []⟩ = pure (ps.zip us)) :
    Mkr K h mg x st ps c p := ⟨dfc_mk X G a l cc k b, PySem.W.codeHd_of_K X (d K lc), e, g⟩
theorem two {A B : Addr → Addr → Prop} {c p c2 p2 : Addr} (a : A c p) (b : B c2 p2) (n : (p != p2) = true) : ∃ c p c2 p2, A c p ∧ B c2 p2 ∧ p ≠ p2 := ⟨c, p, c2, p2, a, b, fun z => by
  rw [z] at n
  simp at n⟩
/-- the written part that is meant -/
abbrev kOf {K : PySem.W.Frag} {h : Heap} (_ : K.In h) : PySem.W.Frag := K
theorem const_mk {K : PySem.W.Frag} {h : Heap} {mg : Str → Option Value} (X : K.In h) (G : h.Ns mainGlobals mg) {x : Str} {i : Int} {t : Tok} (a : PySem.W.nsIn K mainGlobals x = some (some (.int i t))) : ∃ t, mg x = some (.int i t) := ⟨t, PySem.W.mg_of X G a⟩
/-- what the end asks of the law -/
def spEnd (K : PySem.W.Frag) (T : List (Addr × Str)) : Sp := fun vs H Q _ => ∃ (a : Addr) (ns : List Int), vs = [.ref a] ∧ SqL K H a (ns.map V.int) ∧ Tabs T H ∧ ∀ H', Q (.bl true) H'
/-- a list that no one writes may be told by its very object -/
theorem frozen {P : Program} {w : World} {K : PySem.W.Frag} {mg : Str → Option Value} {base : Heap} {k : Nat} {f : Addr} {fd : FuncData} {T : List (Addr × Str)} (F : FnOk P w K mg base CX0 k f fd ["script"] (spLaw K T)) : FnOk P w K mg base CX0 k f fd ["script"] (spEnd K T) := by
  refine ⟨fun vs H Q E h => ?_, fun A outer s H args us vs Q E hr e0 hb r h => ?_⟩
  · obtain ⟨a, ns, rfl, _⟩ := h
    rfl
  obtain ⟨a, ns, rfl, hS, hT, q⟩ := h
  rcases hS with (hS | ⟨o, hS⟩) | hS
  · obtain ⟨z, its, n, rv, ho⟩ := (show ObjOk P w H s.heap a (.lst (ns.map V.int)) from e0.hok a _ hS)
    have hne : ∀ b, H b = none ↔ upd H a (.frz { cls := .type "list", data := .seq its.toArray n } (.lst (ns.map V.int))) b = none := fun b => by
      by_cases e : b = a
      · subst e
        rw [hS, upd_same]
        exact ⟨fun z => (nomatch z), fun z => (nomatch z)⟩
      · rw [upd_ne e]
    have ext : ∀ b u, H b = some u → (∀ xs, u ≠ .lst xs) → upd H a (.frz { cls := .type "list", data := .seq its.toArray n } (.lst (ns.map V.int))) b = some u := fun b u e nu => by
      rw [upd_ne (fun z => by subst z; rw [hS] at e; exact nu _ (Option.some.inj e).symm)]
      exact e
    have hok : HOk P w (upd H a (.frz { cls := .type "list", data := .seq its.toArray n } (.lst (ns.map V.int)))) s.heap := fun b u e => by
      by_cases eb : b = a
      · subst eb
        rw [upd_same] at e
        cases e
        exact ⟨ho, z, its, n, rv, ho⟩
      · rw [upd_ne eb] at e
        exact (e0.hok b u e).stay (fun c v _ h => h) (fun c h => ext _ _ h (fun xs z => nomatch z)) (fun c xs h => ext _ _ h (fun xs z => nomatch z))
    have e1 : Env0 P w K mg base A outer s (upd H a (.frz { cls := .type "list", data := .seq its.toArray n } (.lst (ns.map V.int)))) :=
      ⟨e0.frames, e0.mod, fun b o e => ⟨(e0.bs b o e).1, (hne b).mp (e0.bs b o e).2⟩, e0.bsz, e0.funs, fun b h => (hne b).mp (e0.frf b h), hok, e0.bare⟩
    have hT1 : Tabs T (upd H a (.frz { cls := .type "list", data := .seq its.toArray n } (.lst (ns.map V.int)))) := Fix.tabs (fun b u e nu => ext b u e nu) hT
    refine codeAny_mono (F.run A outer s _ args us [.ref a] Q E hr e1 hb r ⟨a, ns, rfl, .inl ⟨_, upd_same⟩, hT1, q⟩) fun rr s' h => ?_
    cases rr with
    | error e => exact h
    | ok fl =>
      cases fl with
      | ret u =>
        obtain ⟨v, H', os, bare, un, hok', r', q'⟩ := h
        refine ⟨v, H', os, bare, ⟨fun b o e n => un.keep b o e ((hne b).mp n), fun b o e n => un.slot b o e ((hne b).mp n), fun b o e n => un.free b o e ((hne b).mp n), un.there, fun b xs e => un.tups b xs (ext b _ e (fun ys z => nomatch z)), fun b o u e => un.frzs b o u (ext b _ e (fun ys z => nomatch z)), fun b ps e => un.tbls b ps (ext b _ e (fun ys z => nomatch z))⟩, hok', r', q'⟩
      | next => exact h
      | brk => exact h
      | cont => exact h
  · exact F.run A outer s H args us [.ref a] Q E hr e0 hb r ⟨a, ns, rfl, .inl ⟨o, hS⟩, hT, q⟩
  · exact F.run A outer s H args us [.ref a] Q E hr e0 hb r ⟨a, ns, rfl, .inr fun H' => .inr hS, hT, q⟩
/-- the class, as the top has left it -/
theorem shelf_mk {K : PySem.W.Frag} {h : Heap} {mg : Str → Option Value} (X : K.In h) (G : h.Ns mainGlobals mg) {C : Addr} (aC : PySem.W.nsIn K mainGlobals "Shelf" = some (some (.ref C)))
    (pg : PySem.W.plainGet K C Str.empty = true) (hd : PySem.W.hasDictIn K C = true) (po : PySem.W.plainOver K C = true) (sa : PySem.W.findIn K (.ref C) "__setattr__" = some (some (.builtin "object.__setattr__"))) (mk : PySem.W.makesIn K C = true) (kc : PySem.W.keepIn K (.ref C) = true)
    (n1 : PySem.W.findIn K (.ref C) "_habit" = some none) (n2 : PySem.W.findIn K (.ref C) "_stood" = some none) (n3 : PySem.W.findIn K (.ref C) "_touched" = some none) (n4 : PySem.W.findIn K (.ref C) "_worths" = some none)
    {f0 : Addr} {od0 an0 : Option Addr} {sl0 : Array (Option Value)} {oc0 kV0 dc0 pm0 cd0 ct0 : Value} (at0 : PySem.W.findIn K (.ref C) "__init__" = some (some (.ref f0))) (i0 : PySem.W.isFn K (.ref f0) = true) (l0 : K.lookup f0 = some ⟨oc0, od0, .func (PySem.W.fnOf "__init__" "Shelf.__init__" (defArgs st_m___init__) (defBody st_m___init__) (defScope st_m___init__) .none kV0 dc0 pm0 an0 cd0 ct0), sl0⟩) (c0 : PySem.W.codeIn K cd0 "Shelf.__init__" = true) (k0 : PySem.W.keepIn K (.ref f0) = true)
    {f1 : Addr} {od1 an1 : Option Addr} {sl1 : Array (Option Value)} {oc1 kV1 dc1 pm1 cd1 ct1 : Value} (at1 : PySem.W.findIn K (.ref C) "_book_touched" = some (some (.ref f1))) (i1 : PySem.W.isFn K (.ref f1) = true) (l1 : K.lookup f1 = some ⟨oc1, od1, .func (PySem.W.fnOf "_book_touched" "Shelf._book_touched" (defArgs st_m__book_touched) (defBody st_m__book_touched) (defScope st_m__book_touched) .none kV1 dc1 pm1 an1 cd1 ct1), sl1⟩) (c1 : PySem.W.codeIn K cd1 "Shelf._book_touched" = true) (k1 : PySem.W.keepIn K (.ref f1) = true)
    {f2 : Addr} {od2 an2 : Option Addr} {sl2 : Array (Option Value)} {oc2 kV2 dc2 pm2 cd2 ct2 : Value} (at2 : PySem.W.findIn K (.ref C) "read" = some (some (.ref f2))) (i2 : PySem.W.isFn K (.ref f2) = true) (l2 : K.lookup f2 = some ⟨oc2, od2, .func (PySem.W.fnOf "read" "Shelf.read" (defArgs st_m_read) (defBody st_m_read) (defScope st_m_read) .none kV2 dc2 pm2 an2 cd2 ct2), sl2⟩) (c2 : PySem.W.codeIn K cd2 "Shelf.read" = true) (k2 : PySem.W.keepIn K (.ref f2) = true)
    {f3 : Addr} {od3 an3 : Option Addr} {sl3 : Array (Option Value)} {oc3 kV3 dc3 pm3 cd3 ct3 : Value} (at3 : PySem.W.findIn K (.ref C) "touch" = some (some (.ref f3))) (i3 : PySem.W.isFn K (.ref f3) = true) (l3 : K.lookup f3 = some ⟨oc3, od3, .func (PySem.W.fnOf "touch" "Shelf.touch" (defArgs st_m_touch) (defBody st_m_touch) (defScope st_m_touch) .none kV3 dc3 pm3 an3 cd3 ct3), sl3⟩) (c3 : PySem.W.codeIn K cd3 "Shelf.touch" = true) (k3 : PySem.W.keepIn K (.ref f3) = true)
    {f4 : Addr} {od4 an4 : Option Addr} {sl4 : Array (Option Value)} {oc4 kV4 dc4 pm4 cd4 ct4 : Value} (at4 : PySem.W.findIn K (.ref C) "write" = some (some (.ref f4))) (i4 : PySem.W.isFn K (.ref f4) = true) (l4 : K.lookup f4 = some ⟨oc4, od4, .func (PySem.W.fnOf "write" "Shelf.write" (defArgs st_m_write) (defBody st_m_write) (defScope st_m_write) .none kV4 dc4 pm4 an4 cd4 ct4), sl4⟩) (c4 : PySem.W.codeIn K cd4 "Shelf.write" = true) (k4 : PySem.W.keepIn K (.ref f4) = true)
    {f5 : Addr} {od5 an5 : Option Addr} {sl5 : Array (Option Value)} {oc5 kV5 dc5 pm5 cd5 ct5 : Value} (at5 : PySem.W.findIn K (.ref C) "fetch" = some (some (.ref f5))) (i5 : PySem.W.isFn K (.ref f5) = true) (l5 : K.lookup f5 = some ⟨oc5, od5, .func (PySem.W.fnOf "fetch" "Shelf.fetch" (defArgs st_m_fetch) (defBody st_m_fetch) (defScope st_m_fetch) .none kV5 dc5 pm5 an5 cd5 ct5), sl5⟩) (c5 : PySem.W.codeIn K cd5 "Shelf.fetch" = true) (k5 : PySem.W.keepIn K (.ref f5) = true)
    {f6 : Addr} {od6 an6 : Option Addr} {sl6 : Array (Option Value)} {oc6 kV6 dc6 pm6 cd6 ct6 : Value} (at6 : PySem.W.findIn K (.ref C) "put" = some (some (.ref f6))) (i6 : PySem.W.isFn K (.ref f6) = true) (l6 : K.lookup f6 = some ⟨oc6, od6, .func (PySem.W.fnOf "put" "Shelf.put" (defArgs st_m_put) (defBody st_m_put) (defScope st_m_put) .none kV6 dc6 pm6 an6 cd6 ct6), sl6⟩) (c6 : PySem.W.codeIn K cd6 "Shelf.put" = true) (k6 : PySem.W.keepIn K (.ref f6) = true)
    {f20 a20 : Addr} {r20 : List Value} {od20 an20 : Option Addr} {sl20 : Array (Option Value)} {oc20 kV20 dc20 pm20 cd20 ct20 : Value} (at20 : PySem.W.findIn K (.ref C) "layout" = some (some (.ref a20))) (g20 : PySem.W.specialIn K (.ref a20) "__get__" = some (some (.builtin "property.__get__"))) (t20 : PySem.W.takesIn K (.ref a20) = some true) (q20 : PySem.W.recIn K a20 "property" = some (.ref f20 :: r20)) (l20 : K.lookup f20 = some ⟨oc20, od20, .func (PySem.W.fnOf "layout" "Shelf.layout" (defArgs st_m_layout) (defBody st_m_layout) (defScope st_m_layout) .none kV20 dc20 pm20 an20 cd20 ct20), sl20⟩) (c20 : PySem.W.codeIn K cd20 "Shelf.layout" = true) (k20 : PySem.W.keepIn K (.ref f20) = true)
    {f21 a21 : Addr} {r21 : List Value} {od21 an21 : Option Addr} {sl21 : Array (Option Value)} {oc21 kV21 dc21 pm21 cd21 ct21 : Value} (at21 : PySem.W.findIn K (.ref C) "path" = some (some (.ref a21))) (g21 : PySem.W.specialIn K (.ref a21) "__get__" = some (some (.builtin "property.__get__"))) (t21 : PySem.W.takesIn K (.ref a21) = some true) (q21 : PySem.W.recIn K a21 "property" = some (.ref f21 :: r21)) (l21 : K.lookup f21 = some ⟨oc21, od21, .func (PySem.W.fnOf "path" "Shelf.path" (defArgs st_m_path) (defBody st_m_path) (defScope st_m_path) .none kV21 dc21 pm21 an21 cd21 ct21), sl21⟩) (c21 : PySem.W.codeIn K cd21 "Shelf.path" = true) (k21 : PySem.W.keepIn K (.ref f21) = true)
    {f22 a22 : Addr} {r22 : List Value} {od22 an22 : Option Addr} {sl22 : Array (Option Value)} {oc22 kV22 dc22 pm22 cd22 ct22 : Value} (at22 : PySem.W.findIn K (.ref C) "held" = some (some (.ref a22))) (g22 : PySem.W.specialIn K (.ref a22) "__get__" = some (some (.builtin "property.__get__"))) (t22 : PySem.W.takesIn K (.ref a22) = some true) (q22 : PySem.W.recIn K a22 "property" = some (.ref f22 :: r22)) (l22 : K.lookup f22 = some ⟨oc22, od22, .func (PySem.W.fnOf "held" "Shelf.held" (defArgs st_m_held) (defBody st_m_held) (defScope st_m_held) .none kV22 dc22 pm22 an22 cd22 ct22), sl22⟩) (c22 : PySem.W.codeIn K cd22 "Shelf.held" = true) (k22 : PySem.W.keepIn K (.ref f22) = true)
    : ∃ C, ShC K mg C ∧ DfI K C "Shelf.__init__" st_m___init__ ["self", "habit", "layout"] ∧ DfM K C "_book_touched" "Shelf._book_touched" st_m__book_touched ["self", "place"] ∧ DfM K C "read" "Shelf.read" st_m_read ["self", "place"] ∧ DfM K C "touch" "Shelf.touch" st_m_touch ["self", "place"] ∧ DfM K C "write" "Shelf.write" st_m_write ["self", "place", "value"] ∧ DfM K C "fetch" "Shelf.fetch" st_m_fetch ["self", "name"] ∧ DfM K C "put" "Shelf.put" st_m_put ["self", "name", "value"] ∧ DfP K C "layout" "Shelf.layout" st_m_layout ∧ DfP K C "path" "Shelf.path" st_m_path ∧ DfP K C "held" "Shelf.held" st_m_held := by
  have F0 := fun_mk (st := st_m___init__) l0 c0 k0
  have F1 := fun_mk (st := st_m__book_touched) l1 c1 k1
  have F2 := fun_mk (st := st_m_read) l2 c2 k2
  have F3 := fun_mk (st := st_m_touch) l3 c3 k3
  have F4 := fun_mk (st := st_m_write) l4 c4 k4
  have F5 := fun_mk (st := st_m_fetch) l5 c5 k5
  have F6 := fun_mk (st := st_m_put) l6 c6 k6
  have F20 := fun_mk (st := st_m_layout) l20 c20 k20
  have F21 := fun_mk (st := st_m_path) l21 c21 k21
  have F22 := fun_mk (st := st_m_held) l22 c22 k22
  exact ⟨C, ⟨⟨pg, hd, po, sa⟩, n1, n2, n3, n4, PySem.W.mg_of X G aC⟩, ⟨f0, _, F0, ⟨mk, at0, i0, kc⟩, F0.binds (fun _ _ _ _ _ _ us hl => match us, hl with | [_, _, _], _ => rfl)⟩, ⟨f1, _, F1, ⟨at1, i1, k1⟩, F1.binds (fun _ _ _ _ _ _ us hl => match us, hl with | [_, _], _ => rfl)⟩, ⟨f2, _, F2, ⟨at2, i2, k2⟩, F2.binds (fun _ _ _ _ _ _ us hl => match us, hl with | [_, _], _ => rfl)⟩, ⟨f3, _, F3, ⟨at3, i3, k3⟩, F3.binds (fun _ _ _ _ _ _ us hl => match us, hl with | [_, _], _ => rfl)⟩, ⟨f4, _, F4, ⟨at4, i4, k4⟩, F4.binds (fun _ _ _ _ _ _ us hl => match us, hl with | [_, _, _], _ => rfl)⟩, ⟨f5, _, F5, ⟨at5, i5, k5⟩, F5.binds (fun _ _ _ _ _ _ us hl => match us, hl with | [_, _], _ => rfl)⟩, ⟨f6, _, F6, ⟨at6, i6, k6⟩, F6.binds (fun _ _ _ _ _ _ us hl => match us, hl with | [_, _, _], _ => rfl)⟩, ⟨a20, f20, _, F20, ⟨at20, g20, t20, ⟨_, q20⟩⟩, F20.binds (fun _ _ _ _ _ _ us hl => match us, hl with | [_], _ => rfl)⟩, ⟨a21, f21, _, F21, ⟨at21, g21, t21, ⟨_, q21⟩⟩, F21.binds (fun _ _ _ _ _ _ us hl => match us, hl with | [_], _ => rfl)⟩, ⟨a22, f22, _, F22, ⟨at22, g22, t22, ⟨_, q22⟩⟩, F22.binds (fun _ _ _ _ _ _ us hl => match us, hl with | [_], _ => rfl)⟩⟩
/-- the errors, as the top has left them -/
theorem errs_mk {K : PySem.W.Frag} {h : Heap} {mg : Str → Option Value} (X : K.In h) (G : h.Ns mainGlobals mg) {S c0 c1 c2 c3 c4 : Addr} (aS : PySem.W.nsIn K mainGlobals "ShelfError" = some (some (.ref S)))
    (a0 : PySem.W.nsIn K mainGlobals "BadHabit" = some (some (.ref c0)))
    (a1 : PySem.W.nsIn K mainGlobals "BadLayout" = some (some (.ref c1)))
    (a2 : PySem.W.nsIn K mainGlobals "BadPlace" = some (some (.ref c2)))
    (a3 : PySem.W.nsIn K mainGlobals "BadNames" = some (some (.ref c3)))
    (a4 : PySem.W.nsIn K mainGlobals "BadNumber" = some (some (.ref c4)))
    (q2 : PySem.W.excIn K c2 [.type "ValueError", .type "Exception", .type "BaseException", .type "object"] "ValueError.__new__" = true) (kp2 : PySem.W.keepIn K (.ref c2) = true) (b2 : PySem.W.subIn K (.ref c2) (.type "BaseException") = some true) (t2 : PySem.W.typeIn K (.ref c2) = some (.type "type"))
    (xg2 : PySem.W.findIn K (.ref c2) "__getattribute__" = some (some (.builtin "BaseException.__getattribute__"))) (xk2 : PySem.W.findIn K (.ref c2) "__getattr__" = some none) (xd2 : PySem.W.hasDictIn K c2 = true) (xa2 : PySem.W.findIn K (.ref c2) "__class__" = some (some (.builtin "object.__class__"))) (xm2 : PySem.W.mroIn K c2 (.type "object") = some true) (es2 : PySem.W.exmOne K (.ref c2) (.ref S) = some true)
    (o20 : PySem.W.kitOne K (.ref c2) (.ref c0) = some false)
    (o21 : PySem.W.kitOne K (.ref c2) (.ref c1) = some false)
    (o22 : PySem.W.kitOne K (.ref c2) (.ref c2) = some true)
    (o23 : PySem.W.kitOne K (.ref c2) (.ref c3) = some false)
    (o24 : PySem.W.kitOne K (.ref c2) (.ref c4) = some false)
    (q3 : PySem.W.excIn K c3 [.type "ValueError", .type "Exception", .type "BaseException", .type "object"] "ValueError.__new__" = true) (kp3 : PySem.W.keepIn K (.ref c3) = true) (b3 : PySem.W.subIn K (.ref c3) (.type "BaseException") = some true) (t3 : PySem.W.typeIn K (.ref c3) = some (.type "type"))
    (xg3 : PySem.W.findIn K (.ref c3) "__getattribute__" = some (some (.builtin "BaseException.__getattribute__"))) (xk3 : PySem.W.findIn K (.ref c3) "__getattr__" = some none) (xd3 : PySem.W.hasDictIn K c3 = true) (xa3 : PySem.W.findIn K (.ref c3) "__class__" = some (some (.builtin "object.__class__"))) (xm3 : PySem.W.mroIn K c3 (.type "object") = some true) (es3 : PySem.W.exmOne K (.ref c3) (.ref S) = some true)
    (o30 : PySem.W.kitOne K (.ref c3) (.ref c0) = some false)
    (o31 : PySem.W.kitOne K (.ref c3) (.ref c1) = some false)
    (o32 : PySem.W.kitOne K (.ref c3) (.ref c2) = some false)
    (o33 : PySem.W.kitOne K (.ref c3) (.ref c3) = some true)
    (o34 : PySem.W.kitOne K (.ref c3) (.ref c4) = some false)
    (q4 : PySem.W.excIn K c4 [.type "ValueError", .type "Exception", .type "BaseException", .type "object"] "ValueError.__new__" = true) (kp4 : PySem.W.keepIn K (.ref c4) = true) (b4 : PySem.W.subIn K (.ref c4) (.type "BaseException") = some true) (t4 : PySem.W.typeIn K (.ref c4) = some (.type "type"))
    (xg4 : PySem.W.findIn K (.ref c4) "__getattribute__" = some (some (.builtin "BaseException.__getattribute__"))) (xk4 : PySem.W.findIn K (.ref c4) "__getattr__" = some none) (xd4 : PySem.W.hasDictIn K c4 = true) (xa4 : PySem.W.findIn K (.ref c4) "__class__" = some (some (.builtin "object.__class__"))) (xm4 : PySem.W.mroIn K c4 (.type "object") = some true) (es4 : PySem.W.exmOne K (.ref c4) (.ref S) = some true)
    (o40 : PySem.W.kitOne K (.ref c4) (.ref c0) = some false)
    (o41 : PySem.W.kitOne K (.ref c4) (.ref c1) = some false)
    (o42 : PySem.W.kitOne K (.ref c4) (.ref c2) = some false)
    (o43 : PySem.W.kitOne K (.ref c4) (.ref c3) = some false)
    (o44 : PySem.W.kitOne K (.ref c4) (.ref c4) = some true)
    (xn : PySem.W.specialIn K (.builtin "object.__class__") "__get__" = some (some (.builtin "getset_descriptor.__get__"))) (xt : PySem.W.takesIn K (.builtin "object.__class__") = some true)
    : ∃ S c0 c1 c2 c3 c4, Five mg S c0 c1 c2 c3 c4 ∧ ExO K mg "BadPlace" c2 ∧ ExO K mg "BadNames" c3 ∧ ExO K mg "BadNumber" c4 ∧ Knd K mg c2 2 ∧ Knd K mg c3 3 ∧ Knd K mg c4 4 := by
  have mS := PySem.W.mg_of X G aS
  have m0 := PySem.W.mg_of X G a0
  have m1 := PySem.W.mg_of X G a1
  have m2 := PySem.W.mg_of X G a2
  have m3 := PySem.W.mg_of X G a3
  have m4 := PySem.W.mg_of X G a4
  exact ⟨S, c0, c1, c2, c3, c4, ⟨mS, m0, m1, m2, m3, m4⟩, ⟨q2, m2, kp2, b2, t2⟩, ⟨q3, m3, kp3, b3, t3⟩, ⟨q4, m4, kp4, b4, t4⟩,
    ⟨.inl rfl, ⟨xg2, xk2, b2, xd2, xa2, xn, xt, xm2⟩, ⟨S, mS, es2⟩, ⟨c0, m0, o20⟩, ⟨c1, m1, o21⟩, ⟨c2, m2, o22⟩, ⟨c3, m3, o23⟩, ⟨c4, m4, o24⟩⟩,
    ⟨.inr (.inl rfl), ⟨xg3, xk3, b3, xd3, xa3, xn, xt, xm3⟩, ⟨S, mS, es3⟩, ⟨c0, m0, o30⟩, ⟨c1, m1, o31⟩, ⟨c2, m2, o32⟩, ⟨c3, m3, o33⟩, ⟨c4, m4, o34⟩⟩,
    ⟨.inr (.inr rfl), ⟨xg4, xk4, b4, xd4, xa4, xn, xt, xm4⟩, ⟨S, mS, es4⟩, ⟨c0, m0, o40⟩, ⟨c1, m1, o41⟩, ⟨c2, m2, o42⟩, ⟨c3, m3, o43⟩, ⟨c4, m4, o44⟩⟩⟩
theorem top {P : Program} {w : World} {K : PySem.W.Frag} {mg : Str → Option Value} {fa : Addr} (hfa : mg "law" = some (.ref fa)) (B : Bu mg) (c2' : ∃ t, mg "FEWEST_PLACES" = some (.int 2 t)) (c5' : ∃ t, mg "MOST_PLACES" = some (.int 5 t))
    {k1 p1 : Addr}
    {C S c0 c1 c2 c3 c4 : Addr} (T : ShC K mg C) (FI : DfI K C "Shelf.__init__" st_m___init__ ["self", "habit", "layout"])
    (M__book_touched : DfM K C "_book_touched" "Shelf._book_touched" st_m__book_touched ["self", "place"])
    (M_read : DfM K C "read" "Shelf.read" st_m_read ["self", "place"])
    (M_touch : DfM K C "touch" "Shelf.touch" st_m_touch ["self", "place"])
    (M_write : DfM K C "write" "Shelf.write" st_m_write ["self", "place", "value"])
    (M_fetch : DfM K C "fetch" "Shelf.fetch" st_m_fetch ["self", "name"])
    (M_put : DfM K C "put" "Shelf.put" st_m_put ["self", "name", "value"])
    (P_layout : DfP K C "layout" "Shelf.layout" st_m_layout)
    (P_path : DfP K C "path" "Shelf.path" st_m_path)
    (P_held : DfP K C "held" "Shelf.held" st_m_held)
    (Fv : Five mg S c0 c1 c2 c3 c4) (Xp : ExO K mg "BadPlace" c2) (Xm : ExO K mg "BadNames" c3) (Xn : ExO K mg "BadNumber" c4) (Kp : Knd K mg c2 2) (Km : Knd K mg c3 3) (Kn : Knd K mg c4 4)
    (F_is_integer : Df K mg "is_integer" st_is_integer ["value"])
    (F_is_number : Df K mg "is_number" st_is_number ["value", "low", "high"])
    (F_is_row : Df K mg "is_row" st_is_row ["value", "low", "high"])
    (F_is_place : Df K mg "is_place" st_is_place ["value", "places"])
    (F_are_places : Df K mg "are_places" st_are_places ["value", "places"])
    (F_is_layout : Df K mg "is_layout" st_is_layout ["value", "places"])
    (F_check_integer : Df K mg "check_integer" st_check_integer ["value"])
    (F_check_habit : Df K mg "check_habit" st_check_habit ["habit"])
    (F_check_layout : Df K mg "check_layout" st_check_layout ["layout", "places"])
    (F_check_place : Df K mg "check_place" st_check_place ["place", "places"])
    (F_check_name : Df K mg "check_name" st_check_name ["name", "places"])
    (F_move : Df K mg "move" st_move ["habit", "layout", "place"])
    (F__law_taken : Df K mg "_law_taken" st__law_taken ["row", "many"])
    (F__law_order : Df K mg "_law_order" st__law_order ["row", "many"])
    (F__law_habit : Df K mg "_law_habit" st__law_habit ["row", "places"])
    (F__law_touch : Df K mg "_law_touch" st__law_touch ["habit", "layout", "place"])
    (F__law_alike : Df K mg "_law_alike" st__law_alike ["found", "due"])
    (F__law_pick : Df K mg "_law_pick" st__law_pick ["row", "things"])
    (F__law_works : DfC K mg "_law_works" st__law_works ["one", "other", "third"] k1)
    (F__law_refused : Df K mg "_law_refused" st__law_refused ["work"])
    (F_law : Df K mg "law" st_law ["script"])
    : ∃ fd : FuncData, (∀ (s : Shared) (v : Value), BindsTo s fd ⟨[v], []⟩ [("script", v)]) ∧ ∀ base : Heap, TabB base mg k1 p1 → FnOk P w K mg base CX0 9 fa fd ["script"] (spEnd K (tabsW p1)) := by
  obtain ⟨f, fd, F, g, b⟩ := F_law.ex
  have e := hfa.symm.trans g
  cases e
  refine ⟨fd, fun s v => ?_, fun base T1 => ?_⟩
  · obtain ⟨oc, od, kV, doc, pm, an, cdv, ct, osl, rfl, _⟩ := F.ex
    exact .of_eq rfl
  · have C1 := ok_is_integer (P := P) (w := w) (base := base) F_is_integer B
    have C2 := ok_is_number F_is_number C1
    have CRw := ok_is_row (P := P) (w := w) (K := K) (base := base) F_is_row B
    have C3 := ok_is_place F_is_place C2
    have C4 := ok_are_places (K := K) F_are_places B C3
    have C5 := ok_is_layout F_is_layout B C4
    have CH := ok_check_habit F_check_habit B c2' c5' CRw C5
    have CL := ok_check_layout F_check_layout C5
    have CM := ok_move (P := P) (w := w) (K := K) (base := base) F_move B
    have C1W := ok_is_integerW (P := P) (w := w) (K := K) (base := base) F_is_integer B
    have C3W := ok_is_placeW F_is_place (ok_is_numberW F_is_number C1W)
    have CI := ok_check_integerX F_check_integer Xn C1W
    have CP := ok_check_placeX F_check_place Xp C3W
    have CN := ok_check_nameX F_check_name Xm C3W
    have MB := ok_book_touched M__book_touched T CM
    have MR := ok_read M_read B T CP MB
    have MT := ok_touch M_touch B T CP MB
    have MW := ok_write M_write B T CP CI MB
    have MF := ok_fetch M_fetch B T CN MR
    have MP := ok_put M_put B T CN MW
    have CT := ok_taken (P := P) (w := w) (K := K) (base := base) F__law_taken B
    have COd := ok_order F__law_order B CT
    exact frozen (ok_law F B T CT (ok_pick F__law_pick B CT) COd (ok_habit F__law_habit B CT COd) (ok_ltouch F__law_touch B) (ok_alikeS 1 F__law_alike B (ok_alikeS 0 F__law_alike B (ok_alike0 F__law_alike B))) (ok_init FI B T CH CL) MR MT MW MF MP (ok_layout P_layout T) (ok_path P_path B T) (ok_held P_held B T)
      (ok_works F__law_works T1) (ok_refused F__law_refused B Fv) Kp Km Kn)
end RH
set_option Elab.async false
set_option linter.all false
open PySem PySem.W PyProof.Rows
set_option maxRecDepth 100000 in
set_option maxHeartbeats 0 in
theorem PySem.Challenge.cw_restlesshelf_k20_whole_benches_holds : PySem.Challenge.rw_restlesshelf_k20_whole_benches.Holds := by
  w_on; o_law; k_head; (case hw => w_witness2)
  k_fill
  refine LamX.walk_ofTs (l := PySem.Challenge.rw_restlesshelf_k20_whole_benches) (n := 63) (k := 9) (x := "script") (CX := fun _ => L2.CX0) rfl (by decide) rfl ⟨rfl, by decide, by decide⟩ (fun w h Y => PySem.W.km_in_of Y) ?F (fun _ _ _ _ _ h => h)
  case F =>
    intro w mg fa h Y KX G hmg
    have TT := PySem.W.km_tabs_of Y
    have B : RH.Bu mg := by
      refine' RH.Bu.mk (PySem.W.mg_none_of KX G ?z0) (PySem.W.mg_none_of KX G ?z1) (PySem.W.mg_none_of KX G ?z2) (PySem.W.mg_none_of KX G ?z3) (PySem.W.mg_none_of KX G ?z4) (PySem.W.mg_none_of KX G ?z5) (PySem.W.mg_none_of KX G ?z6) (PySem.W.mg_none_of KX G ?z7) (PySem.W.mg_none_of KX G ?z8) (PySem.W.mg_none_of KX G ?z9) (PySem.W.mg_none_of KX G ?z10) (PySem.W.mg_none_of KX G ?z11) (PySem.W.mg_none_of KX G ?z12)
      (case z0 => k_is); (case z1 => k_is); (case z2 => k_is); (case z3 => k_is); (case z4 => k_is); (case z5 => k_is); (case z6 => k_is); (case z7 => k_is); (case z8 => k_is); (case z9 => k_is); (case z10 => k_is); (case z11 => k_is); (case z12 => k_is)
    have c_FEWEST_PLACES : ∃ t, mg "FEWEST_PLACES" = some (.int 2 t) := by
      refine' RH.const_mk KX G ?a
      (case a => k_is)
    have c_MOST_PLACES : ∃ t, mg "MOST_PLACES" = some (.int 5 t) := by
      refine' RH.const_mk KX G ?a
      (case a => k_is)
    have F_is_integer : RH.Df (RH.kOf KX) mg "is_integer" RH.st_is_integer ["value"] := by
      refine' RH.df_mk KX G ?a ?l ?c ?k (fun _ _ _ _ _ _ us hl => match us, hl with | [_], _ => rfl)
      (case a => k_is); (case l => k_is); (case c => k_is); (case k => k_is)
    have F_is_number : RH.Df (RH.kOf KX) mg "is_number" RH.st_is_number ["value", "low", "high"] := by
      refine' RH.df_mk KX G ?a ?l ?c ?k (fun _ _ _ _ _ _ us hl => match us, hl with | [_, _, _], _ => rfl)
      (case a => k_is); (case l => k_is); (case c => k_is); (case k => k_is)
    have F_is_row : RH.Df (RH.kOf KX) mg "is_row" RH.st_is_row ["value", "low", "high"] := by
      refine' RH.df_mk KX G ?a ?l ?c ?k (fun _ _ _ _ _ _ us hl => match us, hl with | [_, _, _], _ => rfl)
      (case a => k_is); (case l => k_is); (case c => k_is); (case k => k_is)
    have F_is_place : RH.Df (RH.kOf KX) mg "is_place" RH.st_is_place ["value", "places"] := by
      refine' RH.df_mk KX G ?a ?l ?c ?k (fun _ _ _ _ _ _ us hl => match us, hl with | [_, _], _ => rfl)
      (case a => k_is); (case l => k_is); (case c => k_is); (case k => k_is)
    have F_are_places : RH.Df (RH.kOf KX) mg "are_places" RH.st_are_places ["value", "places"] := by
      refine' RH.df_mk KX G ?a ?l ?c ?k (fun _ _ _ _ _ _ us hl => match us, hl with | [_, _], _ => rfl)
      (case a => k_is); (case l => k_is); (case c => k_is); (case k => k_is)
    have F_is_layout : RH.Df (RH.kOf KX) mg "is_layout" RH.st_is_layout ["value", "places"] := by
      refine' RH.df_mk KX G ?a ?l ?c ?k (fun _ _ _ _ _ _ us hl => match us, hl with | [_, _], _ => rfl)
      (case a => k_is); (case l => k_is); (case c => k_is); (case k => k_is)
    have F_check_integer : RH.Df (RH.kOf KX) mg "check_integer" RH.st_check_integer ["value"] := by
      refine' RH.df_mk KX G ?a ?l ?c ?k (fun _ _ _ _ _ _ us hl => match us, hl with | [_], _ => rfl)
      (case a => k_is); (case l => k_is); (case c => k_is); (case k => k_is)
    have F_check_habit : RH.Df (RH.kOf KX) mg "check_habit" RH.st_check_habit ["habit"] := by
      refine' RH.df_mk KX G ?a ?l ?c ?k (fun _ _ _ _ _ _ us hl => match us, hl with | [_], _ => rfl)
      (case a => k_is); (case l => k_is); (case c => k_is); (case k => k_is)
    have F_check_layout : RH.Df (RH.kOf KX) mg "check_layout" RH.st_check_layout ["layout", "places"] := by
      refine' RH.df_mk KX G ?a ?l ?c ?k (fun _ _ _ _ _ _ us hl => match us, hl with | [_, _], _ => rfl)
      (case a => k_is); (case l => k_is); (case c => k_is); (case k => k_is)
    have F_check_place : RH.Df (RH.kOf KX) mg "check_place" RH.st_check_place ["place", "places"] := by
      refine' RH.df_mk KX G ?a ?l ?c ?k (fun _ _ _ _ _ _ us hl => match us, hl with | [_, _], _ => rfl)
      (case a => k_is); (case l => k_is); (case c => k_is); (case k => k_is)
    have F_check_name : RH.Df (RH.kOf KX) mg "check_name" RH.st_check_name ["name", "places"] := by
      refine' RH.df_mk KX G ?a ?l ?c ?k (fun _ _ _ _ _ _ us hl => match us, hl with | [_, _], _ => rfl)
      (case a => k_is); (case l => k_is); (case c => k_is); (case k => k_is)
    have F_move : RH.Df (RH.kOf KX) mg "move" RH.st_move ["habit", "layout", "place"] := by
      refine' RH.df_mk KX G ?a ?l ?c ?k (fun _ _ _ _ _ _ us hl => match us, hl with | [_, _, _], _ => rfl)
      (case a => k_is); (case l => k_is); (case c => k_is); (case k => k_is)
    have F__law_taken : RH.Df (RH.kOf KX) mg "_law_taken" RH.st__law_taken ["row", "many"] := by
      refine' RH.df_mk KX G ?a ?l ?c ?k (fun _ _ _ _ _ _ us hl => match us, hl with | [_, _], _ => rfl)
      (case a => k_is); (case l => k_is); (case c => k_is); (case k => k_is)
    have F__law_order : RH.Df (RH.kOf KX) mg "_law_order" RH.st__law_order ["row", "many"] := by
      refine' RH.df_mk KX G ?a ?l ?c ?k (fun _ _ _ _ _ _ us hl => match us, hl with | [_, _], _ => rfl)
      (case a => k_is); (case l => k_is); (case c => k_is); (case k => k_is)
    have F__law_habit : RH.Df (RH.kOf KX) mg "_law_habit" RH.st__law_habit ["row", "places"] := by
      refine' RH.df_mk KX G ?a ?l ?c ?k (fun _ _ _ _ _ _ us hl => match us, hl with | [_, _], _ => rfl)
      (case a => k_is); (case l => k_is); (case c => k_is); (case k => k_is)
    have F__law_touch : RH.Df (RH.kOf KX) mg "_law_touch" RH.st__law_touch ["habit", "layout", "place"] := by
      refine' RH.df_mk KX G ?a ?l ?c ?k (fun _ _ _ _ _ _ us hl => match us, hl with | [_, _, _], _ => rfl)
      (case a => k_is); (case l => k_is); (case c => k_is); (case k => k_is)
    have F__law_alike : RH.Df (RH.kOf KX) mg "_law_alike" RH.st__law_alike ["found", "due"] := by
      refine' RH.df_mk KX G ?a ?l ?c ?k (fun _ _ _ _ _ _ us hl => match us, hl with | [_, _], _ => rfl)
      (case a => k_is); (case l => k_is); (case c => k_is); (case k => k_is)
    have F__law_pick : RH.Df (RH.kOf KX) mg "_law_pick" RH.st__law_pick ["row", "things"] := by
      refine' RH.df_mk KX G ?a ?l ?c ?k (fun _ _ _ _ _ _ us hl => match us, hl with | [_, _], _ => rfl)
      (case a => k_is); (case l => k_is); (case c => k_is); (case k => k_is)
    have F__law_refused : RH.Df (RH.kOf KX) mg "_law_refused" RH.st__law_refused ["work"] := by
      refine' RH.df_mk KX G ?a ?l ?c ?k (fun _ _ _ _ _ _ us hl => match us, hl with | [_], _ => rfl)
      (case a => k_is); (case l => k_is); (case c => k_is); (case k => k_is)
    have F_law : RH.Df (RH.kOf KX) mg "law" RH.st_law ["script"] := by
      refine' RH.df_mk KX G ?a ?l ?c ?k (fun _ _ _ _ _ _ us hl => match us, hl with | [_], _ => rfl)
      (case a => k_is); (case l => k_is); (case c => k_is); (case k => k_is)
    obtain ⟨C, T, FI, M__book_touched, M_read, M_touch, M_write, M_fetch, M_put, P_layout, P_path, P_held⟩ : ∃ C, RH.ShC (RH.kOf KX) mg C ∧ RH.DfI (RH.kOf KX) C "Shelf.__init__" RH.st_m___init__ ["self", "habit", "layout"] ∧ RH.DfM (RH.kOf KX) C "_book_touched" "Shelf._book_touched" RH.st_m__book_touched ["self", "place"] ∧ RH.DfM (RH.kOf KX) C "read" "Shelf.read" RH.st_m_read ["self", "place"] ∧ RH.DfM (RH.kOf KX) C "touch" "Shelf.touch" RH.st_m_touch ["self", "place"] ∧ RH.DfM (RH.kOf KX) C "write" "Shelf.write" RH.st_m_write ["self", "place", "value"] ∧ RH.DfM (RH.kOf KX) C "fetch" "Shelf.fetch" RH.st_m_fetch ["self", "name"] ∧ RH.DfM (RH.kOf KX) C "put" "Shelf.put" RH.st_m_put ["self", "name", "value"] ∧ RH.DfP (RH.kOf KX) C "layout" "Shelf.layout" RH.st_m_layout ∧ RH.DfP (RH.kOf KX) C "path" "Shelf.path" RH.st_m_path ∧ RH.DfP (RH.kOf KX) C "held" "Shelf.held" RH.st_m_held := by
      refine' Exists.elim (RH.shelf_mk KX G ?aC ?pg ?hd ?po ?sa ?mk ?kc ?n1 ?n2 ?n3 ?n4 ?at0 ?i0 ?l0 ?c0 ?k0 ?at1 ?i1 ?l1 ?c1 ?k1 ?at2 ?i2 ?l2 ?c2 ?k2 ?at3 ?i3 ?l3 ?c3 ?k3 ?at4 ?i4 ?l4 ?c4 ?k4 ?at5 ?i5 ?l5 ?c5 ?k5 ?at6 ?i6 ?l6 ?c6 ?k6 ?at20 ?g20 ?t20 ?q20 ?l20 ?c20 ?k20 ?at21 ?g21 ?t21 ?q21 ?l21 ?c21 ?k21 ?at22 ?g22 ?t22 ?q22 ?l22 ?c22 ?k22) (fun C hC => ⟨C, hC⟩)
      (case aC => k_is); (case pg => k_is); (case hd => k_is); (case po => k_is); (case sa => k_is); (case mk => k_is); (case kc => k_is); (case n1 => k_is)
      (case n2 => k_is); (case n3 => k_is); (case n4 => k_is); (case at0 => k_is); (case i0 => k_is); (case l0 => k_is); (case c0 => k_is); (case k0 => k_is)
      (case at1 => k_is); (case i1 => k_is); (case l1 => k_is); (case c1 => k_is); (case k1 => k_is); (case at2 => k_is); (case i2 => k_is); (case l2 => k_is)
      (case c2 => k_is); (case k2 => k_is); (case at3 => k_is); (case i3 => k_is); (case l3 => k_is); (case c3 => k_is); (case k3 => k_is); (case at4 => k_is)
      (case i4 => k_is); (case l4 => k_is); (case c4 => k_is); (case k4 => k_is); (case at5 => k_is); (case i5 => k_is); (case l5 => k_is); (case c5 => k_is)
      (case k5 => k_is); (case at6 => k_is); (case i6 => k_is); (case l6 => k_is); (case c6 => k_is); (case k6 => k_is); (case at20 => k_is); (case g20 => k_is)
      (case t20 => k_is); (case q20 => k_is); (case l20 => k_is); (case c20 => k_is); (case k20 => k_is); (case at21 => k_is); (case g21 => k_is); (case t21 => k_is)
      (case q21 => k_is); (case l21 => k_is); (case c21 => k_is); (case k21 => k_is); (case at22 => k_is); (case g22 => k_is); (case t22 => k_is); (case q22 => k_is)
      (case l22 => k_is); (case c22 => k_is); (case k22 => k_is)
    obtain ⟨S, c0, c1, c2, c3, c4, Fv, Xp, Xm, Xn, Kp, Km, Kn⟩ : ∃ S c0 c1 c2 c3 c4, RH.Five mg S c0 c1 c2 c3 c4 ∧ RH.ExO (RH.kOf KX) mg "BadPlace" c2 ∧ RH.ExO (RH.kOf KX) mg "BadNames" c3 ∧ RH.ExO (RH.kOf KX) mg "BadNumber" c4 ∧ RH.Knd (RH.kOf KX) mg c2 2 ∧ RH.Knd (RH.kOf KX) mg c3 3 ∧ RH.Knd (RH.kOf KX) mg c4 4 := by
      refine' Exists.elim (RH.errs_mk KX G ?aS ?a0 ?a1 ?a2 ?a3 ?a4 ?q2 ?kp2 ?b2 ?t2 ?xg2 ?xk2 ?xd2 ?xa2 ?xm2 ?es2 ?o20 ?o21 ?o22 ?o23 ?o24 ?q3 ?kp3 ?b3 ?t3 ?xg3 ?xk3 ?xd3 ?xa3 ?xm3 ?es3 ?o30 ?o31 ?o32 ?o33 ?o34 ?q4 ?kp4 ?b4 ?t4 ?xg4 ?xk4 ?xd4 ?xa4 ?xm4 ?es4 ?o40 ?o41 ?o42 ?o43 ?o44 ?xn ?xt) (fun C hC => ⟨C, hC⟩)
      (case aS => k_is); (case a0 => k_is); (case a1 => k_is); (case a2 => k_is); (case a3 => k_is); (case a4 => k_is); (case q2 => k_exc); (case kp2 => k_is)
      (case b2 => k_is); (case t2 => k_is); (case xg2 => k_is); (case xk2 => k_is); (case xd2 => k_is); (case xa2 => k_is); (case xm2 => k_is); (case es2 => kts_exm)
      (case o20 => kit_is); (case o21 => kit_is); (case o22 => kit_is); (case o23 => kit_is); (case o24 => kit_is); (case q3 => k_exc); (case kp3 => k_is); (case b3 => k_is)
      (case t3 => k_is); (case xg3 => k_is); (case xk3 => k_is); (case xd3 => k_is); (case xa3 => k_is); (case xm3 => k_is); (case es3 => kts_exm); (case o30 => kit_is)
      (case o31 => kit_is); (case o32 => kit_is); (case o33 => kit_is); (case o34 => kit_is); (case q4 => k_exc); (case kp4 => k_is); (case b4 => k_is); (case t4 => k_is)
      (case xg4 => k_is); (case xk4 => k_is); (case xd4 => k_is); (case xa4 => k_is); (case xm4 => k_is); (case es4 => kts_exm); (case o40 => kit_is); (case o41 => kit_is)
      (case o42 => kit_is); (case o43 => kit_is); (case o44 => kit_is); (case xn => k_is); (case xt => k_is)
    obtain ⟨k1, p1, M1⟩ : ∃ k1 p1, RH.Mkr (RH.kOf KX) h mg "_law_works" RH.st__law_works ["one", "other", "third"] k1 p1 := by
      refine' ⟨_, _, RH.mkr KX G ?a ?l ?c ?k ?lc ?t ?d ?e ?g (fun _ _ _ _ _ _ us hl => match us, hl with | [_, _, _], _ => rfl)⟩
      (case a => k_is); (case l => k_is); (case c => k_is); (case k => k_is); (case lc => k_is); (case t => rfl); (case e => first | rfl | kernel_rfl | (with_unfolding_all rfl)); (case g => exact TT _ (by decide)); (case d => exact fun K' e => by unfold PySem.W.codeHdIn; rw [e]; rfl)
    obtain ⟨F__law_works, hk1, hl1, hm1⟩ := M1
    obtain ⟨fd, hb, hF⟩ := RH.top (P := (PySem.Challenge.rw_restlesshelf_k20_whole_benches).prog) (w := w) hmg B c_FEWEST_PLACES c_MOST_PLACES T FI M__book_touched M_read M_touch M_write M_fetch M_put P_layout P_path P_held Fv Xp Xm Xn Kp Km Kn F_is_integer F_is_number F_is_row F_is_place F_are_places F_is_layout F_check_integer F_check_habit F_check_layout F_check_place F_check_name F_move F__law_taken F__law_order F__law_habit F__law_touch F__law_alike F__law_pick F__law_works F__law_refused F_law
    refine ⟨fd, [(k1, p1)], RH.spEnd (RH.kOf KX) (RH.tabsW p1), ?_, ?_, ?_, hb, ?_, ?_⟩
    · intro p hp
      rw [List.mem_singleton.mp hp]; exact hm1
    · intro p hp
      rw [List.mem_singleton.mp hp]; exact hl1
    · intro p hp
      rw [List.mem_singleton.mp hp]; exact hk1
    · intro H a ns _ _ hH hS
      refine ⟨a, ns, rfl, hS, fun p hp => ?_, fun _ => rfl⟩
      rw [List.mem_singleton.mp hp]; exact LamX.TabS.nil (hH (k1, p1) (List.mem_cons_self ..))
    · intro base _ _ TB
      exact hF base (TB (k1, p1) (List.mem_cons_self ..))
