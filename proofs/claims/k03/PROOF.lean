import PyProof.Rows.All
import Wide.All
import OpenK.AllK
import Wide.FinOn
import HandS.ForMost
import HandS.Exc
import HandS.TryOnly
import HandS.ExcOwn
import HandS.WordsExc
import HandS.IsInst
import HandS.Conv
import HandS.Sort
import HandS.SortInts
import HandS.Zip
import HandS.Zip0
import HandS.Wide
import HandS.Deep
import HandS.Flow
import HandS.Style
import HandS.TupAny
import KE.GoesEnum
import KE.KEqSeq
import KE.KEqDeep
import PyProof.TupleOfSeq
import HandS.Lambda
import HandS.Nested
import HandS.EndTab
import KE.KDictDisplayH
import KE.KDictCopyH
import KE.KIndexOf
import HandS.Dict
import HandS.DictTup
import HandS.TupLen
import PySem.Challenge.RW_restlesshelf_k03_known_shelves
set_option Elab.async false
set_option linter.all false
set_option maxRecDepth 100000
set_option maxHeartbeats 2000000
/-! Two rules more: a walk over enumerate of a tuple, sorted of a tuple of ints. -/
namespace RH
open PySem PySem.Spec PyProof.Rows L2
theorem made_enumB {v : Value} {o : Obj} {H : Heap → Prop} (B : Begins v o H) :
    Meets (Builtin.«enumerate.__new__» ⟨[.type "enumerate", v], []⟩) (fun _ R s => H s.heap ∧
      R (.ok (.ret (.ref (s.heap.push o).objs.size))) { s with heap := (s.heap.push o).push { cls := .type "enumerate", data := .fields #[.none, .bool false, .ref s.heap.objs.size, rawInt 0, .none, .none] } }) :=
  .of_wp fun prog w A R s h => by
    obtain ⟨hp, g, d, tz, oz⟩ := s; obtain ⟨h1, h⟩ := h
    have hsub := sub_enumerate
    have q1 : ∀ {A' : Around} {E : Value → Shared → Prop} {Q : Value → Shared → Prop}, Q (.ref hp.objs.size) ⟨hp.push o, g, d, tz, oz⟩ → wpAny (model prog w) A' (pyIter v) Q E ⟨hp, g, d, tz, oz⟩ :=
      fun q => B.iter prog w _ _ ⟨hp, g, d, tz, oz⟩ _ h1 q
    wp_walk using q1
    refine wpAny_stack_any fun st => wpAny_pure ?_
    split
    · rename_i c _ _ _ _ _
      cases (c == Value.type "enumerate")
      · wp_walk using q1
        exact ⟨_, rfl, h⟩
      · wp_walk using q1
        exact ⟨_, rfl, h⟩
    · wp_walk using q1
      exact ⟨_, rfl, h⟩
section
variable {prog : Program} {w : World} {A : Around} {E : Value → Shared → Prop} {s : Shared}
theorem enum_one {v : Value} {o : Obj} {H : Heap → Prop} {Q : Value → Shared → Prop} (B : Begins v o H) (h1 : H s.heap)
    (h : ∀ h', IsEnum h' (s.heap.objs.size + 1) s.heap.objs.size 0 .none → h'.get? s.heap.objs.size = some o → h'.objs.size = s.heap.objs.size + 2 →
      (∀ b o, s.heap.get? b = some o → h'.get? b = some o) → Q (.ref (s.heap.objs.size + 1)) { s with heap := h' }) :
    wpAny (model prog w) A (call (.type "enumerate") [v]) Q E s := by
  refine callType_new F.called_enumerate (by decide) (F.typeCall_enumerate_1 _) (F.newCall_enumerate_1 _) (fun obj => F.args_object_init_2 obj _) F.entry_enumerate_new
    (made_enumB B) ⟨h1, ?_⟩
  have hZ : (s.heap.push o).objs.size = s.heap.objs.size + 1 := Heap.size_push ..
  show _ ∧ _
  rw [hZ]
  have he : IsEnum ((s.heap.push o).push { cls := .type "enumerate", data := .fields #[.none, .bool false, .ref s.heap.objs.size, rawInt 0, .none, .none] }) (s.heap.objs.size + 1) s.heap.objs.size 0 .none := by
    have := Heap.get?_push_size (s.heap.push o) (o := { cls := .type "enumerate", data := .fields #[.none, .bool false, .ref s.heap.objs.size, rawInt 0, .none, .none] }) rfl
    rw [hZ] at this; exact this
  refine ⟨⟨_, he, rfl⟩, h _ he (Heap.get?_push_of_some _ (Heap.get?_push_size _ B.free)) (by rw [Heap.size_push, hZ]) fun b o x => Heap.get?_push_of_some _ (Heap.get?_push_of_some _ x)⟩
end
/-- the tuple at a, each item with vz number in a new pair -/
def IteT (K : PySem.W.Frag) (a : Addr) : It :=
  ⟨fun i H => ∃ (xs : List V) (x : V), SqT K H a xs ∧ xs[i]? = some x, fun i H v H' => ∃ T x, v = .ref T ∧ H T = none ∧ H' = upd H T (.tup [.int (i : Nat), x]) ∧ ∀ xs, SqT K H a xs → xs[i]? = some x, fun i H => ∃ xs : List V, SqT K H a xs ∧ xs.length ≤ i⟩
theorem ne_enum {h : Heap} {e it a : Addr} {i : Int} {old : Value} {vz : Array Value} (he : IsEnum h e it i old) (p : IsTup h a vz) : e ≠ a := fun z => by
  obtain ⟨o, hO, hC, _⟩ := p
  rw [← z, he] at hO
  cases hO
  exact absurd (Value.type.inj hC) (by decide)
theorem turn_enumT {P : Program} {w : World} {K : PySem.W.Frag} {elts : List Expr} {kk : Nat} {tpos : Pos} (a e it : Addr) :
    Turn P w K (.Tuple elts kk tpos) (IteT K a) [e, it] e (fun i h => (∃ old, IsEnum h e it ((i : Nat) : Int) old) ∧ h.IsTupleIter it a i ∧ e ≠ it ∧ a ≠ it) where
  mem := by simp
  obj := fun i h st b hb => by
    obtain ⟨⟨old, he⟩, ⟨o, hO, hC, hD⟩, _⟩ := st
    have e' : b = e ∨ b = it := by simpa using hb
    rcases e' with z | z
    · rw [z]; exact ⟨_, he, fun v q => nomatch q⟩
    · rw [z]; exact ⟨o, hO, fun v q => by rw [hD] at q; cases q⟩
  keep := fun i h h' st k => let ⟨⟨old, he⟩, hi, nEI⟩ := st; ⟨⟨old, k e (by simp) _ he⟩, hi.at fun o q => k it (by simp) o q, nEI⟩
  item := by
    intro X hP hw hK hC i pins s σ H E I hf st hg
    subst hP hw hK
    obtain ⟨⟨old, he⟩, hIt, nEI, nAI⟩ := st
    obtain ⟨xs, x, hSq, hx⟩ := hg
    obtain ⟨vz, rz, p, hZ⟩ := I.tuple hSq
    obtain ⟨u, hu, ru⟩ := rz.get hx
    have ltE : e < s.heap.objs.size := Heap.lt_size he
    have ltI : it < s.heap.objs.size := by obtain ⟨_, q, _⟩ := hIt; exact Heap.lt_size q
    have hlt : i < vz.toArray.size := by
      have := (List.getElem?_eq_some_iff.mp hu).1
      simpa using this
    refine wpAny_pyNext_enum_itemD (Draws.tuple (show X.A.in1.handled = none from I.ok.hd hC) it a nAI vz.toArray) he ⟨hIt, p⟩ hlt nEI (by
      intro hm
      have e' : e = it ∨ e = a := by simpa using hm
      rcases e' with z | z
      · exact nEI z
      · exact ne_enum he p z) fun x' h' tz hP' hO hit' hT hSz kp => ?_
    have ex : x' = u := by
      have h2 : vz.toArray[i]? = some u := by simpa using hu
      rw [h2] at hP'
      exact (Option.some.inj hP').symm
    subst ex
    refine ⟨_, rfl, wpAny_letOwnedTupleGo_enum (s := { s with heap := h', toks := tz + 1 }) hO fun h'' he' sbu => ?_⟩
    have hT2 : h''.get? s.heap.objs.size = some { cls := .type "tuple", data := .seq #[.int i tz, x'] } := (sbu.2 _ (Nat.ne_of_gt ltE)).trans hT
    have new : ObjOk X.prog X.w (upd H s.heap.objs.size (.tup [.int (i : Nat), x])) h'' s.heap.objs.size (.tup [.int (i : Nat), x]) :=
      ⟨by show 2 ≤ sizeLine; decide, [.int i tz, x'], .cons ⟨_, rfl⟩ (.cons ru .nil), ⟨_, hT2, rfl, _, rfl⟩⟩
    have I1 : Inv X pins σ (upd H s.heap.objs.size (.tup [.int (i : Nat), x])) { s with heap := h'', toks := tz + 1 } :=
      I.turnedNew (ch := [e, it]) (fun b ob hb q => (sbu.2 b (fun z => hb (by simp [z]))).trans (kp b ob (fun z => hb (by simp [z])) (fun z => hb (by simp [z])) q)) hf (Nat.le_refl _) new
    refine ⟨.ref s.heap.objs.size, _, I1, rfl, ⟨_, x, rfl, I.hok.fresh (Nat.le_refl _), rfl, fun ys hy => by rw [I.tuple_inj hy hSq]; exact hx⟩, ⟨⟨x', ?_⟩, hit'.1.at fun o q => (sbu.2 it (Ne.symm nEI)).trans q, nEI, nAI⟩, fun b hb => ?_⟩
    · have e1 : ((i + 1 : Nat) : Int) = (i : Int) + 1 := by omega
      rw [e1]; exact he'
    · have hb' : b < s.heap.objs.size := by
        have e' : b = e ∨ b = it := by simpa using hb
        rcases e' with z | z
        · rw [z]; exact ltE
        · rw [z]; exact ltI
      rw [upd_ne (Nat.ne_of_lt hb')]
      exact (hf b hb).1
  done := by
    intro X hP hw hK hC i pins s σ H E I hf st hg
    subst hP hw hK
    obtain ⟨⟨old, he⟩, hIt, nEI, nAI⟩ := st
    obtain ⟨xs, hSq, hx⟩ := hg
    obtain ⟨vz, rz, p, hZ⟩ := I.tuple hSq
    obtain ⟨f0, f1, f2, f3, f4, f5⟩ := hf it (by simp)
    have hl := rz.length
    have hT : s.TypeIs (.ref e) "enumerate" := ⟨_, he, rfl⟩
    unfold pyNext
    refine wpAny_bind (wpAny_attempt (wpAny_callSpecial?_slot (name := Str.ofString "__next__") hT F.slot_enumerate_next
      (wpAny_call_entry F.slot_enumerate_next hT F.entry_enumerate_next ?_ (F.args_enumerate_next_1 _))))
    show wpAny _ _ (field (.ref e) 2 >>= _) _ _ _
    refine wpAny_bind (wpAny_field he rfl (x := .ref it) rfl ?_)
    refine wpAny_bind (wpAny_nextOf_tuple_end (show X.A.in1.handled = none from I.ok.hd hC) hIt p (by simp; omega) fun h' x he' hx' => ?_)
    obtain ⟨o, hO, hc'⟩ := hx'
    refine wpAny_bind (wpAny_isInstance (T := "StopIteration") (b := true) ⟨o, hO, hc'⟩ isSubtype_stop ?_)
    exact wpAny_pure ⟨rfl, I.turned (t' := s.toks) (fun b o hb q => he' b o hb q) f0 f1 f3 f4 f5⟩
  self := fun A i s Q E st h => let ⟨⟨_, he⟩, _⟩ := st; wpAny_pyIter_enum he h
def iEnumT (K : PySem.W.Frag) (ta : TA) : TI := fun σ H R => ta σ H fun vs H1 => ∃ a xs, vs = [.ref a] ∧ SqT K H1 a xs ∧ R (IteT K a) H1
theorem pi_enumT {X : Cx} {e : Expr} {ta : TA} {p pos tpos : Pos} {elts : List Expr} {kk : Nat} (hg : Gl X "enumerate") (hm : X.mg "enumerate" = none) (ha : PA X [e] ta) (hs : starEach [e] X.env = [(false, eval e X.env)] := by rfl) :
    PI X (.Tuple elts kk tpos) (.Call (.Name "enumerate" p) [e] [] pos) (iEnumT X.K ta) := by
  refine ⟨fun pins s σ H R I h => ?_⟩
  refine Call_ (ld_blt I hg hm boot_enumerate (PyProof.Rows.callWith_type1 (thn (ha.run pos pins s σ H _ I h) fun us s1 ⟨vs, H1, I1, r1, q1⟩ => ?_) hs rfl))
  obtain ⟨a, xs, ex, hSq, q⟩ := q1
  subst ex
  cases r1 with
  | cons r rr =>
    cases rr
    cases r
    obtain ⟨vz, rz, p', hZ⟩ := I1.tuple hSq
    have hal : a < s1.heap.objs.size := by obtain ⟨_, q', _⟩ := id p'; exact Heap.lt_size q'
    refine enum_one (begins_tuple a vz.toArray) p' fun h' he hIt hSz kp => wpAny_pyIter_enum he ?_
    have I2 : Inv X pins σ H1 { s1 with heap := h' } := I1.kept (t' := s1.toks) kp
    refine ⟨s1.heap.objs.size + 1, [s1.heap.objs.size + 1, s1.heap.objs.size], _, _, H1, rfl, I2, turn_enumT a (s1.heap.objs.size + 1) s1.heap.objs.size, ⟨⟨.none, he⟩, ⟨_, hIt, rfl, rfl⟩, Nat.succ_ne_self _, Nat.ne_of_lt hal⟩, fun b hb => ?_, q⟩
    have e' : b = s1.heap.objs.size + 1 ∨ b = s1.heap.objs.size := by simpa using hb
    have hle : s1.heap.objs.size ≤ b := by
      rcases e' with z | z
      · rw [z]; exact Nat.le_add_right _ _
      · rw [z]; exact Nat.le_refl _
    exact I1.fpOk hle (I1.hok.fresh hle)
/-! ### sorted(a tuple of ints) -/
def rSortedTup (K : PySem.W.Frag) : List V → Hp → VK → Prop := fun vs H Q => ∃ (a : Addr) (ns : List Int), vs = [V.ref a] ∧ SqT K H a (ns.map V.int) ∧ ns.length < 64 ∧
  ∀ (ns' : List Int) (p : Addr), ns'.Perm ns → ns'.Pairwise (· ≤ ·) → H p = none → Q (.ref p) (upd H p (.lst (ns'.map V.int)))
section
variable {prog : Program} {w : World} {A : Around} {E : Value → Shared → Prop} {s : Shared}
theorem collect_tup {l : Addr} {vs : List Value} {Q : List Value → Shared → Prop} (hl : IsTup s.heap l vs.toArray)
    (h : Q vs { s with heap := (s.heap.push (seqObj "list" #[] 0)).update s.heap.objs.size (Obj.mapSeq (· ++ vs.toArray)) }) (hSz : vs.length ≤ sizeLine := by size_fits) :
    wpAny (model prog w) A (collect (.ref l)) Q E s := by
  obtain ⟨o, hO, hC, n, hD⟩ := id hl
  unfold collect
  refine wpAny_bind (wpAny_runValue (codeAny_builtin F.entry_proto_collect ?_))
  rw [Around.under_plainId F.plain_proto_collect _]
  show wpAny _ A.in1 (newList [] >>= fun l' => again (.builtin "list.__iadd__" ⟨[l', .ref l], []⟩)) _ _ s
  refine wpAny_bind (wpAny_newList (wpAny_pure ⟨plainId_quiet F.plain_list_iadd _, codeAny_builtin F.entry_list_iadd ?_⟩))
  rw [Around.under_plainId F.plain_list_iadd _]
  show wpAny _ _ (Builtin.List.listExtendWith (.ref s.heap.objs.size) (.ref l) (.ref s.heap.objs.size)) _ _ { s with heap := s.heap.push (seqObj "list" #[] 0) }
  unfold Builtin.List.listExtendWith
  have ho' : (s.heap.push (seqObj "list" #[] 0)).get? l = some o := Heap.get?_push_of_some _ hO
  refine wpAny_bind (wpAny_typeOf (T := "tuple") ⟨o, ho', hC⟩ ?_)
  have hT0 : (Value.type "tuple" == Value.type "tuple") = true := by rfl
  rw [if_pos (by rw [hT0]; simp)]
  refine wpAny_bind (listItems_at ho' hD ?_)
  refine wpAny_bind (listItems_at (xs := #[]) (n := 0) (Heap.get?_push_size _ rfl) rfl ?_)
  rw [if_neg (by simp)]
  refine wpAny_bind (listUpdate_at (xs := #[]) (n := 0) (Heap.get?_push_size _ rfl) rfl ?_ (Nat.zero_le _) (by show (#[] ++ vs.toArray).size ≤ sizeLine + 1; simp only [Array.size_append, List.size_toArray, List.length_nil]; omega))
  refine wpAny_pure ?_
  show wpAny (model prog w) A (do
      let o ← load s.heap.objs.size
      match o.data with
      | .seq xs _ => pure xs.toList
      | _ => unsupported "internal:collect") Q E { s with heap := (s.heap.push (seqObj "list" #[] 0)).update s.heap.objs.size (Obj.mapSeq (· ++ vs.toArray)) }
  refine wpAny_bind (wpAny_load (get?_update_seq (Heap.get?_push_size _ rfl) _) ?_)
  show wpAny _ _ (pure ((#[] : Array Value) ++ vs.toArray).toList) Q E _
  rw [show ((#[] : Array Value) ++ vs.toArray).toList = vs by simp]
  exact wpAny_pure h
theorem sorted_intsT {l : Addr} {vs : List Value} {ns : List Int} {Q : Value → Shared → Prop} (hl : IsTup s.heap l vs.toArray) (hI : IntsAre vs ns) (h64 : vs.length < 64)
    (h : ∀ (out : Array Value) (ns' : List Int), IntsAre out.toList ns' → ns'.Perm ns → ns'.Pairwise (· ≤ ·) → Q (.ref (s.heap.objs.size + 1)) { s with heap := sortedAll s.heap vs out }) :
    wpAny (model prog w) A (call (.builtin "sorted") [.ref l]) Q E s := by
  refine Calls.call_function_entry kind_sorted plain_sorted entry_sorted (args_sorted1 _) ?_
  unfold Builtin.«sorted»
  refine wpAny_bind (m := checkCount "sorted" 1 1 _) (wpAny_pure ?_)
  have hsz0 : vs.length ≤ sizeLine := by
    rw [sizeLine_eq]
    omega
  refine wpAny_bind (collect_tup (hSz := hsz0) hl ?_)
  refine wpAny_bind (wpAny_newList ?_)
  have hSz : ((s.heap.push (seqObj "list" #[] 0)).update s.heap.objs.size (Obj.mapSeq (· ++ vs.toArray))).objs.size = s.heap.objs.size + 1 := by
    rw [Heap.size_update, size_push']
  have hOL : (((s.heap.push (seqObj "list" #[] 0)).update s.heap.objs.size (Obj.mapSeq (· ++ vs.toArray))).push (seqObj "list" vs.toArray 0)).get? (s.heap.objs.size + 1) = some (seqObj "list" vs.toArray 0) := by
    rw [← hSz]; exact Heap.get?_push_size _ rfl
  show wpAny _ _ _ _ _ { s with heap := ((s.heap.push (seqObj "list" #[] 0)).update s.heap.objs.size (Obj.mapSeq (· ++ vs.toArray))).push (seqObj "list" vs.toArray 0) }
  rw [hSz]
  refine wpAny_bind (wpAny_holding (wpAny_call_entry slot_list_sort ⟨_, hOL, rfl⟩ entry_list_sort (list_sort_tree hOL hI h64 fun out ns' a1 a2 a3 => ⟨_, rfl, ?_⟩) (args_list_sort _)))
  exact wpAny_pure ⟨_, rfl, h out ns' a1 a2 a3⟩
end
theorem cr_sortedTup {X : Cx} : CallR X (.builtin "sorted") (rSortedTup X.K) := by
  intro pins s σ H vs us Q I r h
  obtain ⟨a, ns, rfl, hs, h64, q⟩ := h
  obtain ⟨vz, rz, hl, _⟩ := I.tuple hs
  rw [Vals.ref1 r]
  have hi := rz.ints
  refine sorted_intsT hl hi (by rw [hi.length]; exact h64) fun out ns' h1 h2 h3 => ?_
  obtain ⟨ep, he'⟩ := PyProof.Rows.sortedAll_at s.heap vz out
  have hLn : (ns'.map V.int).length ≤ sizeLine := by rw [List.length_map, h2.length_eq]; exact small64 h64
  exact ⟨.ref _, upd H (s.heap.objs.size + 1) (.lst (ns'.map V.int)), I.laid (t' := s.toks) (fun _ _ => PyProof.Rows.sortedAll_old) (Nat.le_succ _) ⟨hLn, out.toList, ep, vals_of_ints h1, he'⟩, rfl, q ns' _ h2 h3 (I.hok.fresh (Nat.le_succ _))⟩
end RH
set_option Elab.async false
set_option linter.all false
set_option maxRecDepth 100000
set_option maxHeartbeats 2000000
/-! Lambdas with parameters and captured names, as values: made, handed to a def of the text, called there. -/
namespace RH
open PySem PySem.Spec PyProof.Rows L2
open LamX (Tabs TabS TabB ExtN CodeO codeO_ne inv_table among_app)
open NdefX (NF CellsAt NScope startF ncx inv_startN codeO_at slotAt Caps cells_of upd_none)
/-- a lambda's words, what it captured, its code object -/
structure LF where
  qual : Str
  params : Arguments
  body : Expr
  scope : Scope
  cl : List (Str × Addr)
  c : Addr
abbrev LF.fd (F : LF) (pm ctv : Value) : FuncData := PySem.W.kla_fn "<lambda>" F.qual F.params F.body F.scope F.cl pm (.ref F.c) ctv
abbrev LF.nf (F : LF) : NF := ⟨"<lambda>", F.qual, F.params, [], F.scope, F.cl, F.c⟩
/-- the object at f is this lambda -/
def FnL (f : Addr) (F : LF) : HO := .ext fun h => ∃ (od : Option Addr) (sl : Array (Option Value)) (pm ctv : Value), h.get? f = some (⟨.type "function", od, .func (F.fd pm ctv), sl⟩ : Obj)
theorem fnL_ne {f : Addr} {F : LF} (ps : Array Value) : FnL f F ≠ .tbl ps := fun z => by
  unfold FnL at z
  cases z
theorem fnL_at {P : Program} {w : World} {H : Hp} {h : Heap} {f : Addr} {F : LF} (hok : HOk P w H h) (e : H f = some (FnL f F)) : ∃ (od : Option Addr) (sl : Array (Option Value)) (pm ctv : Value), h.get? f = some (⟨.type "function", od, .func (F.fd pm ctv), sl⟩ : Obj) := (hok f _ e).1
section
variable {X : Cx} {pins : List (Addr × Obj)} {σ : L2.St} {H : Hp} {s : Shared}
theorem inv_lam {F : LF} {h' : Heap} {t' : Nat} {pm ctv : Value} (I : Inv X pins σ H { s with heap := h', toks := t' }) :
    Inv X pins σ (upd H h'.objs.size (FnL h'.objs.size F)) { s with heap := h'.push { cls := .type "function", data := .func (F.fd pm ctv) }, toks := t' } := by
  refine I.laid (t' := t') (a := h'.objs.size) (fun b u e => Heap.get?_push_of_some _ e) (Nat.le_refl _) ?_
  have e : (h'.push ({ cls := .type "function", data := .func (F.fd pm ctv) } : Obj)).get? h'.objs.size = some ({ cls := .type "function", data := .func (F.fd pm ctv) } : Obj) := Heap.get?_push_size _ rfl
  exact ⟨⟨_, _, pm, ctv, e⟩, ⟨_, e⟩, fun h1 h2 ⟨od, sl, p, t, z⟩ st => ⟨od, sl, p, t, st _ z⟩⟩
/-- the lambda is made -/
theorem lam_made {T : List (Addr × Str)} {c P : Addr} {params : Arguments} {body : Expr} {scope : Scope} {pos : Pos} {E : Value → Shared → Prop} {Q : Value → Shared → Prop} (I : Inv X pins σ H s) (TB : TabB X.base X.mg c P) (hcode : X.env.code = .ref c)
    (hm : (P, X.env.qual ++ "<lambda>") ∈ T) (hu : ∀ p ∈ T, p.1 = P → p.2 = X.env.qual ++ "<lambda>") (hT : Tabs T H) (hdef : defaultsOf params X.env = ([], [])) (hfree : ∀ y ∈ scope.names, y.2 = .free → ∃ c, X.env.cells.lookup y.1 = some c)
    (h : ∀ (f c' : Addr) (H1 : Hp) (s' : Shared), Inv X pins σ H1 s' → ExtN H H1 → (∀ b, H1 b = none → H b = none) → Tabs T H1 → H f = none →
      H1 f = some (FnL f ⟨X.env.qual ++ "<lambda>", params, body, scope, cloFrom X.env.cells scope.names [], c'⟩) → H1 c' = some (CodeO c' (X.env.qual ++ "<lambda>")) → Q (.ref f) s') :
    wpAny (model X.prog X.w) X.A (eval (.Lambda params body scope pos) X.env) Q E s := by
  obtain ⟨ps, hP, ht, ha⟩ := hT _ hm
  refine PySem.W.kla_eval hdef ?_
  have bP : s.heap.BuiltinsAt X.mg P := TB.bm.keeps I.bk
  have hP' : s.heap.get? P = some { cls := .none, data := .fields ps } := I.hok P _ hP
  cases hc : codeAmong pos ps.toList with
  | none =>
    refine PySem.W.kla_makeFunction (mg := X.mg) (c := c) (P := P) (ps := ps) (closure_ok hfree) I.ok.glob (I.mod.glob.keeps I.bk) hcode (TB.code.keeps I.bk) hP' ht hc TB.gP bP fun c' ctv h' tk hx hge hlt hrec htb => ?_
    obtain ⟨c2, oc, vs, t, e2, hoc, hd, hv⟩ := hrec
    cases e2
    have nC : H c' = none := I.hok.fresh hge
    have I1 := inv_table (t' := tk) (more := #[rawInt pos.line, rawInt pos.col, .ref c']) (h' := h') I hP (fun b o hb e => hx b o hb e) htb hge ⟨oc, vs, t, hoc, hd, hv⟩
    generalize hG : upd (upd H P (.tbl (ps ++ #[rawInt pos.line, rawInt pos.col, .ref c']))) c' (CodeO c' (X.env.qual ++ "<lambda>")) = G at I1
    have hE : ExtN H G := fun b o e n => by
      rw [← hG, upd_ne (ne_of_none e nC), upd_ne (fun z => n ps (Option.some.inj (e.symm.trans (by rw [z]; exact hP))))]
      exact e
    have gP : G P = some (.tbl (ps ++ #[rawInt pos.line, rawInt pos.col, .ref c'])) := by rw [← hG, upd_ne (ne_of_none hP nC), upd_same]
    have gC : G c' = some (CodeO c' (X.env.qual ++ "<lambda>")) := by rw [← hG, upd_same]
    have gO : ∀ b ps', b ≠ P → H b = some (.tbl ps') → G b = some (.tbl ps') := fun b ps' nb e => by
      rw [← hG, upd_ne (ne_of_none e nC), upd_ne nb]
      exact e
    have gN : ∀ b, G b = none → H b = none := fun b e => by
      rw [← hG] at e
      exact upd_none (upd_none e)
    have eL : (ps ++ #[rawInt pos.line, rawInt pos.col, .ref c']).toList = ps.toList ++ [rawInt pos.line, rawInt pos.col, .ref c'] := by simp
    have T1 : Tabs T G := fun p hp => by
      by_cases hb : p.1 = P
      · rw [hu p hp hb, hb]
        refine ⟨_, gP, by rw [eL]; exact PySem.TriplesOk_snoc _ _ _ _ ht, fun p' cv hcv => ?_⟩
        rw [eL] at hcv
        rcases among_app _ ht hcv with z | z
        · obtain ⟨c0, e1, e2⟩ := ha p' cv z
          exact ⟨c0, e1, hE _ _ e2 codeO_ne⟩
        · exact ⟨c', z, gC⟩
      · obtain ⟨ps', a1, a2, a3⟩ := hT p hp
        refine ⟨ps', gO _ _ hb a1, a2, fun p' cv hcv => ?_⟩
        obtain ⟨c0, e1, e2⟩ := a3 p' cv hcv
        exact ⟨c0, e1, hE _ _ e2 codeO_ne⟩
    have nF : G h'.objs.size = none := I1.hok.fresh (Nat.le_refl _)
    have I2 := inv_lam (F := ⟨X.env.qual ++ "<lambda>", params, body, scope, cloFrom X.env.cells scope.names [], c'⟩) (pm := (X.mg "__name__").getD .none) (ctv := ctv) I1
    refine h h'.objs.size c' _ _ I2 (fun b o e n => ?_) (fun b e => gN b (upd_none e)) (T1.ext fun b o e => ?_) (gN _ nF) upd_same ?_
    · have e1 := hE b o e n
      exact (upd_ne (ne_of_none e1 nF)).trans e1
    · exact (upd_ne (ne_of_none e nF)).trans e
    · exact (upd_ne (ne_of_none gC nF)).trans gC
  | some cv =>
    obtain ⟨c', e, hco⟩ := ha pos cv hc
    subst e
    refine PySem.W.kla_makeFunctionHit (mg := X.mg) (c := c) (P := P) (ps := ps) (closure_ok hfree) I.ok.glob (I.mod.glob.keeps I.bk) hcode (TB.code.keeps I.bk) hP' ht hc bP fun ctv h' tk hx hsz => ?_
    have I1 : Inv X pins σ H { s with heap := h', toks := tk } := I.kept hx
    have nF : H h'.objs.size = none := I1.hok.fresh (Nat.le_refl _)
    have I2 := inv_lam (F := ⟨X.env.qual ++ "<lambda>", params, body, scope, cloFrom X.env.cells scope.names [], c'⟩) (pm := (X.mg "__name__").getD .none) (ctv := ctv) I1
    refine h h'.objs.size c' _ _ I2 (fun b o e n => ?_) (fun b e => upd_none e) (hT.ext fun b o e => ?_) nF upd_same ?_
    · exact (upd_ne (ne_of_none e nF)).trans e
    · exact (upd_ne (ne_of_none e nF)).trans e
    · exact (upd_ne (ne_of_none hco nF)).trans hco
end
/-- lambda a, b: .. as a value -/
def tLamE (T : List (Addr × Str)) (mk : Addr → LF) : TE := fun _ H Q => Tabs T H ∧ ∀ (f c' : Addr) (H1 : Hp), ExtN H H1 → (∀ b, H1 b = none → H b = none) → Tabs T H1 → H f = none → H1 f = some (FnL f (mk c')) → H1 c' = some (CodeO c' (mk c').qual) → Q (.ref f) H1
theorem pe_lam {X : Cx} {T : List (Addr × Str)} {c P : Addr} {params : Arguments} {body : Expr} {scope : Scope} {pos : Pos} (TB : TabB X.base X.mg c P) (hcode : X.env.code = .ref c)
    (hm : (P, X.env.qual ++ "<lambda>") ∈ T) (hu : ∀ p ∈ T, p.1 = P → p.2 = X.env.qual ++ "<lambda>") (hdef : defaultsOf params X.env = ([], []))
    (hfree : ∀ y ∈ scope.names, y.2 = .free → X.env.scope.names.lookup y.1 = some .cell ∨ X.env.scope.names.lookup y.1 = some .free) :
    PE X (.Lambda params body scope pos) (tLamE T fun c' => ⟨X.env.qual ++ "<lambda>", params, body, scope, cloFrom X.env.cells scope.names [], c'⟩) := by
  refine ⟨fun pins s σ H Q I h => ?_⟩
  obtain ⟨hT, q⟩ := h
  refine lam_made I TB hcode hm hu hT hdef (fun y hy e => (hfree y hy e).elim (fun z => I.ok.has _ (.inl z)) fun z => I.ok.has _ (.inr z)) fun f c' H1 s' I' e n T' hf h1 h2 => ?_
  exact ⟨.ref f, H1, I', rfl, q f c' H1 e n T' hf h1 h2⟩
/-! ### what a lambda promises -/
structure LOk (P : Program) (w : World) (K : PySem.W.Frag) (mg : Str → Option Value) (base : Heap) (CX : CXT) (k : Nat) (f : Addr) (F : LF) (ps fr : List Str) (sp : List (Option V) → Sp) : Prop where
  len : ∀ ws vs H Q E, sp ws vs H Q E → vs.length = ps.length
  run : ∀ (A : Around) (outer : List Env) (s : Shared) (H : Hp) (us : List Value) (vs : List V) (ws : List (Option V)) (Q : VK) (E : XK), Room k A → Env0 P w K mg base A outer s H → H f = some (FnL f F) → H F.c = some (CodeO F.c F.qual) →
    CellsAt F.cl fr ws s.heap H → Vals vs us → sp ws vs H Q E → codeAny (model P w) A (.call (.ref f) ⟨us, []⟩) (CR CX outer P w H s Q E) s
section
variable {CX : CXT} {P : Program} {w : World} {K : PySem.W.Frag} {mg : Str → Option Value} {base : Heap} {N ps fr : List Str} {F : LF} {f : Addr} {k j : Nat} {sp : List (Option V) → Sp}
/-- a lambda by its body -/
theorem lok_of (S : NScope N ps fr F.scope) (hb : ∀ (pm ctv : Value) (us : List Value), us.length = ps.length → bindArgs (F.fd pm ctv) ⟨us, []⟩ = pure (ps.zip us)) (len : ∀ ws vs H Q E, sp ws vs H Q E → vs.length = ps.length)
    (hbody : ∀ (A : Around) (outer : List Env) (s : Shared) (H : Hp) (vs : List V) (ws : List (Option V)) (Q : VK) (E : XK), Room k (A.deeper (NdefX.envF F.nf f s.heap.objs.size)) → ws.length = fr.length → sp ws vs H Q E →
      ∃ t, PE (ncx CX P w K mg base N F.nf f A outer s H E) F.body t ∧ t (startF N vs ws) H Q) :
    LOk P w K mg base CX (k + 1) f F ps fr sp := by
  refine ⟨len, fun A outer s H us vs ws Q E hr e0 hf hc C r hsp => ?_⟩
  have hl := len _ _ _ _ _ hsp
  have lim : s.heap.NoLimit := e0.mod.nolimit.keeps fun b o e => (e0.bs b o e).1
  obtain ⟨od, sl, pm, ctv, ho⟩ := fnL_at e0.hok hf
  refine PySem.W.kla_callFunE hr.depth ho rfl S.co S.gen rfl (codeO_at e0.hok hc) ?_
  rw [hb pm ctv us (by rw [← r.length]; exact hl)]
  refine wpAny_pure (wpAny_newFunctionEnv S.nocell (fun ⟨n, _⟩ hy => S.par n (List.of_mem_zip hy).1) (fun h₁ hns hsb => ⟨lim.fresh _ hsb, ?_⟩) S.kind)
  show codeAny _ _ (.expr F.body (NdefX.envF F.nf f s.heap.objs.size)) _ _
  have kp : ∀ b o, s.heap.get? b = some o → h₁.get? b = some o := fun b o e => hsb.extBut b o (Nat.ne_of_lt (Heap.lt_size e)) (Heap.get?_push_of_some _ e)
  obtain ⟨t, ht, hq⟩ := hbody A outer s H vs ws Q E (hr.deeper _) C.len hsp
  have I : Inv (ncx CX P w K mg base N F.nf f A outer s H E) [] (startF N vs ws) H { s with heap := h₁, toks := s.toks + (ps.zip us).length } := inv_startN (F := F.nf) S hr.hd e0 hl r C hns kp
  refine PySem.W.kla_codeExpr (wpAny_mono (ht.run [] _ (startF N vs ws) H Q I hq) (fun v s' hs => ?_) fun e s' hs => hs)
  obtain ⟨v', H', J, rv, q⟩ := hs
  exact ⟨v', H', J.os, J.bare, J.base, J.hok, rv, q⟩
end
/-! ### a def that is handed things that can be called -/
/-- f may be called, from any frame that began at s, H below outer, while live holds -/
structure Callable (P : Program) (w : World) (K : PySem.W.Frag) (mg : Str → Option Value) (base : Heap) (CX : CXT) (k : Nat) (f : Addr) (live : Hp → Prop) (sp : Sp) (outer : List Env) (s : Shared) (H : Hp) : Prop where
  at_ : ∀ (X : Cx), X.prog = P → X.w = w → X.K = K → X.base = base → X.s_0 = s → X.H_0 = H → ∀ pins σ H' s', Inv X pins σ H' s' → live H' → PySem.W.FnAt f s'.heap
  run : ∀ (X : Cx), X.prog = P → X.w = w → X.K = K → X.mg = mg → X.base = base → X.s_0 = s → X.H_0 = H → X.outer = outer → X.ex = [] → Room k X.A → ∀ pins σ H' s' us vs Q E, Inv X pins σ H' s' → live H' → Vals vs us → Passes CX X E → sp vs H' Q E →
    wpAny (model P w) X.A (call (.ref f) us) (EP X pins σ Q) X.xe s'
section
variable {CX : CXT} {P : Program} {w : World} {K : PySem.W.Frag} {mg : Str → Option Value} {base : Heap} {ps fr : List Str} {k : Nat} {f : Addr} {ws : List (Option V)} {outer : List Env} {s : Shared} {H : Hp}
/-- a lambda is alive while its object and its code stand -/
def liveL (f : Addr) (F : LF) : Hp → Prop := fun H => H f = some (FnL f F) ∧ H F.c = some (CodeO F.c F.qual)
theorem callable_lam {F : LF} {sp : List (Option V) → Sp} (Fn : LOk P w K mg base CX k f F ps fr sp) (C : CellsAt F.cl fr ws s.heap H) (nf : ∀ y c, F.cl.lookup y = some c → c ∉ frs outer) :
    Callable P w K mg base CX k f (liveL f F) (sp ws) outer s H := by
  refine ⟨fun X _ _ _ _ _ _ pins σ H' s' I l => ?_, fun X e1 e2 e3 e4 e5 e6 e7 e8 e9 hr pins σ H' s' us vs Q E I l r hx q => ?_⟩
  · obtain ⟨od, sl, pm, ctv, ho⟩ := fnL_at I.hok l.1
    exact ⟨_, od, _, sl, ho⟩
  · subst e1 e2 e3 e4 e5 e6 e7 e8
    have C2 := NdefX.CellsAt.later (X := X) C nf (fun y c _ z => by rw [e9] at z; exact absurd z (by simp)) I
    refine wpAny_call (codeAny_mono (Fn.run X.A X.stack s' H' us vs ws Q E hr I.env0 l.1 l.2 C2 r q) fun r s' hq => ?_)
    cases r with
    | error e => exact hx pins σ H' _ e s' I hq
    | ok fl =>
      cases fl with
      | ret u => exact I.after hq
      | next => exact False.elim hq
      | brk => exact False.elim hq
      | cont => exact False.elim hq
end
def tCan (f : Addr) (live : Hp → Prop) (i : Nat) (sp : Sp) (E : XK) (t : TA) : TE := fun σ H Q => σ[i]? = some (some (.ref f)) ∧ live H ∧ t σ H fun vs H1 => live H1 ∧ sp vs H1 Q E
section
variable {X : Cx} {CX : CXT} {f : Addr} {live : Hp → Prop} {i j k : Nat} {x : Str} {sp : Sp} {E : XK} {t : TA} {e : Expr} {es : List Expr} {p pos : Pos}
theorem pe_can (Cb : Callable X.prog X.w X.K X.mg X.base CX k f live sp X.outer X.s_0 X.H_0) (nx : X.ex = []) (hr : Room j X.A) (hk : k ≤ j) (hx : Passes CX X E)
    (hN : X.N[i]? = some x) (hv : Vis X.env.scope x) (ha : PA X (e :: es) t) (hd : (x == ("__debug__" : Str)) = false := by decide) (hcd : (x == ("__classdict__" : Str)) = false := by decide)
    (he : starEach (e :: es) X.env = (false, eval e X.env) :: starEach es X.env := by rfl) (hpl : (backTo pos (starEach es X.env)).any (·.1) = false := by rfl) :
    PE X (.Call (.Name x p) (e :: es) [] pos) (tCan f live i sp E t) := by
  refine ⟨fun pins s σ H Q I h => ?_⟩
  obtain ⟨hs, hl, ht⟩ := h
  refine wpAny_Call_Name_kw (thn ((pe_var (pos := p) hN hv hd hcd).run pins s σ H (fun v H1 => v = .ref f ∧ H1 = H) I ⟨.ref f, hs, rfl, rfl⟩) fun u s1 ⟨v, H1, I1, r1, q1⟩ => ?_)
  obtain ⟨ev, eH⟩ := q1
  subst ev
  rw [eH] at I1
  obtain rfl : u = Value.ref f := r1
  refine PySem.W.callWith_F (first := []) (Cb.at_ X rfl rfl rfl rfl rfl rfl pins σ H s1 I1 hl) (thn (ha.run pos pins s1 σ H _ I1 ht) fun us s2 ⟨vs, H2, I2, r, h1, q⟩ => ⟨Cb.at_ X rfl rfl rfl rfl rfl rfl pins σ H2 s2 I2 h1, ?_⟩) he hpl
  exact Cb.run X rfl rfl rfl rfl rfl rfl rfl rfl nx (hr.mono hk) pins σ H2 s2 us vs Q E I2 h1 r hx q
end
/-- a def's promise that leans on what it is handed -/
structure FnC (P : Program) (w : World) (K : PySem.W.Frag) (mg : Str → Option Value) (base : Heap) (CX : CXT) (k : Nat) (f : Addr) (fd : FuncData) (ps : List Str) (Pre : List Env → Shared → Hp → Prop) (sp : Sp) : Prop where
  len : ∀ vs H Q E, sp vs H Q E → vs.length = ps.length
  run : ∀ (A : Around) (outer : List Env) (s : Shared) (H : Hp) (args : Args) (us : List Value) (vs : List V) (Q : VK) (E : XK), Room k A → Env0 P w K mg base A outer s H → BindsTo s fd args (ps.zip us) → Vals vs us → Pre outer s H → sp vs H Q E →
    codeAny (model P w) A (.call (.ref f) args) (CR CX outer P w H s Q E) s
section
variable {P : Program} {w : World} {K : PySem.W.Frag} {mg : Str → Option Value} {base : Heap}
theorem fnC_of {x qual : Str} {st : Stmt} {f : Addr} {fd : FuncData} {N ps : List Str} {k : Nat} {sp : Sp} {Pre : List Env → Shared → Hp → Prop} (F : Fun K x qual st f fd) (S : FnScope N ps (defScope st)) (len : ∀ vs H Q E, sp vs H Q E → vs.length = ps.length)
    (hbody : ∀ (cdv : Value) (A : Around) (outer : List Env) (s : Shared) (H : Hp) (vs : List V) (Q : VK) (E : XK), Room k (A.deeper (envOfC qual (defScope st) s.heap.objs.size f cdv)) → Pre outer s H → sp vs H Q E →
      ∃ t, PSs (cxOf CX0 P w K mg base N qual (defScope st) f cdv A outer s H E).nox (defBody st) t ∧ t { nx := fun _ H' => Q .non H', rt := Q } (start N vs) H) : FnC P w K mg base CX0 (k + 1) f fd ps Pre sp := by
  obtain ⟨oc, od, kV, doc, pm, an, cdv, ct, osl, rfl, lk, hcd⟩ := F.ex
  refine ⟨len, fun A outer s H args us vs Q E hr e0 hb r hP hsp => ?_⟩
  have hl := len _ _ _ _ hsp
  have KX : K.In s.heap := e0.mod.kin.keeps fun b o e => (e0.bs b o e).1
  have lim : s.heap.NoLimit := e0.mod.nolimit.keeps fun b o e => (e0.bs b o e).1
  have hkind : ∀ y ∈ ps.zip us, (defScope st).names.lookup y.1 = some .local ∨ ((defScope st).names.lookup y.1 = some .cell ∧ ((cellsFrom (s.heap.objs.size + 1) (defScope st).names []).lookup y.1).isSome = true) := fun y hy =>
    (S.par y.1 (List.of_mem_zip (a := y.1) (b := y.2) hy).1).elim .inl fun q => .inr ⟨q, PySem.W.cellsFrom_some _ _ _ (.inl q)⟩
  refine codeAny_call_function hr.depth (KX _ _ lk) rfl S.co S.gen rfl (PySem.W.codeRec_of KX hcd) (hb _ _ _ _ ?_)
  refine wpAny_newFunctionEnv_cells S.kind hkind fun env he s1 y => ?_
  subst he
  refine ⟨lim.keeps y.toInCall.keep, codeAny_func ?_⟩
  obtain ⟨t, ht, hq⟩ := hbody cdv A outer s H vs Q E (hr.deeper _) hP hsp
  have I : Inv (cxOf CX0 P w K mg base N qual (defScope st) f cdv A outer s H E) [] (L2.start N vs) H s1 := inv_start S hr.hd e0 hl r y
  refine wpAny_mono (ht.nox.run [] s1 (L2.start N vs) H _ I hq) (fun fl s' hs => ?_) fun e s' hs => hs
  cases fl with
  | ret u =>
    obtain ⟨v, σ', H', J, rv, q⟩ := hs
    exact ⟨v, H', J.os, J.bare, J.base, J.hok, rv, q⟩
  | next =>
    obtain ⟨σ', H', J, q⟩ := hs
    exact ⟨V.non, H', J.os, J.bare, J.base, J.hok, rfl, q⟩
  | brk => exact hs.choose_spec.choose_spec.2.elim
  | cont => exact hs.choose_spec.choose_spec.2.elim
end
/-- such a def called: g says with what -/
def tCallC {G : Type} (preS : G → L2.St → Hp → Prop) (sp : G → Sp) (E : XK) (t : TA) : TE := fun σ H Q => t σ H fun vs H1 => ∃ g, preS g σ H1 ∧ sp g vs H1 Q E
theorem pe_callC {G : Type} {X : Cx} {CX : CXT} {k j : Nat} {f : Addr} {fd : FuncData} {ps : List Str} {Pre : G → List Env → Shared → Hp → Prop} {preS : G → L2.St → Hp → Prop} {sp : G → Sp} {E : XK} {x : Str} {p pos : Pos} {e : Expr} {es : List Expr} {t : TA}
    (F : ∀ g, FnC X.prog X.w X.K X.mg X.base CX k f fd ps (Pre g) (sp g)) (hP : ∀ g pins σ H s, Inv X pins σ H s → preS g σ H → Pre g X.stack s H) (hr : Room j X.A) (hk : k ≤ j) (hg : Gl X x) (hm : X.mg x = some (.ref f)) (kp : PySem.W.keepIn X.K (.ref f) = true) (hb : Binds X.K fd ps []) (hx : Passes CX X E)
    (ha : PA X (e :: es) t) (hdb : (x == ("__debug__" : Str)) = false := by decide) (he : starEach (e :: es) X.env = (false, eval e X.env) :: starEach es X.env := by rfl) (hpl : (backTo pos (starEach es X.env)).any (·.1) = false := by rfl) :
    PE X (.Call (.Name x p) (e :: es) [] pos) (tCallC preS sp E t) := by
  refine ⟨fun pins s σ H Q I h => ?_⟩
  refine wpAny_Call_Name_kw (ld_glob I hg hm ?_ hdb)
  refine PySem.W.callWith_K (h₀ := X.base) I.ok.mod.kin kp (thn (ha.run pos pins s σ H _ I h) fun us s1 ⟨vs, H1, I1, r, g, pg, q⟩ => ⟨I1.kIn, ?_⟩) he hpl
  have hl : us.length = ps.length := by rw [← r.length]; exact (F g).len _ _ _ _ q
  have hb' := hb s1 us I1.kIn (by rw [List.append_nil]; exact hl)
  rw [List.append_nil] at hb'
  refine wpAny_call (codeAny_mono ((F g).run X.A X.stack s1 H1 ⟨us, []⟩ us vs Q E (hr.mono hk) I1.env0 hb' r (hP g pins σ H1 s1 I1 pg) q) fun r s' hq => ?_)
  cases r with
  | error e => exact hx pins σ H1 s1 e s' I1 hq
  | ok fl =>
    cases fl with
    | ret u => exact I1.after hq
    | next => exact False.elim hq
    | brk => exact False.elim hq
    | cont => exact False.elim hq
end RH
set_option Elab.async false
set_option linter.all false
set_option maxRecDepth 100000
set_option maxHeartbeats 2000000
/-! Dicts with tuples for keys: one pair written out, their values; where an int stands in a tuple. -/
namespace RH
open PySem PySem.Spec PyProof.Rows L2
theorem one_shape {X : Cx} {k v : Expr} {pos : Pos} : (evalEachOpt [some k] X.env).zip ((evalEach [v] X.env).map fun z => do let x ← z; standAt pos; pure x) = [(eval k X.env, (do let x ← eval v X.env; standAt pos; pure x : Sem Value))].map fun p => (some p.1, p.2) := rfl
/-- the view d.values() at p -/
def valuesO (p d : Addr) : HO := .ext fun h => h.IsValuesView p d
theorem valuesO_ok {P : Program} {w : World} {H : Hp} {h : Heap} {p d : Addr} (e : h.get? p = some { cls := .type "dict_values", data := .fields #[.ref d] }) : ObjOk P w H h p (valuesO p d) :=
  ⟨⟨_, e, rfl, rfl⟩, ⟨_, e⟩, fun h1 h2 x k => let ⟨o, ho, r⟩ := x; ⟨o, k o ho, r⟩⟩
theorem values_meets {prog : Program} {w : World} {d : Addr} {es : Array DictEntry} {ep : Nat} (hd : (d == sysModules) = false) :
    MeetsIn prog w (Builtin.«dict.values» ⟨[.ref d], []⟩) (fun _ R s => s.heap.DictRaw d es ep ∧ R (.ok (.ret (.ref s.heap.objs.size))) { s with heap := s.heap.push { cls := .type "dict_values", data := .fields #[.ref d] } }) :=
  .of_wp fun A R s ⟨hm, h⟩ => by
    unfold Builtin.«dict.values»
    have hs : ∀ (F : Unit → Shared → Prop) (G : Value → Shared → Prop), F () s → wpAny (model prog w) A.in1 (Builtin.Dict.showsAll d) F G s := fun F G f => by
      unfold Builtin.Dict.showsAll
      rw [if_neg (by rw [hd]; decide)]
      exact wpAny_pure f
    have hn : ∀ (F : Addr → Shared → Prop) (G : Value → Shared → Prop), F d s → wpAny (model prog w) A.in1 (Builtin.Dict.noArgs "values" ⟨[.ref d], []⟩) F G s := fun F G f => by
      unfold Builtin.Dict.noArgs
      exact wpAny_bind (wpAny_notOrdered_dict hm.typeIs (wpAny_pure f))
    exact wpAny_bind (hn _ _ (wpAny_bind (hs _ _ (wpAny_bind (wpAny_newObj_type (wpAny_pure ⟨_, rfl, h⟩))))))
end RH
set_option Elab.async false
set_option linter.all false
set_option maxRecDepth 100000
set_option maxHeartbeats 2000000
/-! Tuples told by their very object, and dicts whose keys are such tuples of ints. -/
namespace RH
open PySem PySem.Spec PyProof.Rows L2
def keyOf (s : List Int) : List L2.Key := s.map Sum.inl
theorem keyOf_kV (s : List Int) : (keyOf s).map kV = s.map V.int := by
  unfold keyOf
  rw [List.map_map]
  rfl
theorem mapInt_inj : ∀ {s t : List Int}, s.map V.int = t.map V.int → s = t
  | [], [], _ => rfl
  | [], _ :: _, e => by simp at e
  | _ :: _, [], e => by simp at e
  | a :: s, b :: t, e => by
    rw [List.map_cons, List.map_cons] at e
    injection e with e1 e2
    rw [V.int.inj e1, mapInt_inj e2]
theorem keyOf_inj {s t : List Int} (h : keyOf s = keyOf t) : s = t := by
  have e : (keyOf s).map kV = (keyOf t).map kV := by rw [h]
  rw [keyOf_kV, keyOf_kV] at e
  exact mapInt_inj e
/-- b is a tuple of these ints -/
def KX (H : Hp) (b : Addr) (s : List Int) : Prop := Rd H b (.tup (s.map V.int))
/-- the same, and its very object is known, one without a dict -/
def FT (H : Hp) (b : Addr) (s : List Int) : Prop := ∃ ob, H b = some (.frz ob (.tup (s.map V.int))) ∧ ob.dict = none
theorem FT.kx {H : Hp} {b : Addr} {s : List Int} (h : FT H b s) : KX H b s := let ⟨ob, h, _⟩ := h; .inr ⟨ob, h⟩
inductive XS : List (List Int × V) → List Addr → List (List L2.Key × Addr × Value) → Prop
  | nil : XS [] [] []
  | cons {q : List Int × V} {b : Addr} {u : Value} {as : List (List Int × V)} {bs : List Addr} {xs : List (List L2.Key × Addr × Value)} : RelV q.2 u → XS as bs xs → XS (q :: as) (b :: bs) ((keyOf q.1, b, u) :: xs)
inductive KB (H : Hp) : List (List Int × V) → List Addr → Prop
  | nil : KB H [] []
  | cons {q : List Int × V} {b : Addr} {as : List (List Int × V)} {bs : List Addr} : KX H b q.1 → KB H as bs → KB H (q :: as) (b :: bs)
theorem KB.snoc {H : Hp} {q : List Int × V} {b : Addr} (h : KX H b q.1) : ∀ {as : List (List Int × V)} {bs : List Addr}, KB H as bs → KB H (as ++ [q]) (bs ++ [b])
  | _, _, .nil => .cons h .nil
  | _, _, .cons g t => .cons g (t.snoc h)
theorem KB.imp {H H' : Hp} (f : ∀ b s, KX H b s → KX H' b s) : ∀ {as : List (List Int × V)} {bs : List Addr}, KB H as bs → KB H' as bs
  | _, _, .nil => .nil
  | _, _, .cons g t => .cons (f _ _ g) (t.imp f)
theorem XS.len : ∀ {as : List (List Int × V)} {bs : List Addr} {xs : List (List L2.Key × Addr × Value)}, XS as bs xs → xs.length = as.length
  | _, _, _, .nil => rfl
  | _, _, _, .cons _ t => congrArg (· + 1) t.len
theorem XS.snoc {q : List Int × V} {b : Addr} {u : Value} (h : RelV q.2 u) : ∀ {as : List (List Int × V)} {bs : List Addr} {xs : List (List L2.Key × Addr × Value)}, XS as bs xs → XS (as ++ [q]) (bs ++ [b]) (xs ++ [(keyOf q.1, b, u)])
  | _, _, _, .nil => .cons h .nil
  | _, _, _, .cons g t => .cons g (t.snoc h)
theorem atKey_pos {x : List L2.Key × Addr × Value} {xs : List (List L2.Key × Addr × Value)} {k : List L2.Key} (e : x.1 = k) : atKey (x :: xs) k = some x.2 := by simp [atKey, List.find?_cons, e]
theorem atKey_neg {x : List L2.Key × Addr × Value} {xs : List (List L2.Key × Addr × Value)} {k : List L2.Key} (e : ¬ x.1 = k) : atKey (x :: xs) k = atKey xs k := by simp [atKey, List.find?_cons, e]
theorem XS.no {s : List Int} : ∀ {as : List (List Int × V)} {bs : List Addr} {xs : List (List L2.Key × Addr × Value)}, XS as bs xs → s ∉ as.map Prod.fst → atKey xs (keyOf s) = none
  | _, _, _, .nil, _ => rfl
  | _, _, _, .cons g t, h => (atKey_neg fun e => h (by rw [← keyOf_inj e]; exact List.mem_cons_self ..)).trans (t.no fun z => h (List.mem_cons_of_mem _ z))
theorem XS.yes {s : List Int} : ∀ {as : List (List Int × V)} {bs : List Addr} {xs : List (List L2.Key × Addr × Value)}, XS as bs xs → s ∈ as.map Prod.fst → ∃ v p, atKey xs (keyOf s) = some p ∧ (s, v) ∈ as ∧ RelV v p.2
  | _, _, _, .nil, h => by simp at h
  | q :: as, _, _, .cons (u := u) g t, h => by
    by_cases e : q.1 = s
    · subst e
      exact ⟨q.2, _, atKey_pos rfl, List.mem_cons_self .., g⟩
    · rcases List.mem_cons.mp h with z | z
      · exact absurd z.symm e
      · obtain ⟨v, p, h1, h2, h3⟩ := t.yes z
        exact ⟨v, p, (atKey_neg fun z => e (keyOf_inj z)).trans h1, List.mem_cons_of_mem _ h2, h3⟩
theorem key_ofR {P : Program} {w : World} {H : Hp} {h : Heap} {a : Addr} {s : List Int} (ok : HOk P w H h) (e : KX H a s) : (tupleKind (mixKind P w)).is h (keyOf s) a := by
  obtain ⟨_, its, r, o, h1, h2, n, h3⟩ := (show ObjOk P w H h a (.tup (s.map V.int)) from e.ok ok)
  rw [← keyOf_kV] at r
  exact ⟨o, its.toArray, n, h1, h2, h3, by simpa using items_are r⟩
theorem XS.keys {P : Program} {w : World} {H : Hp} {h : Heap} (ok : HOk P w H h) : ∀ {as : List (List Int × V)} {bs : List Addr} {xs : List (List L2.Key × Addr × Value)}, XS as bs xs → KB H as bs → ∀ x ∈ xs, (tupleKind (mixKind P w)).is h x.1 x.2.1
  | _, _, _, .nil, _, x, hx => nomatch hx
  | _, _, _, .cons g t, .cons k r, x, hx => by
    rcases List.mem_cons.mp hx with e | hx
    · subst e
      exact key_ofR ok k
    · exact t.keys ok r x hx
/-- the dict at d: as with its values, bs its keys' tuples -/
abbrev DE (P : Program) (w : World) (as : List (List Int × V)) (bs : List Addr) (d : Addr) : HO := .ext fun h => (d == sysModules) = false ∧ as.length ≤ sizeLine ∧ ∃ xs : List (List L2.Key × Addr × Value), XS as bs xs ∧
  ∃ o es ep, h.get? d = some o ∧ o.ExactDict ∧ o.data = .dict es ep ∧ es.toList = xs.map (entryOfKey (tupleKind (mixKind P w))) ∧ (xs.map (·.1)).Nodup
theorem DE.ok {P : Program} {w : World} {H : Hp} {h : Heap} {as : List (List Int × V)} {bs : List Addr} {d : Addr} {xs : List (List L2.Key × Addr × Value)} (hd : (d == sysModules) = false) (hl : as.length ≤ sizeLine) (hx : XS as bs xs) (dd : h.DictOfH (tupleKind (mixKind P w)) d xs) : ObjOk P w H h d (DE P w as bs d) := by
  obtain ⟨o, es, ep, h1, h2, h3, h4, _, h5⟩ := dd
  refine ⟨⟨hd, hl, xs, hx, o, es, ep, h1, h2, h3, h4, h5⟩, ⟨o, h1⟩, fun h1 h2 ⟨a1, a2, xs, a3, o, es, ep, b1, b2⟩ k => ⟨a1, a2, xs, a3, o, es, ep, k _ b1, b2⟩⟩
section
variable {X : Cx} {pins : List (Addr × Obj)} {σ : L2.St} {H : Hp} {s : Shared} {a : Addr} {as : List (List Int × V)} {bs : List Addr}
theorem de_of (I : Inv X pins σ H s) (e : H a = some (DE X.prog X.w as bs a)) (k : KB H as bs) : (a == sysModules) = false ∧ as.length ≤ sizeLine ∧ ∃ xs, XS as bs xs ∧ s.heap.DictOfH (tupleKind (mixKind X.prog X.w)) a xs := by
  obtain ⟨h1, h2, xs, h3, o, es, ep, b1, b2, b3, b4, b5⟩ := (show ObjOk X.prog X.w H s.heap a (DE X.prog X.w as bs a) from I.hok a _ e).1
  exact ⟨h1, h2, xs, h3, o, es, ep, b1, b2, b3, b4, h3.keys I.hok k, b5⟩
end
/-! ### the rules -/
def tDisp1E (P : Program) (w : World) (tk tv : TE) : TE := fun σ H Q => ∀ p, H p = none → tk σ (upd H p (DE P w [] [] p)) fun x H1 => tv σ H1 fun y H2 => H2 p = some (DE P w [] [] p) ∧ ∃ (b : Addr) (s : List Int), x = .ref b ∧ KX H2 b s ∧ Q (.ref p) (upd H2 p (DE P w [(s, y)] [b] p))
def tDGetE (P : Program) (w : World) (td ty : TE) : TE := fun σ H Q => td σ H fun x H1 => ty σ H1 fun y H2 => ∃ (a b : Addr) (as : List (List Int × V)) (bs : List Addr) (s : List Int), x = .ref a ∧ y = .ref b ∧ H2 a = some (DE P w as bs a) ∧ KB H2 as bs ∧ KX H2 b s ∧ s ∈ as.map Prod.fst ∧ ∀ v, (s, v) ∈ as → Q v H2
def tDNotInE (P : Program) (w : World) (ty td : TE) : TE := fun σ H Q => ty σ H fun y H1 => td σ H1 fun x H2 => ∃ (a b : Addr) (as : List (List Int × V)) (bs : List Addr) (s : List Int), x = .ref a ∧ y = .ref b ∧ H2 a = some (DE P w as bs a) ∧ KB H2 as bs ∧ KX H2 b s ∧ Q (.bl (!decide (s ∈ as.map Prod.fst))) H2
def sDPutE (P : Program) (w : World) (td ty tv : TE) : TS := fun D σ H => tv σ H fun v H1 => td σ H1 fun x H2 => ty σ H2 fun y H3 => ∃ (a b : Addr) (as : List (List Int × V)) (bs : List Addr) (s : List Int), x = .ref a ∧ y = .ref b ∧ H3 a = some (DE P w as bs a) ∧ KB H3 as bs ∧ KX H3 b s ∧
  s ∉ as.map Prod.fst ∧ as.length < sizeLine ∧ D.nx σ (upd H3 a (DE P w (as ++ [(s, v)]) (bs ++ [b]) a))
section
variable {X : Cx} {o i k v value : Expr} {pos pos' tpos : Pos} {td ty tk tv : TE}
theorem de_typeIs {pins : List (Addr × Obj)} {σ : L2.St} {H : Hp} {s : Shared} {a : Addr} {as : List (List Int × V)} {bs : List Addr} (I : Inv X pins σ H s) (e : H a = some (DE X.prog X.w as bs a)) : s.TypeIs (.ref a) "dict" ∧ ∃ ob, s.heap.get? a = some ob ∧ ob.dict = none := by
  obtain ⟨_, _, xs, _, o, es, ep, b1, b2, _⟩ := (show ObjOk X.prog X.w H s.heap a (DE X.prog X.w as bs a) from I.hok a _ e).1
  exact ⟨⟨o, b1, b2.1⟩, o, b1, b2.2.1⟩
theorem pe_disp1E (hu : X.A.units < cLine) (hk : PE X k tk) (hv : PE X v tv) : PE X (.Dict [some k] [v] pos) (tDisp1E X.prog X.w tk tv) := by
  refine ⟨fun pins s σ H Q I q => ?_⟩
  have hn := I.hok.fresh (Nat.le_refl s.heap.objs.size)
  have hsys : (s.heap.objs.size == sysModules) = false := beq_eq_false_iff_ne.mpr (Ne.symm (Nat.ne_of_lt I.big))
  have I1 := I.laid (a := s.heap.objs.size) (o := DE X.prog X.w [] [] s.heap.objs.size) (h' := s.heap.push { cls := .type "dict", data := .dict #[] }) (t' := s.toks) (fun _ _ q => Heap.get?_push_of_some _ q) (Nat.le_refl _)
    (DE.ok hsys (Nat.zero_le _) .nil (Heap.DictOfH.new s.heap))
  rw [arm_eval_Dict, one_shape, dictDisplay_pairs _ (by simp) (by simp)]
  have ru : (tupleKind (mixKind X.prog X.w)).room X.A := hu
  refine wpAny_bind (wpAny_standAt (wpAny_bind (PySem.wpAny_subDictH (knd := tupleKind (mixKind X.prog X.w)) (Q := fun d s' => wpAny (model X.prog X.w) X.A (pure (Value.ref d)) (EP X pins σ Q) X.xe s') ru (by simp) ?_)))
  show wpAny _ _ (evalPairs (pairTrees [some k] [v] X.env pos)) _ _ _
  refine pairTrees_cons_walk (thn (hk.run pins _ σ _ _ I1 (q _ hn)) fun u s1 ⟨x, H1, I3, rx, q1⟩ => thn (hv.run pins s1 σ H1 _ I3 q1) fun w2 s2 ⟨y, H2, I2, ry, e, b, st, ex, eb, q2⟩ => pairTrees_nil_walk ?_)
  subst ex
  obtain rfl : u = Value.ref b := rx
  obtain ⟨hd, z, xs, rl, dd⟩ := de_of I2 e .nil
  cases rl
  refine ⟨[(keyOf st, b, w2)], ⟨rfl, rfl, key_ofR I2.hok eb, trivial⟩, dd, fun h' tk dd' hs => wpAny_pure ?_⟩
  have hq : ∃ q, h'.get? s.heap.objs.size = some q := let ⟨o, _, _, hq, _⟩ := dd'; ⟨o, hq⟩
  have I4 : Inv X pins σ (upd H2 s.heap.objs.size (DE X.prog X.w [(st, y)] [b] s.heap.objs.size)) { s2 with heap := h', toks := tk } :=
    d_write I2 (by rw [e]; exact True.intro) hs hq (DE.ok hd (by show 1 ≤ sizeLine; decide) (.cons (q := (st, y)) ry .nil) dd')
  exact ⟨.ref s.heap.objs.size, _, I4, rfl, q2⟩
theorem pe_dgetE (hu : X.A.units + 1 < cLine) (ho : PE X o td) (hi : PE X i ty) (hs : NoSl i) : PE X (.Subscript o i pos) (tDGetE X.prog X.w td ty) := by
  refine ⟨fun pins s σ H Q I h => ?_⟩
  refine subD_of PySem.F.slot_dict_getitem.lookup hs (thn (ho.run pins s σ H _ I h) fun u s1 ⟨x, H1, I1, rx, q1⟩ => thn (hi.run pins s1 σ H1 _ I1 q1) fun iv s2 ⟨y, H2, I2, ry, a, b, as, bs, st, ex, ey, e, kb, eb, hm, q2⟩ => ?_)
  subst ex ey
  obtain rfl : u = Value.ref a := rx
  obtain rfl : iv = Value.ref b := ry
  obtain ⟨hd, z, xs, hx, dd⟩ := de_of I2 e kb
  obtain ⟨v, p, h1, h2, h3⟩ := hx.yes hm
  exact ⟨(de_typeIs I2 e).1, wpAny_getItem_heap (tupleKind_room_in1 hu) (key_ofR I2.hok eb) dd h1 ⟨v, H2, I2.tok _, h3, q2 v h2⟩⟩
theorem pc_dnotinE (hu : X.A.units + 1 < cLine) (hi : PE X i ty) (ho : PE X o td) : PC X .NotIn i o (tDNotInE X.prog X.w ty td) := by
  refine ⟨fun pins s σ H Q I h => ?_⟩
  refine thn (hi.run pins s σ H _ I h) fun iv s1 ⟨y, H1, I1, ry, q1⟩ => thn (ho.run pins s1 σ H1 _ I1 q1) fun u s2 ⟨x, H2, I2, rx, a, b, as, bs, st, ex, ey, e, kb, eb, q2⟩ => ?_
  subst ex ey
  obtain rfl : u = Value.ref a := rx
  obtain rfl : iv = Value.ref b := ry
  obtain ⟨hd, z, xs, hx, dd⟩ := de_of I2 e kb
  refine wpAny_notIn_heap (tupleKind_room_in1 hu) (key_ofR I2.hok eb) hd dd ⟨_, H2, I2.tok _, ?_, q2⟩
  by_cases hm : st ∈ as.map Prod.fst
  · obtain ⟨v, p, h1, _⟩ := hx.yes hm
    rw [h1, decide_eq_true hm]
    rfl
  · rw [hx.no hm, decide_eq_false hm]
    rfl
theorem ps_dputE (hu : X.A.units + 1 < cLine) (ho : PE X o td) (hi : PE X i ty) (hv : PE X value tv) (hs : swapsWith value (some (.Subscript o i pos')) pos.line X.env = pure false) : PS X (.Assign [.Subscript o i pos'] value pos) (sDPutE X.prog X.w td ty tv) := by
  refine ⟨fun pins s σ H D I h => ?_⟩
  refine wpAny_Assign_Subscript (thn (hv.run pins s σ H _ I h) fun r s1 ⟨v, H1, I1, rv, q1⟩ => thn (ho.run pins s1 σ H1 _ I1 q1) fun u s2 ⟨x, H2, I2, rx, q2⟩ => thn (hi.run pins s2 σ H2 _ I2 q2) fun iv s3 ⟨y, H3, I3, ry, a, b, as, bs, st, ex, ey, e, kb, eb, hn, hl, q3⟩ => ?_) hs
  subst ex ey
  obtain rfl : u = Value.ref a := rx
  obtain rfl : iv = Value.ref b := ry
  obtain ⟨hd, z, xs, hx, dd⟩ := de_of I3 e kb
  refine wpAny_setItem_heap (hsz := by rw [hx.len]; exact z) (tupleKind_room_in1 hu) (key_ofR I3.hok eb) dd fun h' dd' hs => ?_
  rw [storedH_new (hx.no hn)] at dd'
  have hq : ∃ q, h'.get? a = some q := let ⟨o, _, _, hq, _⟩ := dd'; ⟨o, hq⟩
  exact ⟨σ, _, d_write I3 (by rw [e]; exact True.intro) hs hq (DE.ok hd (by rw [List.length_append]; exact hl) (hx.snoc (q := (st, v)) rv) dd'), q3⟩
def rLenE (P : Program) (w : World) : List V → Hp → VK → Prop := fun xs H Q => ∃ (p : Addr) (as : List (List Int × V)) (bs : List Addr), xs = [.ref p] ∧ H p = some (DE P w as bs p) ∧ KB H as bs ∧ Q (.int ((as.length : Nat) : Int)) H
theorem call_lenE : CallR X (.builtin "len") (rLenE X.prog X.w) := by
  intro pins s σ H xs us Q I r h
  obtain ⟨p, as, bs, rfl, hp, kb, q⟩ := h
  obtain ⟨u, rfl, rx⟩ := vals1 r
  obtain rfl : u = .ref p := rx
  obtain ⟨hd, z, ys, hx, dd⟩ := de_of I hp kb
  refine call_len_dictH hd dd (by rw [hx.len]; rw [sizeLine_eq] at z; omega) ?_
  rw [hx.len]
  exact ⟨.int ((as.length : Nat) : Int), H, I.tok _, ⟨_, rfl⟩, q⟩
/-- d.values() -/
def tValsE (P : Program) (w : World) (to : TE) : TE := fun σ H Q => to σ H fun x H1 => ∃ (a : Addr) (as : List (List Int × V)) (bs : List Addr), x = .ref a ∧ H1 a = some (DE P w as bs a) ∧ ∀ p, H1 p = none → Q (.ref p) (upd H1 p (valuesO p a))
theorem pe_valsE {apos cpos : Pos} (ho : PE X o td) (hbase : attributeBase o "values" X.env (eval o X.env) = eval o X.env := by rfl) (hline : (apos.endLine == cpos.line) = true := by rfl) : PE X (.Call (.Attribute o "values" apos) [] [] cpos) (tValsE X.prog X.w td) := by
  refine ⟨fun pins s σ H Q I h => ?_⟩
  refine wpAny_Call_method0_late hbase hline (thn (ho.run pins s σ H _ I h) fun v s1 ⟨x, H1, I1, r1, a, as, bs, ex, e, q1⟩ => ?_)
  subst ex
  obtain rfl : v = Value.ref a := r1
  obtain ⟨t1, t2⟩ := de_typeIs I1 e
  refine ⟨"dict", "dict.values", PySem.F.plainAttrs_dict, PySem.F.slot_dict_values, PySem.F.type_dict_values, t1, fun b eb => by cases eb; exact t2, Calls.callWith_builtin rfl (PySem.evalArgs_none ?_)⟩
  obtain ⟨hd, _, xs, _, o, es, ep, b1, b2, b3, _⟩ := (show ObjOk X.prog X.w H1 s1.heap a (DE X.prog X.w as bs a) from I1.hok a _ e).1
  have hm : s1.heap.DictRaw a es ep := ⟨o, b1, b2, b3⟩
  refine call_meetsIn PySem.F.slot_dict_values hm.typeIs PySem.F.entry_dict_values (PySem.F.args_dict_values_1 _) (values_meets (es := es) (ep := ep) hd) ⟨hm, ?_⟩
  have hf : H1 s1.heap.objs.size = none := I1.hok.fresh (Nat.le_refl _)
  exact ⟨.ref s1.heap.objs.size, upd H1 s1.heap.objs.size (valuesO s1.heap.objs.size a), I1.laid (t' := s1.toks) (fun b u e => Heap.get?_push_of_some _ e) (Nat.le_refl _) (valuesO_ok (Heap.get?_push_size _ rfl)), rfl, q1 _ hf⟩
theorem XS.vals : ∀ {as : List (List Int × V)} {bs : List Addr} {xs : List (List L2.Key × Addr × Value)}, XS as bs xs → Vals (as.map Prod.snd) (xs.map fun x => x.2.2)
  | _, _, _, .nil => .nil
  | _, _, _, .cons h t => .cons h t.vals
def rListValsE (P : Program) (w : World) : List V → Hp → VK → Prop := fun xs H Q => ∃ (p d : Addr) (as : List (List Int × V)) (bs : List Addr), xs = [.ref p] ∧ H p = some (valuesO p d) ∧ H d = some (DE P w as bs d) ∧ ∀ l, H l = none → Q (.ref l) (upd H l (.lst (as.map Prod.snd)))
theorem call_listValsE (hc : X.calm = true) : CallR X (.type "list") (rListValsE X.prog X.w) := by
  intro pins s σ H xs us Q I r h
  obtain ⟨p, d, as, bs, rfl, hp, hd, q⟩ := h
  obtain ⟨u, rfl, rx⟩ := r.one
  cases rx
  obtain ⟨hs, z, ks, hx, o, es, ep, ho, hxd, hdt, he, _⟩ := (show ObjOk X.prog X.w H s.heap d (DE X.prog X.w as bs d) from I.hok d _ hd).1
  have hv : s.heap.IsValuesView p d := (show ObjOk X.prog X.w H s.heap p (valuesO p d) from I.hok p _ hp).1
  have l1 : es.size = ks.length := size_of_entries he
  have l2 : ks.length = as.length := hx.len
  refine PySem.W.kdl_call (KdlSrc.rawValues (es := es) (ep := ep)) (I.ok.hd hc) ⟨hv, o, ho, hxd, hdt⟩ (by omega) fun h' tk acc' c' kp e it => ?_
  have ea : acc'.toList = ks.map fun x => x.2.2 := by
    refine List.ext_getElem? fun j => ?_
    rw [List.getElem?_map]
    have hl : acc'.toList.length = ks.length := by rw [Array.length_toList, it.1]; exact l1
    by_cases hj : j < ks.length
    · have h1 : acc'.toList[j]? = some acc'.toList[j] := List.getElem?_eq_getElem (by omega)
      have h2 : ks[j]? = some ks[j] := List.getElem?_eq_getElem hj
      obtain ⟨hi, hv'⟩ := it.2 j _ (by rw [← Array.getElem?_toList]; exact h1)
      rw [h1, h2, hv']
      have h3 : es.toList[j]? = some es[j] := by rw [Array.getElem?_toList]; exact Array.getElem?_eq_getElem hi
      rw [he, List.getElem?_map, h2] at h3
      rw [← Option.some.inj h3]
      rfl
    · rw [List.getElem?_eq_none (by omega), List.getElem?_eq_none (by omega)]
      rfl
  have rv : Vals (as.map Prod.snd) acc'.toList := by rw [ea]; exact hx.vals
  refine ⟨.ref s.heap.objs.size, _, I.laid (t' := tk) (o := .lst (as.map Prod.snd)) kp (Nat.le_refl _) ?_, rfl, q _ (I.hok.fresh (Nat.le_refl _))⟩
  exact ⟨by rw [List.length_map]; exact z, acc'.toList, c', rv, by rw [Array.toArray_toList]; exact e⟩
/-- tuple(xs) of a list, told by its very object -/
def kTupF (K : PySem.W.Frag) (x : V) (H : Hp) (Q : VK) : Prop := ∃ p xs, x = .ref p ∧ SqL K H p xs ∧ ∀ q ob, H q = none → ob.dict = none → Q (.ref q) (upd H q (.frz ob (.tup xs)))
theorem pe_tupleF {a : Expr} {ta : TE} {p : Pos} (hg : Gl X "tuple") (hm : X.mg "tuple" = none) (ha : PE X a ta) (na : starEach [a] X.env = (false, eval a X.env) :: starEach [] X.env := by rfl) : PE X (.Call (.Name "tuple" p) [a] [] pos) (tThen ta (kTupF X.K)) := by
  refine ⟨fun pins s σ H Q I h => ?_⟩
  refine Call_ (ld_blt I hg hm boot_tuple (PyProof.Rows.callWith_type1 (one_arg ha I h (fun v s2 x H2 I2 r q => ?_) na) na))
  obtain ⟨p, xs, rfl, hs, q⟩ := q
  obtain rfl : v = .ref p := r
  obtain ⟨its, rv, pl, hz⟩ := I2.list hs
  refine call_tuple_list pl.isList (fun h' hk => ?_) (by rw [List.size_toArray, ← rv.length]; exact hz)
  have I3 : Inv X pins σ H2 { s2 with heap := h' } := I2.kept (t' := s2.toks) hk
  have e : (h'.push { cls := .type "tuple", data := .seq its.toArray }).get? h'.objs.size = some { cls := .type "tuple", data := .seq its.toArray } := Heap.get?_push_size _ rfl
  have I4 : Inv X pins σ (upd H2 h'.objs.size (.frz { cls := .type "tuple", data := .seq its.toArray } (.tup xs))) { s2 with heap := h'.push { cls := .type "tuple", data := .seq its.toArray } } :=
    I3.laid (t' := s2.toks) (fun b o e => Heap.get?_push_of_some _ e) (Nat.le_refl _) ⟨e, hz, its, rv, IsTup.new _ _⟩
  exact ⟨.ref h'.objs.size, _, I4, rfl, q _ _ (I3.hok.fresh (Nat.le_refl _)) rfl⟩
/-- t.index(k) -/
def tTIdxF (to te : TE) : TE := fun σ H Q => to σ H fun x H1 => ∃ (p : Addr) (ns : List Int), x = .ref p ∧ FT H1 p ns ∧ te σ H1 fun y H2 => ∃ k : Int, y = .int k ∧ FT H2 p ns ∧ k ∈ ns ∧ Q (.int (ns.idxOf k : Nat)) H2
theorem pe_tidxF {e : Expr} {to te : TE} {apos cpos : Pos} (ho : PE X o to) (he : PE X e te)
    (hbase : attributeBase o "index" X.env (eval o X.env) = eval o X.env := by rfl) (hline : (apos.endLine == cpos.line) = true := by rfl) (htrees : backTo cpos (starEach [e] X.env) = [(false, eval e X.env)] := by rfl) :
    PE X (.Call (.Attribute o "index" apos) [e] [] cpos) (tTIdxF to te) := by
  refine ⟨fun pins s σ H Q I h => ?_⟩
  refine wpAny_Call_method1_late hbase hline htrees (thn (ho.run pins s σ H _ I h) fun v s1 ⟨x, H1, I1, r1, p, ns, ex, ⟨ob, hp, hdn⟩, q1⟩ => ?_)
  subst ex
  obtain rfl : v = Value.ref p := r1
  obtain ⟨g, z, its, rv, hl⟩ := (show ObjOk X.prog X.w H1 s1.heap p (.frz ob (.tup (ns.map V.int))) from I1.hok p _ hp)
  have tI : s1.TypeIs (.ref p) "tuple" := let ⟨o, ho, hc, _⟩ := hl; ⟨o, ho, hc⟩
  refine ⟨"tuple", "tuple.index", PySem.F.plainAttrs_tuple, PySem.F.slot_tuple_index, PySem.F.type_tuple_index, tI, fun b eb => by cases eb; exact ⟨ob, g, hdn⟩, ?_⟩
  refine Calls.callWith_builtin rfl (Calls.evalArgs_plain (Calls.spliced_cons (thn (he.run pins s1 σ H1 _ I1 q1) fun iv s2 ⟨y, H2, I2, ry, k, ey, ⟨ob2, hp2, _⟩, hk, q2⟩ => Calls.spliced_nil ?_)))
  subst ey
  obtain ⟨t, rfl⟩ := (show ∃ t, iv = Value.int k t from ry)
  obtain ⟨_, _, its2, rv2, hl2⟩ := (show ObjOk X.prog X.w H2 s2.heap p (.frz ob2 (.tup (ns.map V.int))) from I2.hok p _ hp2)
  exact PySem.SeqAt.tuple_index_ints hl2 rv2.ints hk ⟨.int (ns.idxOf k : Nat), H2, I2.tok _, ⟨_, rfl⟩, q2⟩
end
end RH
set_option Elab.async false
set_option linter.all false
set_option maxRecDepth 100000
set_option maxHeartbeats 2000000
namespace RH
open PySem PySem.Spec PyProof.Rows L2
def topS (i : Nat) : Stmt := PySem.Challenge.pw_restlesshelf_k03_known_shelves.main.body.getD i (.Pass ⟨0, 0, 0, 0⟩)
abbrev st_is_integer : Stmt := topS 9
theorem sc_is_integer : FnScope ["value"] ["value"] (defScope st_is_integer) :=
  ⟨rfl, rfl, rfl, by decide +kernel, rfl, by decide +kernel, by decide +kernel⟩
abbrev st_is_number : Stmt := topS 10
theorem sc_is_number : FnScope ["value", "low", "high"] ["value", "low", "high"] (defScope st_is_number) :=
  ⟨rfl, rfl, rfl, by decide +kernel, rfl, by decide +kernel, by decide +kernel⟩
abbrev st_is_row : Stmt := topS 11
theorem sc_is_row : FnScope ["value", "low", "high"] ["value", "low", "high"] (defScope st_is_row) :=
  ⟨rfl, rfl, rfl, by decide +kernel, rfl, by decide +kernel, by decide +kernel⟩
abbrev st_is_place : Stmt := topS 12
theorem sc_is_place : FnScope ["value", "places"] ["value", "places"] (defScope st_is_place) :=
  ⟨rfl, rfl, rfl, by decide +kernel, rfl, by decide +kernel, by decide +kernel⟩
abbrev st_are_places : Stmt := topS 13
theorem sc_are_places : FnScope ["value", "places", "place"] ["value", "places"] (defScope st_are_places) :=
  ⟨rfl, rfl, rfl, by decide +kernel, rfl, by decide +kernel, by decide +kernel⟩
abbrev st_is_layout : Stmt := topS 14
theorem sc_is_layout : FnScope ["value", "places"] ["value", "places"] (defScope st_is_layout) :=
  ⟨rfl, rfl, rfl, by decide +kernel, rfl, by decide +kernel, by decide +kernel⟩
abbrev st_check_number : Stmt := topS 15
theorem sc_check_number : FnScope ["value", "low", "high"] ["value", "low", "high"] (defScope st_check_number) :=
  ⟨rfl, rfl, rfl, by decide +kernel, rfl, by decide +kernel, by decide +kernel⟩
abbrev st_check_places : Stmt := topS 16
theorem sc_check_places : FnScope ["places"] ["places"] (defScope st_check_places) :=
  ⟨rfl, rfl, rfl, by decide +kernel, rfl, by decide +kernel, by decide +kernel⟩
abbrev st_check_habit : Stmt := topS 17
theorem sc_check_habit : FnScope ["habit", "place", "moves"] ["habit"] (defScope st_check_habit) :=
  ⟨rfl, rfl, rfl, by decide +kernel, rfl, by decide +kernel, by decide +kernel⟩
abbrev st_check_layout : Stmt := topS 18
theorem sc_check_layout : FnScope ["layout", "places"] ["layout", "places"] (defScope st_check_layout) :=
  ⟨rfl, rfl, rfl, by decide +kernel, rfl, by decide +kernel, by decide +kernel⟩
abbrev st_check_place : Stmt := topS 19
theorem sc_check_place : FnScope ["place", "places"] ["place", "places"] (defScope st_check_place) :=
  ⟨rfl, rfl, rfl, by decide +kernel, rfl, by decide +kernel, by decide +kernel⟩
abbrev st_places_of_habit : Stmt := topS 22
theorem sc_places_of_habit : FnScope ["habit"] ["habit"] (defScope st_places_of_habit) :=
  ⟨rfl, rfl, rfl, by decide +kernel, rfl, by decide +kernel, by decide +kernel⟩
abbrev st_move : Stmt := topS 23
theorem sc_move : FnScope ["habit", "layout", "place", "moves", "stood"] ["habit", "layout", "place"] (defScope st_move) :=
  ⟨rfl, rfl, rfl, by decide +kernel, rfl, by decide +kernel, by decide +kernel⟩
abbrev st_depths : Stmt := topS 24
theorem sc_depths : FnScope ["start", "touches", "step", "most", "found", "level", "further", "state", "place", "new"] ["start", "touches", "step", "most"] (defScope st_depths) :=
  ⟨rfl, rfl, rfl, by decide +kernel, rfl, by decide +kernel, by decide +kernel⟩
abbrev st_traced : Stmt := topS 25
theorem sc_traced : FnScope ["came", "state", "word", "place"] ["came", "state"] (defScope st_traced) :=
  ⟨rfl, rfl, rfl, by decide +kernel, rfl, by decide +kernel, by decide +kernel⟩
abbrev st_least_word : Stmt := topS 26
theorem sc_least_word : FnScope ["start", "touches", "step", "is_goal", "came", "level", "further", "state", "place", "new"] ["start", "touches", "step", "is_goal"] (defScope st_least_word) :=
  ⟨rfl, rfl, rfl, by decide +kernel, rfl, by decide +kernel, by decide +kernel⟩
abbrev st_layout_depths : Stmt := topS 27
theorem sc_layout_depths : FnScope ["habit", "layout"] ["habit", "layout"] (defScope st_layout_depths) :=
  ⟨rfl, rfl, rfl, by decide +kernel, rfl, by decide +kernel, by decide +kernel⟩
abbrev st_word_to_layout : Stmt := topS 28
theorem sc_word_to_layout : FnScope ["habit", "one", "other"] ["habit", "one", "other"] (defScope st_word_to_layout) :=
  ⟨rfl, rfl, rfl, by decide +kernel, rfl, by decide +kernel, by decide +kernel⟩
abbrev st_touched : Stmt := topS 30
theorem sc_touched : FnScope ["habit", "layout", "place"] ["habit", "layout", "place"] (defScope st_touched) :=
  ⟨rfl, rfl, rfl, by decide +kernel, rfl, by decide +kernel, by decide +kernel⟩
abbrev st_word_between : Stmt := topS 31
theorem sc_word_between : FnScope ["habit", "one", "other"] ["habit", "one", "other"] (defScope st_word_between) :=
  ⟨rfl, rfl, rfl, by decide +kernel, rfl, by decide +kernel, by decide +kernel⟩
abbrev st_distance : Stmt := topS 32
theorem sc_distance : FnScope ["habit", "one", "other", "word"] ["habit", "one", "other"] (defScope st_distance) :=
  ⟨rfl, rfl, rfl, by decide +kernel, rfl, by decide +kernel, by decide +kernel⟩
abbrev st_farthest : Stmt := topS 33
theorem sc_farthest : FnScope ["habit", "layout"] ["habit", "layout"] (defScope st_farthest) :=
  ⟨rfl, rfl, rfl, by decide +kernel, rfl, by decide +kernel, by decide +kernel⟩
abbrev st_order : Stmt := topS 34
theorem sc_order : FnScope ["habit"] ["habit"] (defScope st_order) :=
  ⟨rfl, rfl, rfl, by decide +kernel, rfl, by decide +kernel, by decide +kernel⟩
abbrev st_front_habit : Stmt := topS 35
theorem sc_front_habit : FnScope ["places", "place"] ["places"] (defScope st_front_habit) :=
  ⟨rfl, rfl, rfl, by decide +kernel, rfl, by decide +kernel, by decide +kernel⟩
abbrev st_front_permutation : Stmt := topS 36
theorem sc_front_permutation : FnScope ["places", "place", "books_before", "books_behind"] ["places", "place"] (defScope st_front_permutation) :=
  ⟨rfl, rfl, rfl, by decide +kernel, rfl, by decide +kernel, by decide +kernel⟩
abbrev st_neighbour_habit : Stmt := topS 37
theorem sc_neighbour_habit : FnScope ["places", "place"] ["places"] (defScope st_neighbour_habit) :=
  ⟨rfl, rfl, rfl, by decide +kernel, rfl, by decide +kernel, by decide +kernel⟩
abbrev st_neighbour_permutation : Stmt := topS 38
theorem sc_neighbour_permutation : FnScope ["places", "place", "moves"] ["places", "place"] (defScope st_neighbour_permutation) :=
  ⟨rfl, rfl, rfl, by decide +kernel, rfl, by decide +kernel, by decide +kernel⟩
abbrev st_turning_habit : Stmt := topS 39
theorem sc_turning_habit : FnScope ["places", "place", "stood"] ["places"] (defScope st_turning_habit) :=
  ⟨rfl, rfl, rfl, by decide +kernel, rfl, by decide +kernel, by decide +kernel⟩
abbrev st__law_taken : Stmt := topS 41
theorem sc__law_taken : FnScope ["row", "many", "found", "cell"] ["row", "many"] (defScope st__law_taken) :=
  ⟨rfl, rfl, rfl, by decide +kernel, rfl, by decide +kernel, by decide +kernel⟩
abbrev st__law_order : Stmt := topS 42
theorem sc__law_order : FnScope ["row", "many", "left", "found"] ["row", "many"] (defScope st__law_order) :=
  ⟨rfl, rfl, rfl, by decide +kernel, rfl, by decide +kernel, by decide +kernel⟩
abbrev st_law : Stmt := topS 43
theorem sc_law : FnScope ["script", "row", "places", "habit", "layout", "other", "place", "books", "moved", "found", "last", "kept", "many", "tail", "total", "number", "near", "turned", "spot", "name", "stands"] ["script"] (defScope st_law) :=
  ⟨rfl, rfl, rfl, by decide +kernel, rfl, by decide +kernel, by decide +kernel⟩
/-! ### what the top has written -/
/-- the def x of the text stands in the module under its name -/
structure Df (K : PySem.W.Frag) (mg : Str → Option Value) (x : Str) (st : Stmt) (ps : List Str) : Prop where
  ex : ∃ (f : Addr) (fd : FuncData), Fun K x x st f fd ∧ mg x = some (.ref f) ∧ Binds K fd ps []
/-- names of the interpreter that the module leaves alone -/
structure Bu (mg : Str → Option Value) : Prop where
  isi : mg "isinstance" = none
  int : mg "int" = none
  bool : mg "bool" = none
  str : mg "str" = none
  tuple : mg "tuple" = none
  list : mg "list" = none
  len : mg "len" = none
  all : mg "all" = none
  zip : mg "zip" = none
  range : mg "range" = none
  sorted : mg "sorted" = none
  enumerate : mg "enumerate" = none
  max : mg "max" = none
section
variable {P : Program} {w : World} {K : PySem.W.Frag} {mg : Str → Option Value} {base : Heap}
/-- a def that may be called by its name -/
structure Cal (P : Program) (w : World) (K : PySem.W.Frag) (mg : Str → Option Value) (base : Heap) (k : Nat) (x : Str) (sp : Sp) : Prop where
  ex : ∃ (f : Addr) (fd : FuncData) (ps : List Str), FnOk P w K mg base CX0 k f fd ps sp ∧ mg x = some (.ref f) ∧ PySem.W.keepIn K (.ref f) = true ∧ Binds K fd ps []
theorem mkCal {x : Str} {st : Stmt} {N ps : List Str} {k : Nat} {sp : Sp} (F : Df K mg x st ps) (S : FnScope N ps (defScope st)) (len : ∀ vs H Q E, sp vs H Q E → vs.length = ps.length)
    (hbody : ∀ (f : Addr) (cdv : Value) (A : Around) (outer : List Env) (s : Shared) (H : Hp) (vs : List V) (Q : VK) (E : XK), Room k (A.deeper (envOfC x (defScope st) s.heap.objs.size f cdv)) → sp vs H Q E →
      ∃ t, PSs (cxOf CX0 P w K mg base N x (defScope st) f cdv A outer s H E).nox (defBody st) t ∧ t { nx := fun _ H' => Q .non H', rt := Q } (start N vs) H) : Cal P w K mg base (k + 1) x sp := by
  obtain ⟨f, fd, F, g, b⟩ := F.ex
  exact ⟨f, fd, ps, F.ok S len (hbody f), g, F.kp, b⟩
theorem Cal.imp {k : Nat} {x : Str} {sp sp' : Sp} (c : Cal P w K mg base k x sp) (h : ∀ vs H Q E, sp' vs H Q E → sp vs H Q E) : Cal P w K mg base k x sp' := by
  obtain ⟨f, fd, ps, F, g, kp, b⟩ := c.ex
  exact ⟨f, fd, ps, F.imp h, g, kp, b⟩
end
theorem pc {X : Cx} {k j : Nat} {x : Str} {sp : Sp} {p pos : Pos} {e : Expr} {es : List Expr} {t : TA} (c : Cal X.prog X.w X.K X.mg X.base k x sp) (hr : Room j X.A) (ha : PA X (e :: es) t) (hk : k ≤ j := by decide) (hg : Gl X x := by rfl)
    (hdb : (x == ("__debug__" : Str)) = false := by decide) (he : starEach (e :: es) X.env = (false, eval e X.env) :: starEach es X.env := by rfl) (hpl : (backTo pos (starEach es X.env)).any (·.1) = false := by rfl) :
    PE X (.Call (.Name x p) (e :: es) [] pos) (tCall sp [] E0 t) := by
  obtain ⟨f, fd, ps, F, hm, kp, b⟩ := c.ex
  exact pe_call F (hr.mono hk) hg hm kp b .nil pass0 ha hdb he hpl
/-- a statement that is never come to -/
theorem ps_no {X : Cx} {st : Stmt} : PS X st (fun _ _ _ => False) := ⟨fun _ _ _ _ _ _ h => h.elim⟩
/-! ### heaps, tuples of ints, and of such -/
theorem same_new {H : Hp} {p : Addr} {o : HO} (h : H p = none) : Same H (upd H p o) := fun b x e => by
  rw [upd_ne (ne_of_none e h)]
  exact e
theorem seqT {K : PySem.W.Frag} {H H' : Hp} {a : Addr} {xs : List V} (e : ∀ o, H a = some o → H' a = some o) (h : SqT K H a xs) : SqT K H' a xs := by
  rcases h with (h | ⟨o, h⟩) | h
  · exact .inl (.inl (e _ h))
  · exact .inl (.inr ⟨o, e _ h⟩)
  · exact .inr h
theorem onT {K : PySem.W.Frag} {H H' : Hp} {a : Addr} {xs : List V} (e : Same H H') (h : SqT K H a xs) : SqT K H' a xs := seqT (fun o => e a o) h
theorem tupAt {K : PySem.W.Frag} {H : Hp} {a : Addr} {xs : List V} (h : H a = some (.tup xs)) : SqT K H a xs := .inl (.inl h)
theorem lstAt {K : PySem.W.Frag} {H : Hp} {a : Addr} {xs : List V} (h : H a = some (.lst xs)) : SqL K H a xs := .inl (.inl h)
/-- a tuple's type -/
theorem ty_tup {K : PySem.W.Frag} {H : Hp} {a : Addr} {xs : List V} (h : SqT K H a xs) : TyX K H (.ref a) (.type "tuple") := by
  rcases h with (h | ⟨o, h⟩) | ⟨o, its, n, h, c, _⟩
  · exact .base (.tup h)
  · exact .fTuple h
  · exact .kTuple h c
/-- each by each -/
inductive Each {α : Type} (R : V → α → Prop) : List V → List α → Prop
  | nil : Each R [] []
  | cons {v : V} {d : α} {vs : List V} {ds : List α} : R v d → Each R vs ds → Each R (v :: vs) (d :: ds)
theorem Each.len {α : Type} {R : V → α → Prop} : ∀ {vs : List V} {ds : List α}, Each R vs ds → vs.length = ds.length
  | _, _, .nil => rfl
  | _, _, .cons _ t => congrArg (· + 1) t.len
theorem Each.imp {α : Type} {R R' : V → α → Prop} (f : ∀ v d, R v d → R' v d) : ∀ {vs : List V} {ds : List α}, Each R vs ds → Each R' vs ds
  | _, _, .nil => .nil
  | _, _, .cons h t => .cons (f _ _ h) (t.imp f)
theorem Each.at {α : Type} {R : V → α → Prop} : ∀ {vs : List V} {ds : List α} {i : Nat} {v : V}, Each R vs ds → vs[i]? = some v → ∃ d, ds[i]? = some d ∧ R v d
  | _, _, _, _, .nil, e => by simp at e
  | _, _, 0, _, .cons h _, e => by
    have e' := Option.some.inj e
    subst e'
    exact ⟨_, rfl, h⟩
  | _, _, i + 1, _, .cons _ t, e => t.at (i := i) e
theorem Each.of {α : Type} {R : V → α → Prop} : ∀ {vs : List V} {ds : List α} {i : Nat} {d : α}, Each R vs ds → ds[i]? = some d → ∃ v, vs[i]? = some v ∧ R v d
  | _, _, _, _, .nil, e => by simp at e
  | _, _, 0, _, .cons h _, e => by
    have e' := Option.some.inj e
    subst e'
    exact ⟨_, rfl, h⟩
  | _, _, i + 1, _, .cons _ t, e => t.of (i := i) e
theorem Each.snoc {α : Type} {R : V → α → Prop} {v : V} {d : α} (h : R v d) : ∀ {vs : List V} {ds : List α}, Each R vs ds → Each R (vs ++ [v]) (ds ++ [d])
  | _, _, .nil => .cons h .nil
  | _, _, .cons g t => .cons g (t.snoc h)
/-- a tuple of ints -/
def TI (K : PySem.W.Frag) (H : Hp) (v : V) (ns : List Int) : Prop := ∃ a, v = .ref a ∧ SqT K H a (ns.map V.int)
/-- a tuple of such -/
def TII (K : PySem.W.Frag) (H : Hp) (v : V) (nss : List (List Int)) : Prop := ∃ a vs, v = .ref a ∧ SqT K H a vs ∧ Each (TI K H) vs nss
def THs (K : PySem.W.Frag) (H : Hp) (v : V) (hs : List (List (List Int))) : Prop := ∃ a vs, v = .ref a ∧ SqT K H a vs ∧ Each (TII K H) vs hs
/-- all tuples stand -/
def Tups (K : PySem.W.Frag) (H H' : Hp) : Prop := ∀ a xs, SqT K H a xs → SqT K H' a xs
theorem Same.tups {K : PySem.W.Frag} {H H' : Hp} (e : Same H H') : Tups K H H' := fun _ _ h => onT e h
theorem TI.on {K : PySem.W.Frag} {H H' : Hp} {v : V} {ns : List Int} (e : Tups K H H') (h : TI K H v ns) : TI K H' v ns := let ⟨a, h1, h2⟩ := h; ⟨a, h1, e _ _ h2⟩
theorem TII.on {K : PySem.W.Frag} {H H' : Hp} {v : V} {nss : List (List Int)} (e : Tups K H H') (h : TII K H v nss) : TII K H' v nss := let ⟨a, vs, h1, h2, h3⟩ := h; ⟨a, vs, h1, e _ _ h2, h3.imp fun _ _ z => z.on e⟩
theorem THs.on {K : PySem.W.Frag} {H H' : Hp} {v : V} {hs : List (List (List Int))} (e : Tups K H H') (h : THs K H v hs) : THs K H' v hs := let ⟨a, vs, h1, h2, h3⟩ := h; ⟨a, vs, h1, e _ _ h2, h3.imp fun _ _ z => z.on e⟩
theorem map_at {ns : List Int} {i : Nat} {x : V} (h : (ns.map V.int)[i]? = some x) : ∃ n, ns[i]? = some n ∧ x = .int n := by
  rw [List.getElem?_map] at h
  cases e : ns[i]? with
  | none =>
    rw [e] at h
    cases h
  | some n =>
    rw [e] at h
    exact ⟨n, rfl, (Option.some.inj h).symm⟩
theorem at_map {ns : List Int} {i : Nat} {n : Int} (h : ns[i]? = some n) : (ns.map V.int)[i]? = some (.int n) := by
  rw [List.getElem?_map, h]
  rfl
theorem all_snoc {α : Type} (f : α → Bool) {l : List α} {i : Nat} {x : α} (h : l[i]? = some x) : (l.take (i + 1)).map f = (l.take i).map f ++ [f x] := by
  rw [List.take_add_one, h, List.map_append]
  rfl
/-! ### lists of ints, compared -/
theorem dpAll_ints {K : PySem.W.Frag} {H : Hp} : ∀ ns : List Int, DpAll K H (ns.map V.int) (ns.map PyData.int)
  | [] => .nil
  | n :: ns => .cons (.int n) (dpAll_ints ns)
theorem dp_lst {K : PySem.W.Frag} {H : Hp} {a : Addr} {ns : List Int} (h : SqL K H a (ns.map V.int)) : Dp K H (.ref a) (.list (ns.map PyData.int)) := .lst h (dpAll_ints ns)
theorem dp_tup {K : PySem.W.Frag} {H : Hp} {a : Addr} {ns : List Int} (h : SqT K H a (ns.map V.int)) : Dp K H (.ref a) (.tuple (ns.map PyData.int)) := .tup h (dpAll_ints ns)
theorem eqv_lst (ns ms : List Int) : PyData.eqv (.list (ns.map PyData.int)) (.list (ms.map PyData.int)) = decide (ns = ms) := by
  rw [PyData.eqv]
  exact PySem.W.ked_eqvAll ns ms
def rg (n : Nat) : List Int := (List.range n).map fun i : Nat => (i : Int)
theorem rgV_rg (n : Nat) : rgV 0 (n : Int) = (rg n).map V.int := by
  unfold rgV rg
  rw [List.map_map, Int.sub_zero, Int.toNat_natCast]
  refine List.map_congr_left fun i _ => ?_
  show V.int (0 + (i : Int)) = V.int (i : Int)
  rw [Int.zero_add]
theorem rg_len (n : Nat) : (rg n).length = n := by
  unfold rg
  rw [List.length_map, List.length_range]
theorem rg_mem {n : Nat} {x : Int} : x ∈ rg n ↔ 0 ≤ x ∧ x < n := by
  unfold rg
  rw [List.mem_map]
  constructor
  · rintro ⟨i, h, rfl⟩
    have := List.mem_range.mp h
    omega
  · rintro ⟨h1, h2⟩
    exact ⟨x.toNat, List.mem_range.mpr (by omega), by omega⟩
theorem rg_at {n i : Nat} (h : i < n) : (rg n)[i]? = some (i : Int) := by
  unfold rg
  rw [List.getElem?_map, List.getElem?_range h]
  rfl
/-! ### walks over enumerate and zip of tuples -/
section
variable {K : PySem.W.Frag} {a b : Addr} {xs ys : List V}
theorem for_enumT {g : TG} {tb : TS} {D : Ends} {σ : L2.St} {H : Hp} (Pv : Nat → L2.St → Hp → Prop) (h0 : Pv 0 σ H) (hl : ∀ i σ H, Pv i σ H → SqT K H a xs)
    (hs : ∀ i x T σ H, xs[i]? = some x → Pv i σ H → H T = none → g (.ref T) σ (upd H T (.tup [.int (i : Nat), x])) fun σ2 H2 => tb { D with nx := Pv (i + 1), ct := Pv (i + 1), bk := D.nx } σ2 H2) (hd : ∀ σ H, Pv xs.length σ H → D.nx σ H) :
    ∃ W : Nat → Nat → L2.St → Hp → Prop, (∃ m, W 0 m σ H) ∧ ∀ i m σ H, W i m σ H →
      ((IteT K a).stop i H ∧ D.nx σ H) ∨ ((IteT K a).go i H ∧ ∃ N : L2.St → Hp → Prop, (∀ σ' H', N σ' H' → ∃ m', m' < m ∧ W (i + 1) m' σ' H') ∧ ∀ x H', (IteT K a).yld i H x H' → g x σ H' fun σ2 H2 => tb { D with nx := N, ct := N, bk := D.nx } σ2 H2) := by
  refine ⟨fun i m σ H => m = xs.length - i ∧ i ≤ xs.length ∧ Pv i σ H, ⟨xs.length, rfl, Nat.zero_le _, h0⟩, ?_⟩
  rintro i m σ H ⟨rfl, hi, p⟩
  have q := hl i σ H p
  by_cases hlt : i < xs.length
  · have hx : xs[i]? = some xs[i] := List.getElem?_eq_getElem hlt
    refine .inr ⟨⟨xs, _, q, hx⟩, Pv (i + 1), fun σ' H' p' => ⟨xs.length - (i + 1), by omega, rfl, hlt, p'⟩, fun v H' y => ?_⟩
    obtain ⟨T, x', rfl, hT, rfl, f1⟩ := y
    exact hs i x' T σ H (f1 xs q) p hT
  · have e : i = xs.length := by omega
    subst e
    exact .inl ⟨⟨xs, q, Nat.le_refl _⟩, hd σ H p⟩
end
end RH
set_option Elab.async false
set_option linter.all false
set_option maxRecDepth 100000
set_option maxHeartbeats 2000000
namespace RH
open PySem PySem.Spec PyProof.Rows L2
/-! ### the checks -/
section
variable {P : Program} {w : World} {K : PySem.W.Frag} {mg : Str → Option Value} {base : Heap}
/-- an int alone: its kind -/
def spIsInteger : Sp := fun vs H Q _ => ∃ i : Int, vs = [.int i] ∧ Q (.bl true) H
theorem ok_is_integer (F : Df K mg "is_integer" st_is_integer ["value"]) (B : Bu mg) : Cal P w K mg base 1 "is_integer" spIsInteger := by
  refine mkCal F sc_is_integer (fun vs H Q E h => ?_) (fun f cdv A outer s H vs Q E hr h => ?_)
  · obtain ⟨i, rfl, _⟩ := h
    rfl
  · obtain ⟨i, rfl, q⟩ := h
    refine ⟨_, pss_one (ps_ret (pe_and (pe_callB call_isi (by rfl) B.isi (by decide +kernel) (pa_cons (pv 0) (pa_cons (pe_bltn (v := .ty "int") (by rfl) B.int (by decide +kernel) rfl) pa_nil)))
      (pe_one (pe_not (pe_callB call_isi (by rfl) B.isi (by decide +kernel) (pa_cons (pv 0) (pa_cons (pe_bltn (v := .ty "bool") (by rfl) B.bool (by decide +kernel) rfl) pa_nil))))))), ?_⟩
    exact ⟨_, rfl, .int i, .ty "int", _, _, true, rfl, .ty "int", .base (.int i), kit_ty (by decide +kernel), true, rfl,
      _, rfl, .int i, .ty "bool", _, _, false, rfl, .ty "bool", .base (.int i), kit_ty (by decide +kernel), false, rfl, q⟩
def spIsNumber : Sp := fun vs H Q _ => ∃ i lo hi : Int, vs = [.int i, .int lo, .int hi] ∧ Q (.bl (decide (lo ≤ i) && decide (i ≤ hi))) H
theorem ok_is_number (F : Df K mg "is_number" st_is_number ["value", "low", "high"]) (C1 : Cal P w K mg base 1 "is_integer" spIsInteger) : Cal P w K mg base 2 "is_number" spIsNumber := by
  refine mkCal F sc_is_number (fun vs H Q E h => ?_) (fun f cdv A outer s H vs Q E hr h => ?_)
  · obtain ⟨i, lo, hi, rfl, _⟩ := h
    rfl
  · obtain ⟨i, lo, hi, rfl, q⟩ := h
    refine ⟨_, pss_one (ps_ret (pe_and (pc C1 hr (pa_cons (pv 0) pa_nil)) (pe_one (pe_chain op_le op_le (pv 1) (pv 0) (pv 2))))), ?_⟩
    refine ⟨_, rfl, i, rfl, true, rfl, _, rfl, _, rfl, lo, i, rfl, rfl, _, rfl, ite2 (fun e => ?_) (fun e => ?_)⟩
    · refine ⟨_, rfl, i, hi, rfl, rfl, ?_⟩
      rw [e, Bool.true_and] at q
      exact q
    · have e' : decide (lo ≤ i) = false := by simpa using e
      rw [e', Bool.false_and] at q
      exact q
end
end RH
set_option Elab.async false
set_option linter.all false
set_option maxRecDepth 100000
set_option maxHeartbeats 2000000
namespace RH
open PySem PySem.Spec PyProof.Rows L2
section
variable {P : Program} {w : World} {K : PySem.W.Frag} {mg : Str → Option Value} {base : Heap}
def spIsRow (K : PySem.W.Frag) : Sp := fun vs H Q _ => ∃ (a : Addr) (xs : List V) (lo hi : Int), vs = [.ref a, .int lo, .int hi] ∧ SqT K H a xs ∧ Q (.bl (decide (lo ≤ (xs.length : Int)) && decide ((xs.length : Int) ≤ hi))) H
theorem ok_is_row (F : Df K mg "is_row" st_is_row ["value", "low", "high"]) (B : Bu mg) : Cal P w K mg base 1 "is_row" (spIsRow K) := by
  refine mkCal F sc_is_row (fun vs H Q E h => ?_) (fun f cdv A outer s H vs Q E hr h => ?_)
  · obtain ⟨a, xs, lo, hi, rfl, _⟩ := h
    rfl
  · obtain ⟨a, xs, lo, hi, rfl, hS, q⟩ := h
    refine ⟨_, pss_one (ps_ret (pe_and (pe_callB call_isi (by rfl) B.isi (by decide +kernel) (pa_cons (pv 0) (pa_cons (pe_bltn (v := .ty "tuple") (by rfl) B.tuple (by decide +kernel) rfl) pa_nil)))
      (pe_one (pe_chain op_le op_le (pv 1) (pe_callB call_len_seq (by rfl) B.len PySem.boot_len (pa_cons (pv 0) pa_nil)) (pv 2))))), ?_⟩
    refine ⟨_, rfl, .ref a, .ty "tuple", _, _, true, rfl, .ty "tuple", ty_tup hS, kit_ty (by decide +kernel), true, rfl, _, rfl, _, rfl, a, xs, rfl, .inr hS, lo, (xs.length : Int), rfl, rfl, _, rfl, ite2 (fun e => ?_) (fun e => ?_)⟩
    · refine ⟨_, rfl, _, hi, rfl, rfl, ?_⟩
      rw [e, Bool.true_and] at q
      exact q
    · have e' : decide (lo ≤ (xs.length : Int)) = false := by simpa using e
      rw [e', Bool.false_and] at q
      exact q
def spIsPlace : Sp := fun vs H Q _ => ∃ i p : Int, vs = [.int i, .int p] ∧ Q (.bl (decide (0 ≤ i) && decide (i ≤ p - 1))) H
theorem ok_is_place (F : Df K mg "is_place" st_is_place ["value", "places"]) (C2 : Cal P w K mg base 2 "is_number" spIsNumber) : Cal P w K mg base 3 "is_place" spIsPlace := by
  refine mkCal F sc_is_place (fun vs H Q E h => ?_) (fun f cdv A outer s H vs Q E hr h => ?_)
  · obtain ⟨i, p, rfl, _⟩ := h
    rfl
  · obtain ⟨i, p, rfl, q⟩ := h
    refine ⟨_, pss_one (ps_ret (pc C2 hr (pa_cons (pv 0) (pa_cons pe_int (pa_cons (pe_op op_sub (pv 1) pe_int) pa_nil))))), ?_⟩
    exact ⟨_, rfl, _, rfl, p, 1, rfl, rfl, i, 0, p - 1, rfl, q⟩
/-- all are places -/
def inP (p : Int) (ns : List Int) : Bool := ns.all fun i => decide (0 ≤ i) && decide (i ≤ p - 1)
def spArePlaces (K : PySem.W.Frag) : Sp := fun vs H Q _ => ∃ (v : V) (ns : List Int) (p : Int), vs = [v, .int p] ∧ TI K H v ns ∧ ns.length ≤ 1000 ∧ ∀ H', Same H H' → Q (.bl (inP p ns)) H'
theorem ok_are_places (F : Df K mg "are_places" st_are_places ["value", "places"]) (B : Bu mg) (C3 : Cal P w K mg base 3 "is_place" spIsPlace) : Cal P w K mg base 4 "are_places" (spArePlaces K) := by
  refine mkCal F sc_are_places (fun vs H Q E h => ?_) (fun f cdv A outer s H vs Q E hr h => ?_)
  · obtain ⟨v, ns, p, rfl, _⟩ := h
    rfl
  · obtain ⟨v, ns, p, rfl, ⟨a, rfl, hS⟩, hlen, q⟩ := h
    refine ⟨_, pss_one (ps_ret (pe_and (pe_callB call_isi (by rfl) B.isi (by decide +kernel) (pa_cons (pv 0) (pa_cons (pe_bltn (v := .ty "tuple") (by rfl) B.tuple (by decide +kernel) rfl) pa_nil)))
      (pe_one (pe_callB (cr_all rfl) (by rfl) B.all (by decide +kernel) (pa_cons (pe_lc (own := [("place", 2)]) (g := gName 2) (tt := tYes) rfl sc_are_places.nd (pi_tup (pv 0)) (blkOk_by (N := ["value", "places", "place"]) (sc := defScope st_are_places) (by decide +kernel))
        (fun _ _ _ _ _ => pg_name (i := 2) sc_are_places.nd rfl (Or.inl rfl)) (fun _ _ _ _ _ => pts_nil) (fun _ _ _ _ _ => pc C3 hr (pa_cons (pv 2) (pa_cons (pv 1) pa_nil)))) pa_nil))))), ?_⟩
    refine ⟨_, rfl, .ref a, .ty "tuple", _, _, true, rfl, .ty "tuple", ty_tup hS, kit_ty (by decide +kernel), true, rfl, ?_⟩
    refine ⟨_, rfl, a, rfl, ⟨_, hS⟩, fun D hD => ?_⟩
    refine lc_tup (xs := ns.map V.int) (fun i H' => Same H H' ∧ H' D = some (.lst (((ns.take i).map fun i => decide (0 ≤ i) && decide (i ≤ p - 1)).map V.bl))) ⟨same_new hD, upd_same⟩ (fun i H' _ h' => onT h'.1 hS) (fun i x H' hx h' => ?_) (fun H' h' => ?_)
    · obtain ⟨n, hn, rfl⟩ := map_at hx
      obtain ⟨sm, eD⟩ := h'
      refine ⟨rfl, _, rfl, _, rfl, n, p, rfl, _, eD, ?_, ?_, ?_⟩
      · rw [List.length_map, List.length_map, List.length_take]
        exact small1000 (by omega)
      · intro b o e
        rw [upd_ne (ne_of_none e hD)]
        exact sm b o e
      · rw [upd_same, all_snoc _ hn, List.map_append]
        rfl
    · obtain ⟨sm, eD⟩ := h'
      rw [List.length_map, List.take_length] at eD
      refine ⟨D, _, rfl, lstAt eD, ?_⟩
      have e : ((ns.map fun i => decide (0 ≤ i) && decide (i ≤ p - 1)).all id) = inP p ns := by
        unfold inP
        rw [List.all_map]
        rfl
      rw [e]
      exact q H' sm
end
end RH
set_option Elab.async false
set_option linter.all false
set_option maxRecDepth 100000
set_option maxHeartbeats 2000000
namespace RH
open PySem PySem.Spec PyProof.Rows L2
/-! ### slices and constants -/
theorem cut_from (xs : List V) (k : Nat) : cutV xs (some (k : Int)) none = xs.drop k := by
  unfold cutV
  rw [HT.sIx_nat, HT.sIx_none]
  rcases Nat.le_total k xs.length with h | h
  · rw [Nat.min_eq_left h]
    exact List.take_of_length_le (by rw [List.length_drop]; exact Nat.le_refl _)
  · rw [Nat.min_eq_right h, Nat.sub_self, List.take_zero, List.drop_eq_nil_of_le h]
theorem cut_to (xs : List V) (k : Nat) : cutV xs none (some (k : Int)) = xs.take k := by
  unfold cutV
  rw [HT.sIx_nat, HT.sIx_none, List.drop_zero, Nat.sub_zero]
  rcases Nat.le_total k xs.length with h | h
  · rw [Nat.min_eq_left h]
  · rw [Nat.min_eq_right h, List.take_length, List.take_of_length_le h]
/-- a number that the module keeps -/
theorem pk {X : Cx} {x : Str} {i : Int} {pos : Pos} (h : ∃ t, X.mg x = some (.int i t)) (hg : Gl X x := by rfl) (hn : x ≠ "__name__" := by decide) (hd : (x == ("__debug__" : Str)) = false := by decide) : PE X (.Name x pos) (tC (.int i)) := by
  obtain ⟨t, h⟩ := h
  exact pe_glob (v := .int i) hg h ⟨_, rfl⟩ hd
/-! ### rules within a comprehension: the written part is told -/
def rLenK (K : PySem.W.Frag) : List V → Hp → VK → Prop := fun xs H Q => ∃ p ys, xs = [.ref p] ∧ (SqL K H p ys ∨ SqT K H p ys) ∧ Q (.int ys.length) H
theorem cl_len {X : Cx} (K : PySem.W.Frag) (h : X.K = K := by rfl) : CallR X (.builtin "len") (rLenK K) := by
  subst h
  exact call_len_seq
theorem ixT {X : Cx} (K : PySem.W.Frag) (h : X.K = K := by rfl) : IxR X (rIxT K) := by
  subst h
  exact ix_tup
/-! ### rising, a layout, a habit -/
def isLay (p : Nat) (ns : List Int) : Bool := ns.isPerm (rg p)
def isHab (nss : List (List Int)) : Bool := decide (2 ≤ nss.length) && decide (nss.length ≤ 5) && nss.all (isLay nss.length)
theorem inP_of {p : Nat} {ns : List Int} (h : ns.Perm (rg p)) : inP p ns = true := by
  unfold inP
  rw [List.all_eq_true]
  intro i hi
  have := rg_mem.mp (h.mem_iff.mp hi)
  rw [Bool.and_eq_true]
  exact ⟨decide_eq_true (by omega), decide_eq_true (by omega)⟩
theorem rg_le (p : Nat) : (rg p).Pairwise (· ≤ ·) := by
  unfold rg
  rw [List.pairwise_map]
  exact (List.pairwise_lt_range (n := p)).imp fun h => by omega
section
variable {P : Program} {w : World} {K : PySem.W.Frag} {mg : Str → Option Value} {base : Heap}
def spIsLayout (K : PySem.W.Frag) : Sp := fun vs H Q _ => ∃ (v : V) (ns : List Int) (p : Nat), vs = [v, .int p] ∧ TI K H v ns ∧ ns.length < 64 ∧ p ≤ 1000 ∧ ∀ H', Same H H' → Q (.bl (isLay p ns)) H'
theorem ok_is_layout (F : Df K mg "is_layout" st_is_layout ["value", "places"]) (B : Bu mg) (C4 : Cal P w K mg base 4 "are_places" (spArePlaces K)) : Cal P w K mg base 5 "is_layout" (spIsLayout K) := by
  refine mkCal F sc_is_layout (fun vs H Q E h => ?_) (fun f cdv A outer s H vs Q E hr h => ?_)
  · obtain ⟨v, ns, p, rfl, _⟩ := h
    rfl
  · obtain ⟨v, ns, p, rfl, ⟨a, rfl, hS⟩, hlen, hp, q⟩ := h
    refine ⟨_, pss_one (ps_ret (pe_and (pc C4 hr (pa_cons (pv 0) (pa_cons (pv 1) pa_nil)))
      (pe_one (pe_cmpR (op_eqD hr.units) (pe_callB cr_sortedTup (by rfl) B.sorted (by decide +kernel) (pa_cons (pv 0) pa_nil)) (pe_listRg rfl (by rfl) B.list (prg_1 (by rfl) B.range (pv 1))) (nomark _))))), ?_⟩
    refine ⟨_, rfl, _, rfl, .ref a, ns, p, rfl, ⟨a, rfl, hS⟩, by omega, fun H1 sm1 => ⟨_, rfl, ite2 (fun e => ?_) (fun e => ?_)⟩⟩
    · refine ⟨_, rfl, a, ns, rfl, onT sm1 hS, hlen, fun ns' pL hpm hpw nL => ⟨_, rfl, (p : Int), rfl, ⟨by omega, by omega, by omega, by omega, by omega⟩, fun q' nq => ?_⟩⟩
      have nqp : pL ≠ q' := ne_of_none upd_same nq
      refine ⟨_, _, dp_lst (ns := ns') (lstAt ?_), dp_lst (ns := rg p) (lstAt ?_), PySem.W.ke_shaped_ints _, PySem.W.ke_shaped_ints _, ?_⟩
      · rw [upd_ne nqp, upd_same]
      · rw [upd_same, rgV_rg]
      · have e2 : PyData.eqv (.list (ns'.map PyData.int)) (.list ((rg p).map PyData.int)) = isLay p ns := by
          rw [eqv_lst, Bool.eq_iff_iff, decide_eq_true_iff]
          unfold isLay
          rw [List.isPerm_iff]
          constructor
          · intro z
            rw [← z]
            exact hpm.symm
          · intro z
            exact PySem.W.ksm_same (hpm.trans z) hpw (rg_le p)
        rw [e2]
        exact q _ (sm1.trans ((same_new nL).trans (same_new nq)))
    · have e2 : isLay p ns = false := by
        cases z : isLay p ns with
        | false => rfl
        | true => exact absurd (inP_of (List.isPerm_iff.mp z)) e
      have e3 : inP (p : Int) ns = false := by simpa using e
      rw [e2] at q
      exact q _ sm1
end
end RH
set_option Elab.async false
set_option linter.all false
set_option maxRecDepth 100000
set_option maxHeartbeats 2000000
namespace RH
open PySem PySem.Spec PyProof.Rows L2
/-! ### the mathematics of marks -/
theorem ifT {c : Bool} {A B : Prop} (hc : c = true) (h : A) : if c = true then A else B := by
  rw [if_pos hc]
  exact h
theorem ifF {c : Bool} {A B : Prop} (hc : c = false) (h : B) : if c = true then A else B := by
  rw [hc, if_neg Bool.false_ne_true]
  exact h
/-- a habit of n places -/
structure Hb (n : Nat) (h : List (List Int)) : Prop where
  len : h.length = n
  perm : ∀ ns ∈ h, ns.Perm (rg n)
  lo : 2 ≤ n
  hi : n ≤ 5
theorem Hb.is {n : Nat} {h : List (List Int)} (q : Hb n h) : isHab h = true := by
  unfold isHab
  simp only [Bool.and_eq_true, decide_eq_true_eq, List.all_eq_true]
  refine ⟨⟨by have := q.len; have := q.lo; omega, by have := q.len; have := q.hi; omega⟩, fun ns hm => ?_⟩
  unfold isLay
  rw [q.len, List.isPerm_iff]
  exact q.perm ns hm
theorem Hb.short {n : Nat} {h : List (List Int)} (q : Hb n h) {ns : List Int} (hm : ns ∈ h) : ns.length = n := by
  rw [(q.perm ns hm).length_eq, rg_len]
def mv (h : List (List Int)) (t s : Int) : Int := (h.getD t.toNat []).getD s.toNat 0
theorem Hb.at {n : Nat} {h : List (List Int)} (q : Hb n h) {t s : Int} (t0 : 0 ≤ t) (t1 : t < n) (s0 : 0 ≤ s) (s1 : s < n) :
    ∃ ns, h[t.toNat]? = some ns ∧ ns[s.toNat]? = some (mv h t s) ∧ 0 ≤ mv h t s ∧ mv h t s < n := by
  have h1 : t.toNat < h.length := by rw [q.len]; omega
  have e1 : h[t.toNat]? = some h[t.toNat] := List.getElem?_eq_getElem h1
  have hm : h[t.toNat] ∈ h := List.getElem_mem h1
  have h2 : s.toNat < h[t.toNat].length := by rw [q.short hm]; omega
  have e2 : h[t.toNat][s.toNat]? = some h[t.toNat][s.toNat] := List.getElem?_eq_getElem h2
  have e4 : h.getD t.toNat [] = h[t.toNat] := by
    rw [List.getD_eq_getElem?_getD, e1]
    rfl
  have e3 : mv h t s = h[t.toNat][s.toNat] := by
    unfold mv
    rw [e4, List.getD_eq_getElem?_getD, e2]
    rfl
  have h4 := rg_mem.mp ((q.perm _ hm).mem_iff.mp (List.getElem_mem h2))
  rw [← e3] at h4
  exact ⟨_, e1, by rw [e3]; exact e2, h4⟩
def InR (n : Nat) (i : Int) : Prop := 0 ≤ i ∧ i < n
theorem take_more {α : Type} {l : List α} {i : Nat} {x : α} (h : l[i]? = some x) : l.take (i + 1) = l.take i ++ [x] := by
  rw [List.take_add_one, h]
  rfl
/-- an item of an int's place -/
theorem at_int {α : Type} {xs : List α} {z : Int} {v : α} (h0 : 0 ≤ z) (h : xs[z.toNat]? = some v) : atI xs z = some v := by
  have e : z = ((z.toNat : Nat) : Int) := by omega
  rw [e]
  exact atI_nat h
end RH
set_option Elab.async false
set_option linter.all false
set_option maxRecDepth 100000
set_option maxHeartbeats 2000000
namespace RH
open PySem PySem.Spec PyProof.Rows L2
theorem ix2 {K : PySem.W.Frag} {H : Hp} {xs : List V} {h : List (List Int)} {n : Nat} (hE : Each (TI K H) xs h) (q : Hb n h) {t s : Int} (ht : InR n t) (hs : InR n s) :
    ∃ (a' : Addr) (ns : List Int), atI xs t = some (.ref a') ∧ SqT K H a' (ns.map V.int) ∧ atI (ns.map V.int) s = some (.int (mv h t s)) := by
  obtain ⟨ns, e1, e2, _⟩ := q.at ht.1 ht.2 hs.1 hs.2
  obtain ⟨v, e3, a', rfl, hS⟩ := hE.of e1
  exact ⟨a', ns, at_int ht.1 e3, hS, at_int hs.1 (at_map e2)⟩
end RH
set_option Elab.async false
set_option linter.all false
set_option maxRecDepth 100000
set_option maxHeartbeats 2000000
namespace RH
open PySem PySem.Spec PyProof.Rows L2
/-! ### the law's own row of draws -/
/-- all but what stands at p is as it was -/
def But (p : Addr) (H H' : Hp) : Prop := ∀ b o, H b = some o → b ≠ p → H' b = some o
theorem But.refl (p : Addr) (H : Hp) : But p H H := fun _ _ e _ => e
theorem But.trans {p : Addr} {H H1 H2 : Hp} (a : But p H H1) (b : But p H1 H2) : But p H H2 := fun c o e n => b c o (a c o e n) n
theorem But.same {p : Addr} {H H1 : Hp} (a : Same H H1) : But p H H1 := fun c o e _ => a c o e
theorem But.upd {p : Addr} {H H1 : Hp} {o : HO} (a : But p H H1) : But p H (upd H1 p o) := fun c u e n => by
  rw [upd_ne n]
  exact a c u e n
/-- all that is no list is as it was -/
def Fix (H H' : Hp) : Prop := ∀ b o, H b = some o → (∀ xs, o ≠ .lst xs) → H' b = some o
theorem Fix.refl (H : Hp) : Fix H H := fun _ _ e _ => e
theorem Fix.trans {H H1 H2 : Hp} (a : Fix H H1) (b : Fix H1 H2) : Fix H H2 := fun c o e n => b c o (a c o e n) n
theorem Fix.same {H H1 : Hp} (a : Same H H1) : Fix H H1 := fun c o e _ => a c o e
theorem Fix.lst {H : Hp} {p : Addr} {xs : List V} {o : HO} (h : H p = some (.lst xs)) : Fix H (L2.upd H p o) := fun b u e n => by
  by_cases z : b = p
  · subst z
    rw [h] at e
    cases e
    exact absurd rfl (n _)
  · rw [upd_ne z]
    exact e
theorem Fix.tups {K : PySem.W.Frag} {H H' : Hp} (b : Fix H H') : Tups K H H' := fun a xs hS => by
  rcases hS with (hS | ⟨u, hS⟩) | hS
  · exact .inl (.inl (b _ _ hS (fun _ z => nomatch z)))
  · exact .inl (.inr ⟨u, b _ _ hS (fun _ z => nomatch z)⟩)
  · exact .inr hS
theorem But.fix {H H' : Hp} {p : Addr} {xs : List V} (h : H p = some (.lst xs)) (b : But p H H') : Fix H H' := fun c o e n => b c o e fun z => by
  subst z
  rw [h] at e
  cases e
  exact n _ rfl
/-- a list that never changes -/
def Fz (K : PySem.W.Frag) (H : Hp) (a : Addr) (xs : List V) : Prop := (∃ o, H a = some (.frz o (.lst xs))) ∨ ∀ H', SqL K H' a xs
theorem Fz.seq {K : PySem.W.Frag} {H : Hp} {a : Addr} {xs : List V} (h : Fz K H a xs) : SqL K H a xs := by
  rcases h with ⟨o, h⟩ | h
  · exact .inl (.inr ⟨o, h⟩)
  · exact h H
theorem Fz.on {K : PySem.W.Frag} {H H' : Hp} {a : Addr} {xs : List V} (f : Fix H H') (h : Fz K H a xs) : Fz K H' a xs := by
  rcases h with ⟨o, h⟩ | h
  · exact .inl ⟨o, f _ _ h (fun _ z => nomatch z)⟩
  · exact .inr h
theorem Fz.of {K : PySem.W.Frag} {H : Hp} {a : Addr} {xs : List V} (o : Only H) (h : SqL K H a xs) : Fz K H a xs := by
  rcases h with (h | h) | h
  · rcases o a with e | ⟨u, ys, e⟩
    · rw [e] at h
      cases h
    · rw [e] at h
      cases h
  · exact .inl h
  · exact .inr fun H' => .inr h
/-- row: the script, how many of it are taken, the running number, what is left of a great one -/
structure RowA (K : PySem.W.Frag) (H : Hp) (p a : Addr) (ns : List Int) (i r c : Int) : Prop where
  at_ : H p = some (.lst [.ref a, .int i, .int r, .int c])
  fz : Fz K H a (ns.map V.int)
  pos : 0 ≤ i
theorem RowA.scr {K : PySem.W.Frag} {H : Hp} {p a : Addr} {ns : List Int} {i r c : Int} (h : RowA K H p a ns i r c) : SqL K H a (ns.map V.int) := h.fz.seq
def Row (K : PySem.W.Frag) (H : Hp) (p : Addr) : Prop := ∃ a ns i r c, RowA K H p a ns i r c
theorem RowA.put {K : PySem.W.Frag} {H : Hp} {p a : Addr} {ns : List Int} {i r c i' r' c' : Int} (h : RowA K H p a ns i r c) (hi : 0 ≤ i') :
    RowA K (upd H p (.lst [.ref a, .int i', .int r', .int c'])) p a ns i' r' c' :=
  ⟨upd_same, h.fz.on (Fix.lst h.at_), hi⟩
theorem RowA.row {K : PySem.W.Frag} {H : Hp} {p a : Addr} {ns : List Int} {i r c : Int} (h : RowA K H p a ns i r c) : Row K H p := ⟨_, _, _, _, _, h⟩
theorem Row.lst {K : PySem.W.Frag} {H : Hp} {p : Addr} (h : Row K H p) : ∃ xs, H p = some (.lst xs) := by
  obtain ⟨a, ns, i, r, c, h⟩ := h
  exact ⟨_, h.at_⟩
theorem Row.fix {K : PySem.W.Frag} {H H' : Hp} {p : Addr} (h : Row K H p) (b : But p H H') : Fix H H' := by
  obtain ⟨xs, e⟩ := h.lst
  exact But.fix e b
theorem Row.on {K : PySem.W.Frag} {H H' : Hp} {p : Addr} (h : Row K H p) (f : Fix H H') (e : H' p = H p) : Row K H' p := by
  obtain ⟨a, ns, i, r, c, h⟩ := h
  exact ⟨a, ns, i, r, c, e.trans h.at_, h.fz.on f, h.pos⟩
theorem Row.same {K : PySem.W.Frag} {H H' : Hp} {p : Addr} (h : Row K H p) (s : Same H H') : Row K H' p := by
  obtain ⟨xs, e⟩ := h.lst
  exact h.on (Fix.same s) ((s _ _ e).trans e.symm)
/-- another list is written -/
theorem Row.lst_upd {K : PySem.W.Frag} {H : Hp} {p q : Addr} {xs : List V} {o : HO} (h : Row K H p) (e : H q = some (.lst xs)) (n : p ≠ q) : Row K (upd H q o) p := h.on (Fix.lst e) (upd_ne n)
/-- a new object -/
theorem Row.new {K : PySem.W.Frag} {H : Hp} {p q : Addr} {o : HO} (h : Row K H p) (e : H q = none) : Row K (upd H q o) p := h.same (same_new e)
theorem Row.ne {K : PySem.W.Frag} {H : Hp} {p q : Addr} (h : Row K H p) (e : H q = none) : p ≠ q := by
  obtain ⟨xs, e'⟩ := h.lst
  exact ne_of_none e' e
section
variable {P : Program} {w : World} {K : PySem.W.Frag} {mg : Str → Option Value} {base : Heap}
def spTaken (K : PySem.W.Frag) : Sp := fun vs H Q _ => ∃ (p : Addr) (m : Int), vs = [.ref p, .int m] ∧ Row K H p ∧ 0 < m ∧ m < 1048576 ∧ ∀ k H', 0 ≤ k → k < m → But p H H' → Row K H' p → Q (.int k) H'
theorem ok_taken (F : Df K mg "_law_taken" st__law_taken ["row", "many"]) (B : Bu mg) : Cal P w K mg base 1 "_law_taken" (spTaken K) := by
  refine mkCal F sc__law_taken (fun vs H Q E h => ?_) (fun f cdv A outer s H vs Q E hr h => ?_)
  · obtain ⟨p, m, rfl, _⟩ := h
    rfl
  · obtain ⟨p, m, rfl, ⟨a, ns, i, r, c, hR⟩, m0, m1, q⟩ := h
    refine ⟨_, pss_cons (ps_if (pt_cmpR op_gt (pe_ix ix_list (pv 0) pe_int (fun _ _ => rfl)) pe_int (nomark _))
        (pss_cons (ps_set (i := 2) sc__law_taken.nd rfl (.inl rfl) (pe_op op_mod (pe_callTy call_int1 (by rfl) B.int (by decide +kernel) (pa_cons (pe_ix ix_list (pv 0) pe_int (fun _ _ => rfl)) pa_nil)) (pv 1)))
        (pss_cons (ps_asg (pe_op op_fdiv (pe_ix ix_list (pv 0) pe_int (fun _ _ => rfl)) (pv 1)) (pg_sub (pv 0) pe_int set_list))
        (pss_one (ps_ret (pv 2))))) pss_nil)
      (pss_cons (ps_asg (pe_op op_add (pe_ix ix_list (pv 0) pe_int (fun _ _ => rfl)) pe_int) (pg_sub (pv 0) pe_int set_list))
      (pss_cons (ps_if (pt_cmpR op_gt (pe_ix ix_list (pv 0) pe_int (fun _ _ => rfl)) (pe_callB (cl_len K) (by rfl) B.len PySem.boot_len (pa_cons (pe_ix ix_list (pv 0) pe_int (fun _ _ => rfl)) pa_nil)) (nomark _))
        (pss_cons (ps_asg (pe_op op_mod (pe_callTy call_int1 (by rfl) B.int (by decide +kernel) (pa_cons (pe_op op_add (pe_op op_mul (pe_ix ix_list (pv 0) pe_int (fun _ _ => rfl)) pe_int) pe_int) pa_nil)) pe_int) (pg_sub (pv 0) pe_int set_list))
        (pss_one (ps_ret (pe_op op_mod (pe_callTy call_int1 (by rfl) B.int (by decide +kernel) (pa_cons (pe_op op_fdiv (pe_ix ix_list (pv 0) pe_int (fun _ _ => rfl)) pe_int) pa_nil)) (pv 1))))) pss_nil)
      (pss_cons (ps_set (i := 3) sc__law_taken.nd rfl (.inl rfl) (pe_ix ix_list (pe_ix ix_list (pv 0) pe_int (fun _ _ => rfl)) (pe_op op_sub (pe_ix ix_list (pv 0) pe_int (fun _ _ => rfl)) pe_int) (fun _ _ => rfl)))
      (pss_cons (ps_asg (pe_op op_mod (pe_callTy call_int1 (by rfl) B.int (by decide +kernel) (pa_cons (pe_op op_add (pe_op op_add (pe_op op_mul (pe_ix ix_list (pv 0) pe_int (fun _ _ => rfl)) pe_int) (pv 3)) pe_int) pa_nil)) pe_int) (pg_sub (pv 0) pe_int set_list))
      (pss_cons (ps_if (pt_cmpR op_ge (pv 3) (pe_op op_pow pe_int pe_int) (nomark _))
        (pss_one (ps_asg (pe_op op_fdiv (pv 3) (pv 1)) (pg_sub (pv 0) pe_int set_list))) pss_nil)
      (pss_one (ps_ret (pe_op op_mod (pe_callTy call_int1 (by rfl) B.int (by decide +kernel) (pa_cons (pv 3) pa_nil)) (pv 1))))))))), ?_⟩
    have L := hR.at_
    refine ⟨_, rfl, p, _, 3, .int c, rfl, rfl, lstAt L, rfl, c, 0, rfl, rfl, _, rfl, ite2 (fun e => ?_) (fun e => ?_)⟩
    · refine ⟨_, rfl, p, _, 3, .int c, rfl, rfl, lstAt L, rfl, .inl ⟨c, rfl, _, rfl, c, m, rfl, rfl, m0, ?_⟩⟩
      refine ⟨_, rfl, p, _, 3, .int c, rfl, rfl, lstAt L, rfl, _, rfl, c, m, rfl, rfl, ⟨m0, by omega⟩, _, rfl, p, _, 3, 3, rfl, rfl, L, rfl, ?_⟩
      exact ⟨_, rfl, q (c % m) _ (Int.emod_nonneg _ (by omega)) (Int.emod_lt_of_pos _ m0) (But.upd (But.refl p H)) (hR.put hR.pos).row⟩
    · refine ⟨_, rfl, p, _, 1, .int i, rfl, rfl, lstAt L, rfl, i, 1, rfl, rfl, _, rfl, p, _, 1, 1, rfl, rfl, L, rfl, ?_⟩
      have R1 : RowA K (upd H p (.lst [.ref a, .int (i + 1), .int r, .int c])) p a ns (i + 1) r c := hR.put (by have := hR.pos; omega)
      have L1 := R1.at_
      refine ⟨_, rfl, p, _, 1, .int (i + 1), rfl, rfl, lstAt L1, rfl, _, rfl, p, _, 0, .ref a, rfl, rfl, lstAt L1, rfl, a, _, rfl, .inl R1.scr, _, _, rfl, rfl, _, rfl, ite2 (fun e1 => ?_) (fun e1 => ?_)⟩
      · refine ⟨_, rfl, p, _, 2, .int r, rfl, rfl, lstAt L1, rfl, r, 48271, rfl, rfl, .inr ⟨by decide, by decide⟩, _, 11, rfl, rfl, .inl ⟨_, rfl, _, _, rfl, rfl, (by show (0 : Int) < 2147483647; decide), _, rfl, p, _, 2, 2, rfl, rfl, L1, rfl, ?_⟩⟩
        have R2 : RowA K (upd (upd H p (.lst [.ref a, .int (i + 1), .int r, .int c])) p (.lst [.ref a, .int (i + 1), .int ((r * 48271 + 11) % 2147483647), .int c])) p a ns (i + 1) ((r * 48271 + 11) % 2147483647) c := R1.put R1.pos
        refine ⟨_, rfl, p, _, 2, _, rfl, rfl, lstAt R2.at_, rfl, _, 7, rfl, rfl, ⟨by decide, by decide⟩, .inl ⟨_, rfl, _, rfl, _, m, rfl, rfl, m0, ?_⟩⟩
        exact q _ _ (Int.emod_nonneg _ (by omega)) (Int.emod_lt_of_pos _ m0) (But.upd (But.upd (But.refl p H))) R2.row
      · have hi : i < (ns.length : Int) := by
          rw [List.length_map] at e1
          have e9 : i + 1 ≤ (ns.length : Int) := by simpa using e1
          omega
        have hi0 := hR.pos
        obtain ⟨z, hz⟩ : ∃ z, ns[i.toNat]? = some z := ⟨ns[i.toNat]'(by omega), List.getElem?_eq_getElem (by omega)⟩
        refine ⟨_, rfl, p, _, 0, .ref a, rfl, rfl, lstAt L1, rfl, _, rfl, p, _, 1, .int (i + 1), rfl, rfl, lstAt L1, rfl, _, 1, rfl, rfl, a, _, i + 1 - 1, .int z, rfl, rfl, R1.scr, at_int (by omega) (at_map (by rw [show (i + 1 - 1).toNat = i.toNat by omega]; exact hz)), ?_⟩
        refine ⟨_, rfl, p, _, 2, .int r, rfl, rfl, lstAt L1, rfl, r, 48271, rfl, rfl, .inr ⟨by decide, by decide⟩, _, rfl, _, z, rfl, rfl, _, 11, rfl, rfl, .inl ⟨_, rfl, _, _, rfl, rfl, (by show (0 : Int) < 2147483647; decide), _, rfl, p, _, 2, 2, rfl, rfl, L1, rfl, ?_⟩⟩
        have R2 : RowA K (upd (upd H p (.lst [.ref a, .int (i + 1), .int r, .int c])) p (.lst [.ref a, .int (i + 1), .int ((r * 48271 + z + 11) % 2147483647), .int c])) p a ns (i + 1) ((r * 48271 + z + 11) % 2147483647) c := R1.put R1.pos
        refine ⟨_, rfl, 10, 18, rfl, rfl, ⟨by decide, by decide, by decide⟩, z, _, rfl, rfl, _, rfl, ite2 (fun e2 => ?_) (fun e2 => ?_)⟩
        · refine ⟨_, rfl, _, rfl, z, m, rfl, rfl, ⟨m0, by omega⟩, _, rfl, p, _, 3, 3, rfl, rfl, R2.at_, rfl, ?_⟩
          refine ⟨_, rfl, .inl ⟨z, rfl, _, rfl, z, m, rfl, rfl, m0, ?_⟩⟩
          exact q _ _ (Int.emod_nonneg _ (by omega)) (Int.emod_lt_of_pos _ m0) (But.upd (But.upd (But.upd (But.refl p H)))) (R2.put R2.pos).row
        · refine ⟨_, rfl, .inl ⟨z, rfl, _, rfl, z, m, rfl, rfl, m0, ?_⟩⟩
          exact q _ _ (Int.emod_nonneg _ (by omega)) (Int.emod_lt_of_pos _ m0) (But.upd (But.upd (But.refl p H))) R2.row
end
end RH
set_option Elab.async false
set_option linter.all false
set_option maxRecDepth 100000
set_option maxHeartbeats 2000000
namespace RH
open PySem PySem.Spec PyProof.Rows L2
theorem ix_nat {n : Nat} {k : Int} (h0 : 0 ≤ k) (h1 : k < n) : seqIndex? k n = some k.toNat := by
  unfold seqIndex?
  have e : (if k < 0 then k + (n : Int) else k) = k := if_neg (by omega)
  simp only [e]
  rw [if_pos]
  simp [h0, h1]
theorem But.fresh {p l : Addr} {H H1 : Hp} {o : HO} (a : But p H H1) (e : H l = none) : But p H (L2.upd H1 l o) := fun c u h n => by
  rw [upd_ne (ne_of_none h e)]
  exact a c u h n
theorem map_erase (ns : List Int) (k : Nat) : (ns.map V.int).eraseIdx k = (ns.eraseIdx k).map V.int := by
  induction ns generalizing k with
  | nil => rfl
  | cons n ns ih =>
    cases k with
    | zero => rfl
    | succ k =>
      show V.int n :: (ns.map V.int).eraseIdx k = V.int n :: (ns.eraseIdx k).map V.int
      rw [ih]
theorem perm_erase : ∀ {ls : List Int} {k : Nat} {y : Int}, ls[k]? = some y → ls.Perm (y :: ls.eraseIdx k)
  | [], k, y, h => by simp at h
  | a :: ls, 0, y, h => by
    have e : a = y := Option.some.inj h
    subst e
    exact List.Perm.refl _
  | a :: ls, k + 1, y, h => by
    have ih := perm_erase (ls := ls) (k := k) (y := y) h
    exact (ih.cons a).trans (List.Perm.swap ..)
section
variable {P : Program} {w : World} {K : PySem.W.Frag} {mg : Str → Option Value} {base : Heap}
def spOrder (K : PySem.W.Frag) : Sp := fun vs H Q _ => ∃ (p : Addr) (n : Nat), vs = [.ref p, .int n] ∧ Row K H p ∧ n ≤ 1000 ∧ ∀ (H' : Hp) (q : Addr) (ns : List Int), ns.Perm (rg n) → But p H H' → Row K H' p → H q = none → FT H' q ns → Q (.ref q) H'
theorem ok_order (F : Df K mg "_law_order" st__law_order ["row", "many"]) (B : Bu mg) (CT : Cal P w K mg base 1 "_law_taken" (spTaken K)) : Cal P w K mg base 2 "_law_order" (spOrder K) := by
  refine mkCal F sc__law_order (fun vs H Q E h => ?_) (fun f cdv A outer s H vs Q E hr h => ?_)
  · obtain ⟨p, n, rfl, _⟩ := h
    rfl
  · obtain ⟨p, n, rfl, hR, hn, q⟩ := h
    refine ⟨_, pss_cons (ps_par (i := 2) (j := 3) rfl sc__law_order.nd rfl rfl (by decide) rfl rfl (pa_cons (pe_listRg rfl (by rfl) B.list (prg_1 (by rfl) B.range (pv 1))) (pa_cons (pe_lst pa_nil) pa_nil)) rfl)
      (pss_cons (ps_while PassesOwn.never (pt_cmpR (op_neD hr.units) (pv 2) (pe_lst pa_nil) (nomark _))
        (pss_one (ps_expr (pe_bm PySem.F.plainAttrs_list PySem.F.slot_list_append PySem.F.type_list_append mt_append (pv 3) (pa_cons (pe_bm PySem.F.plainAttrs_list PySem.F.slot_list_pop PySem.F.type_list_pop mt_popAt (pv 2)
          (pa_cons (pc CT hr (pa_cons (pv 0) (pa_cons (pe_callB (cl_len K) (by rfl) B.len PySem.boot_len (pa_cons (pv 2) pa_nil)) pa_nil))) pa_nil)) pa_nil)))))
      (pss_one (ps_ret (pe_tupleF (by rfl) B.tuple (pv 3))))), ?_⟩
    refine ⟨_, rfl, n, rfl, ⟨by omega, by omega, by omega, by omega, by omega⟩, fun l hl => ⟨Nat.zero_le _, fun g hg => ⟨_, _, rfl, ?_⟩⟩⟩
    have hlg : l ≠ g := ne_of_none upd_same hg
    have hgH : H g = none := by
      rw [upd_ne (Ne.symm hlg)] at hg
      exact hg
    have hpl : p ≠ l := hR.ne hl
    have hpg : p ≠ g := hR.ne hgH
    refine ⟨fun m σ H' => ∃ ls fs : List Int, m = ls.length ∧ σ = [some (.ref p), some (.int n), some (.ref l), some (.ref g)] ∧ But p H H' ∧ Row K H' p ∧ H' l = some (.lst (ls.map V.int)) ∧ H' g = some (.lst (fs.map V.int)) ∧ (fs ++ ls).Perm (rg n),
      ⟨(rg n).length, rg n, [], rfl, rfl, But.same (Same.trans (same_new hl) (same_new hg)), (hR.new hl).new hg, ?_, upd_same, List.Perm.refl _⟩, ?_⟩
    · rw [upd_ne hlg, upd_same, rgV_rg]
    rintro m σ H1 ⟨ls, fs, rfl, rfl, hB, hR1, e1, e2, hpm⟩
    refine ⟨_, rfl, Nat.zero_le _, fun z hz => ?_⟩
    have sz : Same H1 (upd H1 z (.lst [])) := same_new hz
    refine ⟨_, _, dp_lst (ns := ls) (lstAt (sz _ _ e1)), dp_lst (ns := []) (lstAt upd_same), PySem.W.ke_shaped_ints _, PySem.W.ke_shaped_ints _, _, rfl, ?_⟩
    rw [eqv_lst]
    have len1 : fs.length + ls.length = n := by
      have := hpm.length_eq
      rw [List.length_append, rg_len] at this
      exact this
    cases ls with
    | nil =>
      refine ifF rfl ⟨_, rfl, g, _, rfl, lstAt (sz _ _ e2), fun t ob ht hob => ?_⟩
      rw [List.append_nil] at hpm
      have st : Same H1 (upd (upd H1 z (.lst [])) t (.frz ob (.tup (fs.map V.int)))) := sz.trans (same_new ht)
      refine q _ t fs hpm (hB.trans (But.same st)) (hR1.same st) ?_ ⟨ob, upd_same, hob⟩
      cases e : H t with
      | none => rfl
      | some o =>
        exfalso
        by_cases zp : t = p
        · obtain ⟨xs, ep⟩ := hR1.lst
          rw [zp, sz _ _ ep] at ht
          cases ht
        · rw [sz _ _ (hB _ _ e zp)] at ht
          cases ht
    | cons y ls =>
      have hRz : Row K (upd H1 z (.lst [])) p := hR1.same sz
      have e1z := sz _ _ e1
      have e2z := sz _ _ e2
      refine ifT rfl ⟨fun σ' H' => ∃ m', m' < (y :: ls).length ∧ ∃ ls fs : List Int, m' = ls.length ∧ σ' = [some (.ref p), some (.int n), some (.ref l), some (.ref g)] ∧ But p H H' ∧ Row K H' p ∧ H' l = some (.lst (ls.map V.int)) ∧ H' g = some (.lst (fs.map V.int)) ∧ (fs ++ ls).Perm (rg n), fun _ _ h => h, ?_⟩
      refine ⟨_, rfl, .inl ⟨rfl, _, lstAt e2z⟩, _, rfl, .inl ⟨rfl, _, lstAt e1z⟩, _, rfl, _, rfl, l, _, rfl, .inl (lstAt e1z), p, _, rfl, hRz, ?_, ?_, fun k H3 k0 k1 hB3 hR3 => ?_⟩
      · rw [List.length_map, List.length_cons]
        omega
      · rw [List.length_map]
        omega
      rw [List.length_map] at k1
      have e1' := hB3 _ _ e1z (Ne.symm hpl)
      have e2' := hB3 _ _ e2z (Ne.symm hpg)
      have hk : k.toNat < (y :: ls).length := by omega
      obtain ⟨v, hv⟩ : ∃ v, (y :: ls)[k.toNat]? = some v := ⟨_, List.getElem?_eq_getElem hk⟩
      have e2u : (upd H3 l (.lst (((y :: ls).map V.int).eraseIdx k.toNat))) g = some (.lst (fs.map V.int)) := by
        rw [upd_ne (Ne.symm hlg)]
        exact e2'
      refine ⟨l, _, k, k.toNat, .int v, rfl, rfl, e1', by omega, by omega, ?_, at_map hv, g, _, .int v, rfl, rfl, e2u, ?_, ?_⟩
      · rw [List.length_map]
        exact ix_nat k0 k1
      · rw [List.length_map]
        exact small1000 (by have := List.length_cons (a := y) (as := ls); omega)
      · refine ⟨((y :: ls).eraseIdx k.toNat).length, ?_, (y :: ls).eraseIdx k.toNat, fs ++ [v], rfl, rfl, ?_, ?_, ?_, ?_, ?_⟩
        · rw [List.length_eraseIdx_of_lt hk]
          omega
        · exact (((hB.trans (But.same sz)).trans hB3).fresh hl).fresh hgH
        · exact (hR3.lst_upd e1' hpl).lst_upd e2u hpg
        · rw [upd_ne hlg, upd_same, map_erase]
        · rw [upd_same, List.map_append]
          rfl
        · have hp2 := perm_erase hv
          refine List.Perm.trans ?_ hpm
          rw [List.append_assoc]
          exact List.Perm.append_left fs hp2.symm
end
end RH
set_option Elab.async false
set_option linter.all false
set_option maxRecDepth 100000
set_option maxHeartbeats 2000000
namespace RH
open PySem PySem.Spec PyProof.Rows L2
/-! ### permutations, written out -/
def insE (a : Int) : List Int → List (List Int)
  | [] => [[a]]
  | b :: l => (a :: b :: l) :: (insE a l).map (b :: ·)
def prm : List Int → List (List Int)
  | [] => [[]]
  | a :: l => (prm l).flatMap (insE a)
theorem insE_perm {a : Int} : ∀ {l s : List Int}, s ∈ insE a l → s.Perm (a :: l)
  | [], s, h => by
    rw [List.mem_singleton.mp h]
  | b :: l, s, h => by
    rcases List.mem_cons.mp h with rfl | h
    · exact List.Perm.refl _
    · obtain ⟨t, ht, rfl⟩ := List.mem_map.mp h
      exact ((insE_perm ht).cons b).trans (List.Perm.swap ..)
theorem mem_insE {a : Int} : ∀ (s1 s2 : List Int), s1 ++ a :: s2 ∈ insE a (s1 ++ s2)
  | [], [] => List.mem_singleton.mpr rfl
  | [], b :: l => List.mem_cons_self ..
  | b :: s1, s2 => List.mem_cons_of_mem _ (List.mem_map.mpr ⟨_, mem_insE s1 s2, rfl⟩)
theorem mem_prm : ∀ {l s : List Int}, s ∈ prm l ↔ s.Perm l
  | [], s => by
    constructor
    · intro h
      rw [List.mem_singleton.mp h]
    · intro h
      rw [List.perm_nil.mp h]
      exact List.mem_singleton.mpr rfl
  | a :: l, s => by
    constructor
    · intro h
      obtain ⟨t, ht, hs⟩ := List.mem_flatMap.mp h
      exact (insE_perm hs).trans ((mem_prm.mp ht).cons a)
    · intro h
      have ha : a ∈ s := h.mem_iff.mpr (List.mem_cons_self ..)
      obtain ⟨s1, s2, rfl⟩ := List.append_of_mem ha
      have h2 : (s1 ++ s2).Perm l := (List.perm_middle.symm.trans h).cons_inv
      exact List.mem_flatMap.mpr ⟨_, mem_prm.mpr h2, mem_insE s1 s2⟩
/-- a layout behind a touch -/
def stp (h : List (List Int)) (p : Int) (L : List Int) : List Int := L.map (mv h p)
def stpi (h : List (List Int)) (p : Int) (L : List Int) : List Int := L.map fun x => ((h.getD p.toNat []).idxOf x : Int)
/-- where each book stands, read the other way -/
def invL (n : Nat) (w : List Int) : List Int := (List.range n).map fun k : Nat => ((w.idxOf (k : Int) : Nat) : Int)
def sortedB : List Int → Bool
  | [] => true
  | a :: l => l.all (fun b => decide (a ≤ b)) && sortedB l
def keptI (n : Nat) (q : List Int) (m : Nat) : Nat := (List.range m).foldl (fun k j => if sortedB (q.drop (n - j)) then max k j else k) 0
def frontP (n p : Nat) : List Int := ((List.range p).map fun i : Nat => (1 + (i : Int))) ++ ([0] ++ (List.range (n - (p + 1))).map fun i : Nat => ((p : Int) + 1 + (i : Int)))
def frontH (n : Nat) : List (List Int) := (List.range n).map (frontP n)
def neighP (n p : Nat) : List Int := if 0 < p then ((rg n).set (p - 1) (p : Int)).set p ((p - 1 : Nat) : Int) else rg n
def neighH (n : Nat) : List (List Int) := (List.range n).map (neighP n)
def turnP (n p : Nat) : List Int := (List.range n).map fun s : Nat => ((s : Int) + (p : Int)) % (n : Int)
def turnH (n : Nat) : List (List Int) := (List.range n).map (turnP n)
def depF (n : Nat) (w : List Int) : Nat := n - keptI n (invL n w) (n + 1)
def invs : List Int → Nat
  | [] => 0
  | a :: l => (l.filter fun b => decide (b < a)).length + invs l
def depT (n : Nat) (w : List Int) : Nat := if w = rg n then 0 else 1
/-- one number is enough to tell how far a state is -/
def grB (n : Nat) (h : List (List Int)) (U : List (List Int)) (inU : List Int → Bool) (dep : List Int → Nat) (D : Nat) : Bool :=
  inU (rg n) && decide (dep (rg n) = 0) && U.all fun w => (decide (dep w ≤ D) && (rg n).all fun p => inU (stp h p w) && decide (dep (stp h p w) ≤ dep w + 1)) &&
    (decide (w = rg n) || (rg n).any fun p => inU (stpi h p w) && decide (stp h p (stpi h p w) = w) && decide (dep w = dep (stpi h p w) + 1))
theorem fg2 : grB 2 (frontH 2) (prm (rg 2)) (fun s => s.isPerm (rg 2)) (depF 2) 1 = true := by decide +kernel
theorem fg3 : grB 3 (frontH 3) (prm (rg 3)) (fun s => s.isPerm (rg 3)) (depF 3) 2 = true := by decide +kernel
theorem fg4 : grB 4 (frontH 4) (prm (rg 4)) (fun s => s.isPerm (rg 4)) (depF 4) 3 = true := by decide +kernel
theorem fg5 : grB 5 (frontH 5) (prm (rg 5)) (fun s => s.isPerm (rg 5)) (depF 5) 4 = true := by decide +kernel
theorem ng2 : grB 2 (neighH 2) (prm (rg 2)) (fun s => s.isPerm (rg 2)) invs 20 = true := by decide +kernel
theorem ng3 : grB 3 (neighH 3) (prm (rg 3)) (fun s => s.isPerm (rg 3)) invs 20 = true := by decide +kernel
theorem ng4 : grB 4 (neighH 4) (prm (rg 4)) (fun s => s.isPerm (rg 4)) invs 20 = true := by decide +kernel
theorem ng5 : grB 5 (neighH 5) (prm (rg 5)) (fun s => s.isPerm (rg 5)) invs 20 = true := by decide +kernel
theorem tg : ∀ n, n < 6 → 2 ≤ n → grB n (turnH n) (turnH n) (fun s => (turnH n).contains s) (depT n) 20 = true := by decide +kernel
end RH
set_option Elab.async false
set_option linter.all false
set_option maxRecDepth 100000
set_option maxHeartbeats 2000000
namespace RH
open PySem PySem.Spec PyProof.Rows L2
/-! ### how far states are -/
theorem rg_nd (n : Nat) : (rg n).Nodup := by
  unfold rg
  refine (List.nodup_range (n := n)).map _ ?_ 
  intro a b h e
  exact h (by omega)
theorem idx_at {l : List Int} (nd : l.Nodup) {i : Nat} {x : Int} (h : l[i]? = some x) : l.idxOf x = i := by
  obtain ⟨hi, e⟩ := List.getElem?_eq_some_iff.mp h
  rw [← e]
  exact List.Nodup.idxOf_getElem nd i hi
theorem at_idx {l : List Int} {x : Int} (h : x ∈ l) : l[l.idxOf x]? = some x := by
  have hl := List.idxOf_lt_length_of_mem h
  rw [List.getElem?_eq_getElem hl, List.getElem_idxOf]
theorem perm_nd {n : Nat} {l : List Int} (h : l.Perm (rg n)) : l.Nodup := h.nodup_iff.mpr (rg_nd n)
theorem perm_len {n : Nat} {l : List Int} (h : l.Perm (rg n)) : l.length = n := by rw [h.length_eq, rg_len]
theorem perm_in {n : Nat} {l : List Int} (h : l.Perm (rg n)) {x : Int} (hx : x ∈ l) : InR n x := rg_mem.mp (h.mem_iff.mp hx)
theorem perm_mem {n : Nat} {l : List Int} (h : l.Perm (rg n)) {x : Int} (hx : InR n x) : x ∈ l := h.mem_iff.mpr (rg_mem.mpr hx)
def comp (w L : List Int) : List Int := L.map fun k => w.getD k.toNat 0
def rel (n : Nat) (L s : List Int) : List Int := (rg n).map fun k => s.getD (L.idxOf k) 0
theorem getD_some {l : List Int} {i : Nat} {x : Int} (h : l[i]? = some x) : l.getD i 0 = x := by
  rw [List.getD_eq_getElem?_getD, h]
  rfl
theorem map_idx {L O : List Int} (nd : L.Nodup) (e : L.length = O.length) : L.map (fun k => O.getD (L.idxOf k) 0) = O := by
  refine List.ext_getElem? fun i => ?_
  rw [List.getElem?_map]
  by_cases hi : i < L.length
  · have h1 : L[i]? = some L[i] := List.getElem?_eq_getElem hi
    have h2 : O[i]? = some (O[i]'(by omega)) := List.getElem?_eq_getElem (by omega)
    rw [h1, h2]
    show some (O.getD (L.idxOf L[i]) 0) = some _
    rw [idx_at nd h1, getD_some h2]
  · rw [List.getElem?_eq_none (by omega), List.getElem?_eq_none (by omega)]
    rfl
theorem rel_perm {n : Nat} {L O : List Int} (hL : L.Perm (rg n)) (hO : O.Perm (rg n)) : (rel n L O).Perm (rg n) := by
  have h := (hL.map (fun k => O.getD (L.idxOf k) 0)).symm
  rw [map_idx (perm_nd hL) (by rw [perm_len hL, perm_len hO])] at h
  exact h.trans hO
theorem rg_getD {n : Nat} {k : Int} (h : InR n k) (f : Int → Int) : ((rg n).map f).getD k.toNat 0 = f k := by
  have e := rg_at (n := n) (i := k.toNat) (by have := h.1; have := h.2; omega)
  refine getD_some ?_
  rw [List.getElem?_map, e]
  show some _ = _
  rw [Int.toNat_of_nonneg h.1]
theorem comp_rel {n : Nat} {L O : List Int} (hL : L.Perm (rg n)) (e : O.length = n) : comp (rel n L O) L = O := by
  have h := map_idx (O := O) (perm_nd hL) (by rw [perm_len hL, e])
  refine Eq.trans ?_ h
  unfold comp rel
  exact List.map_congr_left fun k hk => rg_getD (perm_in hL hk) _
theorem rel_comp {n : Nat} {L w : List Int} (hL : L.Perm (rg n)) (e : w.length = n) : rel n L (comp w L) = w := by
  unfold rel comp
  refine List.ext_getElem? fun i => ?_
  rw [List.getElem?_map]
  by_cases hi : i < n
  · rw [rg_at hi]
    have hm : (i : Int) ∈ L := perm_mem hL ⟨by omega, by omega⟩
    have h1 := at_idx hm
    have h2 : w[i]? = some (w[i]'(by omega)) := List.getElem?_eq_getElem (by omega)
    rw [h2]
    show some _ = _
    congr 1
    refine getD_some ?_
    rw [List.getElem?_map, h1]
    show some (w.getD ((i : Int)).toNat 0) = _
    rw [Int.toNat_natCast, getD_some h2]
  · rw [List.getElem?_eq_none (by rw [rg_len]; omega), List.getElem?_eq_none (by omega)]
    rfl
theorem stp_comp {n : Nat} {h : List (List Int)} {p : Int} {w L : List Int} (hL : L.Perm (rg n)) (e : w.length = n) : stp h p (comp w L) = comp (stp h p w) L := by
  unfold stp comp
  rw [List.map_map]
  refine List.map_congr_left fun k hk => ?_
  have hk2 := perm_in hL hk
  have h2 : w[k.toNat]? = some (w[k.toNat]'(by have := hk2.1; have := hk2.2; omega)) := List.getElem?_eq_getElem _
  show mv h p (w.getD k.toNat 0) = _
  rw [getD_some h2]
  refine (getD_some ?_).symm
  rw [List.getElem?_map, h2]
  rfl
theorem comp_len (w L : List Int) : (comp w L).length = L.length := List.length_map ..
theorem comp_id {n : Nat} {L : List Int} (hL : L.Perm (rg n)) : comp (rg n) L = L := by
  unfold comp
  have : L.map id = L := List.map_id L
  refine Eq.trans (List.map_congr_left fun k hk => ?_) this
  have hk2 := perm_in hL hk
  have e := rg_at (n := n) (i := k.toNat) (by have := hk2.1; have := hk2.2; omega)
  rw [getD_some e, Int.toNat_of_nonneg hk2.1]
  rfl
/-- the states that touches lead to, and how far they are -/
structure Grf (n : Nat) (h : List (List Int)) (L : List Int) (U : List (List Int)) (dep : List Int → Nat) (D : Nat) : Prop where
  nd : U.Nodup
  most : U.length ≤ 120
  L0 : L ∈ U
  d0 : dep L = 0
  le : ∀ s ∈ U, dep s ≤ D
  lay : ∀ s ∈ U, s.length = n ∧ ∀ i ∈ s, InR n i
  step : ∀ s ∈ U, ∀ p, InR n p → stp h p s ∈ U ∧ dep (stp h p s) ≤ dep s + 1
  pre : ∀ s ∈ U, s ≠ L → ∃ s' ∈ U, ∃ p, InR n p ∧ stp h p s' = s ∧ dep s = dep s' + 1
theorem Grf.of {n : Nat} {h U : List (List Int)} {inU : List Int → Bool} {dep : List Int → Nat} {D : Nat} (g : grB n h U inU dep D = true) (hin : ∀ s, inU s = true → s ∈ U) (hU : ∀ w ∈ U, w.Perm (rg n)) (nd : U.Nodup) (c : U.length ≤ 120)
    {L : List Int} (hL : L.Perm (rg n)) : Grf n h L (U.map fun w => comp w L) (fun s => dep (rel n L s)) D := by
  unfold grB at g
  simp only [Bool.and_eq_true, decide_eq_true_eq, List.all_eq_true, Bool.or_eq_true, List.any_eq_true] at g
  obtain ⟨⟨g1, g2⟩, g3⟩ := g
  have lw : ∀ w ∈ U, w.length = n := fun w hw => perm_len (hU w hw)
  refine ⟨?_, by rw [List.length_map]; exact c, List.mem_map.mpr ⟨_, hin _ g1, comp_id hL⟩, ?_, fun s hs => ?_, fun s hs => ?_, fun s hs p hp => ?_, fun s hs hne => ?_⟩
  · refine List.Pairwise.of_map (S := (· ≠ ·)) (rel n L) (fun a b hab e => hab (by rw [e])) ?_
    rw [List.map_map]
    have e : U.map ((rel n L) ∘ fun w => comp w L) = U := by
      refine Eq.trans (List.map_congr_left fun w hw => ?_) (List.map_id U)
      exact rel_comp hL (lw w hw)
    rw [e]
    exact nd
  · show dep (rel n L L) = 0
    have e : rel n L L = rg n := by
      have := rel_comp (w := rg n) hL (rg_len n)
      rw [comp_id hL] at this
      exact this
    rw [e]
    exact g2
  · obtain ⟨w, hw, rfl⟩ := List.mem_map.mp hs
    show dep (rel n L (comp w L)) ≤ D
    rw [rel_comp hL (lw w hw)]
    exact (g3 w hw).1.1
  · obtain ⟨w, hw, rfl⟩ := List.mem_map.mp hs
    refine ⟨by rw [comp_len, perm_len hL], fun i hi => ?_⟩
    obtain ⟨k, hk, rfl⟩ := List.mem_map.mp hi
    have hk2 := perm_in hL hk
    have h2 : w[k.toNat]? = some (w[k.toNat]'(by have := hk2.1; have := hk2.2; have := lw w hw; omega)) := List.getElem?_eq_getElem _
    show InR n (w.getD k.toNat 0)
    rw [getD_some h2]
    exact perm_in (hU w hw) (List.getElem_mem _)
  · obtain ⟨w, hw, rfl⟩ := List.mem_map.mp hs
    obtain ⟨q1, q2⟩ := (g3 w hw).1.2 p (rg_mem.mpr hp)
    have e1 := stp_comp (h := h) (p := p) hL (lw w hw)
    refine ⟨List.mem_map.mpr ⟨_, hin _ q1, e1.symm⟩, ?_⟩
    show dep (rel n L (stp h p (comp w L))) ≤ dep (rel n L (comp w L)) + 1
    rw [e1, rel_comp hL (lw w hw), rel_comp hL (by unfold stp; rw [List.length_map]; exact lw w hw)]
    exact q2
  · obtain ⟨w, hw, rfl⟩ := List.mem_map.mp hs
    rcases (g3 w hw).2 with e | ⟨p, hp, ⟨h1, h2⟩, h3⟩
    · rw [e, comp_id hL] at hne
      exact absurd rfl hne
    · have lp : (stpi h p w).length = n := by
        unfold stpi
        rw [List.length_map]
        exact lw w hw
      refine ⟨comp (stpi h p w) L, List.mem_map.mpr ⟨_, hin _ h1, rfl⟩, p, rg_mem.mp hp, ?_, ?_⟩
      · rw [stp_comp hL lp, h2]
      · show dep (rel n L (comp w L)) = dep (rel n L (comp (stpi h p w) L)) + 1
        rw [rel_comp hL (lw w hw), rel_comp hL lp]
        exact h3
/-- there are states at each distance up to that of any -/
theorem Grf.down {n : Nat} {h : List (List Int)} {L : List Int} {U : List (List Int)} {dep : List Int → Nat} {D : Nat} (G : Grf n h L U dep D) : ∀ (m d : Nat) (s : List Int), s ∈ U → dep s = d + m → ∃ s' ∈ U, dep s' = d
  | 0, d, s, hs, e => ⟨s, hs, e⟩
  | m + 1, d, s, hs, e => by
    have hne : s ≠ L := by
      rintro rfl
      rw [G.d0] at e
      omega
    obtain ⟨s', hs', p, _, _, e2⟩ := G.pre s hs hne
    exact G.down m d s' hs' (by omega)
theorem grf_front {n : Nat} (n2 : 2 ≤ n) (n5 : n ≤ 5) {L : List Int} (hL : L.Perm (rg n)) : Grf n (frontH n) L ((prm (rg n)).map fun w => comp w L) (fun s => depF n (rel n L s)) (n - 1) := by
  have key : ∀ n, n < 6 → 2 ≤ n → (prm (rg n)).Nodup ∧ (prm (rg n)).length ≤ 120 := by decide +kernel
  obtain ⟨k1, k2⟩ := key n (by omega) n2
  refine Grf.of (inU := fun s => s.isPerm (rg n)) ?_ (fun s hs => mem_prm.mpr (List.isPerm_iff.mp hs)) (fun w hw => mem_prm.mp hw) k1 k2 hL
  match n, n2, n5 with
  | 2, _, _ => exact fg2
  | 3, _, _ => exact fg3
  | 4, _, _ => exact fg4
  | 5, _, _ => exact fg5
theorem grf_neigh {n : Nat} (n2 : 2 ≤ n) (n5 : n ≤ 5) {L : List Int} (hL : L.Perm (rg n)) : Grf n (neighH n) L ((prm (rg n)).map fun w => comp w L) (fun s => invs (rel n L s)) 20 := by
  have key : ∀ n, n < 6 → 2 ≤ n → (prm (rg n)).Nodup ∧ (prm (rg n)).length ≤ 120 := by decide +kernel
  obtain ⟨k1, k2⟩ := key n (by omega) n2
  refine Grf.of (inU := fun s => s.isPerm (rg n)) ?_ (fun s hs => mem_prm.mpr (List.isPerm_iff.mp hs)) (fun w hw => mem_prm.mp hw) k1 k2 hL
  match n, n2, n5 with
  | 2, _, _ => exact ng2
  | 3, _, _ => exact ng3
  | 4, _, _ => exact ng4
  | 5, _, _ => exact ng5
theorem grf_turn {n : Nat} (n2 : 2 ≤ n) (n5 : n ≤ 5) {L : List Int} (hL : L.Perm (rg n)) : Grf n (turnH n) L ((turnH n).map fun w => comp w L) (fun s => depT n (rel n L s)) 20 := by
  have key : ∀ n, n < 6 → 2 ≤ n → (turnH n).Nodup ∧ (turnH n).length ≤ 120 ∧ (turnH n).all (fun w => w.isPerm (rg n)) = true := by decide +kernel
  obtain ⟨k1, k2, k3⟩ := key n (by omega) n2
  exact Grf.of (tg n (by omega) n2) (fun s hs => List.contains_iff_mem.mp hs) (fun w hw => List.isPerm_iff.mp (List.all_eq_true.mp k3 w hw)) k1 k2 hL
end RH
set_option Elab.async false
set_option linter.all false
set_option maxRecDepth 100000
set_option maxHeartbeats 2000000
namespace RH
open PySem PySem.Spec PyProof.Rows L2
/-! ### a search, level by level -/
theorem nd1 {α : Type} (a : α) : [a].Nodup := by simp
section
variable {n : Nat} {h : List (List Int)} {L : List Int} {U : List (List Int)} {dep : List Int → Nat} {D : Nat}
/-- before a level -/
structure Lev (U : List (List Int)) (dep : List Int → Nat) (d : Nat) (fs lv : List (List Int)) : Prop where
  nd : fs.Nodup
  mem : ∀ s, s ∈ fs ↔ s ∈ U ∧ dep s ≤ d
  lev : ∀ s, s ∈ lv ↔ s ∈ U ∧ dep s = d
  ll : lv.length ≤ 120
/-- within it -/
structure Mid (n : Nat) (h : List (List Int)) (U : List (List Int)) (dep : List Int → Nat) (d : Nat) (lv fs fur : List (List Int)) (i j : Nat) : Prop where
  nd : fs.Nodup
  sub : ∀ s ∈ fs, s ∈ U ∧ dep s ≤ d + 1
  old : ∀ s ∈ U, dep s ≤ d → s ∈ fs
  fm : ∀ s, s ∈ fur ↔ s ∈ fs ∧ dep s = d + 1
  fl : fur.length ≤ fs.length
  got : ∀ (i' : Nat) s, lv[i']? = some s → ∀ p : Nat, p < n → (i' < i ∨ (i' = i ∧ p < j)) → stp h p s ∈ fs
theorem Lev.mid {d : Nat} {fs lv : List (List Int)} (a : Lev U dep d fs lv) : Mid n h U dep d lv fs [] 0 0 := by
  refine ⟨a.nd, fun s hs => ?_, fun s hs hd => (a.mem s).mpr ⟨hs, hd⟩, fun s => ⟨fun z => absurd z List.not_mem_nil, fun ⟨z1, z2⟩ => ?_⟩, Nat.zero_le _, fun i' s _ p _ z => ?_⟩
  · have := (a.mem s).mp hs
    exact ⟨this.1, by omega⟩
  · have := (a.mem s).mp z1
    omega
  · omega
theorem Mid.most {d : Nat} {lv fs fur : List (List Int)} {i j : Nat} (G : Grf n h L U dep D) (m : Mid n h U dep d lv fs fur i j) : fs.length ≤ 120 := Nat.le_trans (List.Nodup.length_le_of_subset m.nd fun s hs => (m.sub s hs).1) G.most
theorem Lev.most {d : Nat} {fs lv : List (List Int)} (G : Grf n h L U dep D) (m : Lev U dep d fs lv) : fs.length ≤ 120 := Nat.le_trans (List.Nodup.length_le_of_subset m.nd fun s hs => ((m.mem s).mp hs).1) G.most
theorem Mid.old1 {d : Nat} {lv fs fur : List (List Int)} {i j : Nat} (m : Mid n h U dep d lv fs fur i j) {s : List Int} (hs : lv[i]? = some s) (hn : stp h j s ∈ fs) : Mid n h U dep d lv fs fur i (j + 1) := by
  refine ⟨m.nd, m.sub, m.old, m.fm, m.fl, fun i' s' e p hp z => ?_⟩
  by_cases q : i' = i ∧ p = j
  · obtain ⟨rfl, rfl⟩ := q
    rw [hs] at e
    cases e
    exact hn
  · exact m.got i' s' e p hp (by omega)
theorem Mid.new1 {d : Nat} {lv fs fur : List (List Int)} {i j : Nat} (G : Grf n h L U dep D) (m : Mid n h U dep d lv fs fur i j) {s : List Int} (hs : lv[i]? = some s) (hU : s ∈ U) (hd : dep s = d) (hj : j < n) (hn : stp h j s ∉ fs) :
    dep (stp h j s) = d + 1 ∧ Mid n h U dep d lv (fs ++ [stp h j s]) (fur ++ [stp h j s]) i (j + 1) := by
  obtain ⟨g1, g2⟩ := G.step s hU (j : Int) ⟨by omega, by omega⟩
  have e : dep (stp h j s) = d + 1 := by
    by_cases z : dep (stp h j s) ≤ d
    · exact absurd (m.old _ g1 z) hn
    · omega
  refine ⟨e, ⟨?_, fun t ht => ?_, fun t ht z => List.mem_append_left _ (m.old t ht z), fun t => ?_, ?_, fun i' s' e' p hp z => ?_⟩⟩
  · refine List.nodup_append.mpr ⟨m.nd, (nd1 _), fun a ha b hb => ?_⟩
    rw [List.mem_singleton.mp hb]
    rintro rfl
    exact hn ha
  · rcases List.mem_append.mp ht with z | z
    · exact m.sub t z
    · rw [List.mem_singleton.mp z]
      exact ⟨g1, by omega⟩
  · constructor
    · intro z
      rcases List.mem_append.mp z with z | z
      · have := (m.fm t).mp z
        exact ⟨List.mem_append_left _ this.1, this.2⟩
      · rw [List.mem_singleton.mp z]
        exact ⟨List.mem_append_right _ (List.mem_singleton.mpr rfl), e⟩
    · rintro ⟨z1, z2⟩
      rcases List.mem_append.mp z1 with z | z
      · exact List.mem_append_left _ ((m.fm t).mpr ⟨z, z2⟩)
      · exact List.mem_append_right _ z
  · rw [List.length_append, List.length_append]
    have := m.fl
    show _ + 1 ≤ _ + 1
    omega
  · by_cases q : i' = i ∧ p = j
    · obtain ⟨rfl, rfl⟩ := q
      rw [hs] at e'
      cases e'
      exact List.mem_append_right _ (List.mem_singleton.mpr rfl)
    · exact List.mem_append_left _ (m.got i' s' e' p hp (by omega))
theorem Mid.row {d : Nat} {lv fs fur : List (List Int)} {i : Nat} (m : Mid n h U dep d lv fs fur i n) : Mid n h U dep d lv fs fur (i + 1) 0 :=
  ⟨m.nd, m.sub, m.old, m.fm, m.fl, fun i' s' e p hp z => m.got i' s' e p hp (by omega)⟩
theorem Mid.fin {d : Nat} {lv fs fur : List (List Int)} (G : Grf n h L U dep D) (lev : ∀ s, s ∈ lv ↔ s ∈ U ∧ dep s = d) (m : Mid n h U dep d lv fs fur lv.length 0) : Lev U dep (d + 1) fs fur := by
  have all : ∀ s, s ∈ U → dep s ≤ d + 1 → s ∈ fs := fun s hs hd => by
    by_cases z : dep s ≤ d
    · exact m.old s hs z
    · have hne : s ≠ L := by
        rintro rfl
        have := G.d0
        omega
      obtain ⟨s', hs', p, hp, e1, e2⟩ := G.pre s hs hne
      have hl : s' ∈ lv := (lev s').mpr ⟨hs', by omega⟩
      obtain ⟨i', hi⟩ := List.mem_iff_getElem?.mp hl
      have hi2 : i' < lv.length := (List.getElem?_eq_some_iff.mp hi).1
      have := m.got i' s' hi p.toNat (by have := hp.1; have := hp.2; omega) (.inl hi2)
      rw [Int.toNat_of_nonneg hp.1, e1] at this
      exact this
  refine ⟨m.nd, fun s => ⟨fun z => m.sub s z, fun z => all s z.1 z.2⟩, fun s => ⟨fun z => ?_, fun z => (m.fm s).mpr ⟨all s z.1 (by omega), z.2⟩⟩, Nat.le_trans m.fl (m.most G)⟩
  have := (m.fm s).mp z
  exact ⟨(m.sub s this.1).1, this.2⟩
theorem Lev.start (G : Grf n h L U dep D) : Lev U dep 0 [L] [L] := by
  have z0 : ∀ s, s ∈ U → dep s = 0 → s = L := fun s hs e => by
    by_cases z : s = L
    · exact z
    · obtain ⟨s', _, p, _, _, e2⟩ := G.pre s hs z
      omega
  refine ⟨(nd1 _), fun s => ⟨fun z => ?_, fun z => ?_⟩, fun s => ⟨fun z => ?_, fun z => ?_⟩, by show 1 ≤ 120; decide⟩
  · rw [List.mem_singleton.mp z]
    exact ⟨G.L0, Nat.le_of_eq G.d0⟩
  · rw [z0 s z.1 (by omega)]
    exact List.mem_singleton.mpr rfl
  · rw [List.mem_singleton.mp z]
    exact ⟨G.L0, G.d0⟩
  · rw [z0 s z.1 z.2]
    exact List.mem_singleton.mpr rfl
/-- an empty level: all are found -/
theorem Lev.done {d : Nat} {fs : List (List Int)} (G : Grf n h L U dep D) (a : Lev U dep d fs []) : ∀ s, s ∈ fs ↔ s ∈ U := fun s => by
  refine ⟨fun z => ((a.mem s).mp z).1, fun z => (a.mem s).mpr ⟨z, ?_⟩⟩
  by_cases q : dep s ≤ d
  · exact q
  · obtain ⟨s', h1, h2⟩ := G.down (dep s - d) d s z (by omega)
    exact absurd ((a.lev s').mpr ⟨h1, h2⟩) List.not_mem_nil
theorem Lev.low {d : Nat} {fs lv : List (List Int)} (G : Grf n h L U dep D) (a : Lev U dep d fs lv) (ne : lv ≠ []) : d ≤ D := by
  cases lv with
  | nil => exact absurd rfl ne
  | cons s r =>
    have := (a.lev s).mp (List.mem_cons_self ..)
    have := G.le s this.1
    omega
end
end RH
set_option Elab.async false
set_option linter.all false
set_option maxRecDepth 100000
set_option maxHeartbeats 2000000
namespace RH
open PySem PySem.Spec PyProof.Rows L2
/-! ### the checks of one shelf, a touch -/
section
variable {P : Program} {w : World} {K : PySem.W.Frag} {mg : Str → Option Value} {base : Heap}
def spCheckNumber : Sp := fun vs H Q _ => ∃ i lo hi : Int, vs = [.int i, .int lo, .int hi] ∧ lo ≤ i ∧ i ≤ hi ∧ Q .non H
theorem ok_check_number (F : Df K mg "check_number" st_check_number ["value", "low", "high"]) (C2 : Cal P w K mg base 2 "is_number" spIsNumber) : Cal P w K mg base 3 "check_number" spCheckNumber := by
  refine mkCal F sc_check_number (fun vs H Q E h => ?_) (fun f cdv A outer s H vs Q E hr h => ?_)
  · obtain ⟨i, lo, hi, rfl, _⟩ := h
    rfl
  · obtain ⟨i, lo, hi, rfl, h1, h2, q⟩ := h
    refine ⟨_, pss_one (ps_if (pt_not (pt_val (pc C2 hr (pa_cons (pv 0) (pa_cons (pv 1) (pa_cons (pv 2) pa_nil)))))) (pss_one ps_no) pss_nil), ?_⟩
    exact ⟨_, rfl, _, rfl, _, rfl, i, lo, hi, rfl, _, rfl, ifF (by rw [decide_eq_true h1, decide_eq_true h2]; rfl) q⟩
def spCheckPlaces : Sp := fun vs H Q _ => ∃ n : Nat, vs = [.int n] ∧ 2 ≤ n ∧ n ≤ 5 ∧ Q .non H
theorem ok_check_places (F : Df K mg "check_places" st_check_places ["places"]) (c2 : ∃ t, mg "FEWEST_PLACES" = some (.int 2 t)) (c5 : ∃ t, mg "MOST_PLACES" = some (.int 5 t)) (C3 : Cal P w K mg base 3 "check_number" spCheckNumber) :
    Cal P w K mg base 4 "check_places" spCheckPlaces := by
  refine mkCal F sc_check_places (fun vs H Q E h => ?_) (fun f cdv A outer s H vs Q E hr h => ?_)
  · obtain ⟨n, rfl, _⟩ := h
    rfl
  · obtain ⟨n, rfl, h1, h2, q⟩ := h
    refine ⟨_, pss_one (ps_expr (pc C3 hr (pa_cons (pv 0) (pa_cons (pk c2) (pa_cons (pk c5) pa_nil))))), ?_⟩
    exact ⟨_, rfl, n, 2, 5, rfl, by omega, by omega, q⟩
theorem lay_yes {n : Nat} {L : List Int} (h : L.Perm (rg n)) : isLay n L = true := by
  unfold isLay
  exact List.isPerm_iff.mpr h
def spCheckHabit (K : PySem.W.Frag) : Sp := fun vs H Q _ => ∃ (v : V) (h : List (List Int)) (n : Nat), vs = [v] ∧ TII K H v h ∧ Hb n h ∧ ∀ H', Same H H' → Q .non H'
theorem ok_check_habit (F : Df K mg "check_habit" st_check_habit ["habit"]) (B : Bu mg) (c2 : ∃ t, mg "FEWEST_PLACES" = some (.int 2 t)) (c5 : ∃ t, mg "MOST_PLACES" = some (.int 5 t))
    (C1 : Cal P w K mg base 1 "is_row" (spIsRow K)) (C5 : Cal P w K mg base 5 "is_layout" (spIsLayout K)) : Cal P w K mg base 6 "check_habit" (spCheckHabit K) := by
  refine mkCal F sc_check_habit (fun vs H Q E h => ?_) (fun f cdv A outer s H vs Q E hr h => ?_)
  · obtain ⟨v, h, n, rfl, _⟩ := h
    rfl
  · obtain ⟨v, h, n, rfl, ⟨a, xs, rfl, hS, hE⟩, hb, q⟩ := h
    have hxl : xs.length = n := hE.len.trans hb.len
    have n2 := hb.lo
    have n5 := hb.hi
    refine ⟨_, pss_cons (ps_if (pt_not (pt_val (pc C1 hr (pa_cons (pv 0) (pa_cons (pk c2) (pa_cons (pk c5) pa_nil)))))) (pss_one ps_no) pss_nil)
      (pss_one (ps_for PassesOwn.never rfl (pi_enumT (by rfl) B.enumerate (pa_cons (pv 0) pa_nil)) (pg_tup rfl (pgs_cons (pg_name (i := 1) sc_check_habit.nd rfl (.inl rfl)) (pgs_cons (pg_name (i := 2) sc_check_habit.nd rfl (.inl rfl)) pgs_nil)))
        (pss_one (ps_if (pt_not (pt_val (pc C5 hr (pa_cons (pv 2) (pa_cons (pe_callB (cl_len K) (by rfl) B.len PySem.boot_len (pa_cons (pv 0) pa_nil)) pa_nil))))) (pss_one ps_no) pss_nil)))), ?_⟩
    refine ⟨_, rfl, a, xs, 2, 5, rfl, hS, _, rfl, ifF ?_ ?_⟩
    · rw [hxl, decide_eq_true (by omega), decide_eq_true (by omega)]
      rfl
    refine ⟨_, rfl, a, xs, rfl, hS, ?_⟩
    refine for_enumT (xs := xs) (fun i σ H' => Same H H' ∧ ∃ y1 y2, σ = [some (.ref a), y1, y2]) ⟨Same.refl H, none, none, rfl⟩ (fun i σ H' h' => onT h'.1 hS) (fun i x T σ H' hx h' hT => ?_) (fun σ H' h' => q H' h'.1)
    obtain ⟨sm, y1, y2, rfl⟩ := h'
    obtain ⟨ns, hn, hTx⟩ := hE.at hx
    have hpm := hb.perm ns (List.mem_of_getElem? hn)
    have sT : Same H (upd H' T (.tup [.int (i : Nat), x])) := sm.trans (same_new hT)
    refine ⟨T, _, rfl, tupAt upd_same, rfl, _, _, rfl, _, _, rfl, rfl, _, rfl, _, rfl, a, xs, rfl, .inr (onT sT hS), x, ns, n, by rw [hxl]; rfl, hTx.on (fun _ _ z => onT sT z), by rw [perm_len hpm]; omega, by omega, fun H3 sm3 => ⟨_, rfl, ifF (by rw [lay_yes hpm]; rfl) ⟨sT.trans sm3, _, _, rfl⟩⟩⟩
def spCheckLayout (K : PySem.W.Frag) : Sp := fun vs H Q _ => ∃ (v : V) (L : List Int) (n : Nat), vs = [v, .int n] ∧ TI K H v L ∧ L.Perm (rg n) ∧ n ≤ 5 ∧ ∀ H', Same H H' → Q .non H'
theorem ok_check_layout (F : Df K mg "check_layout" st_check_layout ["layout", "places"]) (C5 : Cal P w K mg base 5 "is_layout" (spIsLayout K)) : Cal P w K mg base 6 "check_layout" (spCheckLayout K) := by
  refine mkCal F sc_check_layout (fun vs H Q E h => ?_) (fun f cdv A outer s H vs Q E hr h => ?_)
  · obtain ⟨v, L, n, rfl, _⟩ := h
    rfl
  · obtain ⟨v, L, n, rfl, hT, hp, n5, q⟩ := h
    refine ⟨_, pss_one (ps_if (pt_not (pt_val (pc C5 hr (pa_cons (pv 0) (pa_cons (pv 1) pa_nil))))) (pss_one ps_no) pss_nil), ?_⟩
    exact ⟨_, rfl, _, rfl, v, L, n, rfl, hT, by rw [perm_len hp]; omega, by omega, fun H1 sm => ⟨_, rfl, ifF (by rw [lay_yes hp]; rfl) (q H1 sm)⟩⟩
def spCheckPlace : Sp := fun vs H Q _ => ∃ (i : Int) (n : Nat), vs = [.int i, .int n] ∧ InR n i ∧ Q .non H
theorem ok_check_place (F : Df K mg "check_place" st_check_place ["place", "places"]) (C3 : Cal P w K mg base 3 "is_place" spIsPlace) : Cal P w K mg base 4 "check_place" spCheckPlace := by
  refine mkCal F sc_check_place (fun vs H Q E h => ?_) (fun f cdv A outer s H vs Q E hr h => ?_)
  · obtain ⟨i, n, rfl, _⟩ := h
    rfl
  · obtain ⟨i, n, rfl, hi, q⟩ := h
    refine ⟨_, pss_one (ps_if (pt_not (pt_val (pc C3 hr (pa_cons (pv 0) (pa_cons (pv 1) pa_nil))))) (pss_one ps_no) pss_nil), ?_⟩
    exact ⟨_, rfl, _, rfl, i, n, rfl, _, rfl, ifF (by rw [decide_eq_true hi.1, decide_eq_true (by have := hi.2; omega)]; rfl) q⟩
def spPlacesOf (K : PySem.W.Frag) : Sp := fun vs H Q _ => ∃ (v : V) (h : List (List Int)) (n : Nat), vs = [v] ∧ TII K H v h ∧ Hb n h ∧ ∀ q, H q = none → Q (.ref q) (upd H q (.tup ((rg n).map V.int)))
theorem ok_places_of (F : Df K mg "places_of_habit" st_places_of_habit ["habit"]) (B : Bu mg) : Cal P w K mg base 1 "places_of_habit" (spPlacesOf K) := by
  refine mkCal F sc_places_of_habit (fun vs H Q E h => ?_) (fun f cdv A outer s H vs Q E hr h => ?_)
  · obtain ⟨v, h, n, rfl, _⟩ := h
    rfl
  · obtain ⟨v, h, n, rfl, ⟨a, xs, rfl, hS, hE⟩, hb, q⟩ := h
    have hxl : xs.length = n := hE.len.trans hb.len
    have n5 := hb.hi
    refine ⟨_, pss_one (ps_ret (pe_tupRg rfl (by rfl) B.tuple (prg_1 (by rfl) B.range (pe_callB (cl_len K) (by rfl) B.len PySem.boot_len (pa_cons (pv 0) pa_nil))))), ?_⟩
    refine ⟨_, rfl, a, xs, rfl, .inr hS, (xs.length : Int), rfl, ?_⟩
    rw [hxl]
    refine ⟨⟨by omega, by omega, by omega, by omega, by omega⟩, fun t ht => ?_⟩
    rw [rgV_rg]
    exact q t ht
def spMove (K : PySem.W.Frag) : Sp := fun vs H Q _ => ∃ (v : V) (h : List (List Int)) (n : Nat) (a : Addr) (L : List Int) (p : Int), vs = [v, .ref a, .int p] ∧ TII K H v h ∧ Hb n h ∧ SqT K H a (L.map V.int) ∧ (∀ i ∈ L, InR n i) ∧ L.length ≤ 1000 ∧ InR n p ∧
  ∀ H' q, Same H H' → H q = none → FT H' q (stp h p L) → Q (.ref q) H'
theorem ok_move (F : Df K mg "move" st_move ["habit", "layout", "place"]) (B : Bu mg) : Cal P w K mg base 1 "move" (spMove K) := by
  refine mkCal F sc_move (fun vs H Q E h => ?_) (fun f cdv A outer s H vs Q E hr h => ?_)
  · obtain ⟨v, h, n, a, L, p, rfl, _⟩ := h
    rfl
  · obtain ⟨v, h, n, a, L, p, rfl, ⟨ah, xs, rfl, hS, hE⟩, hb, hL, hin, hlen, hp, q⟩ := h
    refine ⟨_, pss_cons (ps_set (i := 3) sc_move.nd rfl (.inr rfl) (pe_ix ix_tup (pv 0) (pv 2) (fun _ _ => rfl)))
      (pss_one (ps_ret (pe_tupleF (by rfl) B.tuple (pe_lc (own := [("stood", 4)]) (g := gName 4) (tt := tYes) rfl sc_move.nd (pi_tup (pv 1)) (blkOk_by (N := ["habit", "layout", "place", "moves", "stood"]) (sc := defScope st_move) (by decide +kernel))
        (fun _ _ _ _ _ => pg_name (i := 4) sc_move.nd rfl (Or.inl rfl)) (fun _ _ _ _ _ => pts_nil) (fun _ _ _ _ _ => pe_ix (ixT K) (pv 3) (pv 4) (fun _ _ => rfl)))))), ?_⟩
    obtain ⟨a1, ns1, e1, s1, _⟩ := ix2 hE hb hp hp
    refine ⟨_, rfl, _, rfl, ah, xs, p, _, rfl, rfl, hS, e1, ?_⟩
    refine ⟨_, rfl, a, rfl, ⟨_, hL⟩, fun D hD => ?_⟩
    refine lc_tup (xs := L.map V.int) (fun i H' => Same H H' ∧ H' D = some (.lst (((L.take i).map (mv h p)).map V.int))) ⟨same_new hD, upd_same⟩ (fun i H' _ h' => onT h'.1 hL) (fun i x H' hx h' => ?_) (fun H' h' => ?_)
    · obtain ⟨st, hst, rfl⟩ := map_at hx
      obtain ⟨sm, eD⟩ := h'
      obtain ⟨a2, ns2, e2, s2, e3⟩ := ix2 hE hb hp (hin st (List.mem_of_getElem? hst))
      rw [e1] at e2
      cases e2
      refine ⟨rfl, _, rfl, _, rfl, a1, _, st, _, rfl, rfl, onT sm s2, e3, _, eD, ?_, ?_, ?_⟩
      · rw [List.length_map, List.length_map, List.length_take]
        exact small1000 (by omega)
      · intro b o e
        rw [upd_ne (ne_of_none e hD)]
        exact sm b o e
      · rw [upd_same, take_more hst, List.map_append, List.map_append]
        rfl
    · obtain ⟨sm, eD⟩ := h'
      rw [List.length_map, List.take_length] at eD
      refine ⟨D, _, rfl, lstAt eD, fun t ob ht hob => q _ t (sm.trans (same_new ht)) ?_ ⟨ob, upd_same, hob⟩⟩
      cases e : H t with
      | none => rfl
      | some o =>
        rw [sm _ _ e] at ht
        cases ht
def spTouched (K : PySem.W.Frag) : Sp := fun vs H Q _ => ∃ (v : V) (h : List (List Int)) (n : Nat) (a : Addr) (L : List Int) (p : Int), vs = [v, .ref a, .int p] ∧ TII K H v h ∧ Hb n h ∧ SqT K H a (L.map V.int) ∧ L.Perm (rg n) ∧ InR n p ∧
  ∀ H' q, Same H H' → FT H' q (stp h p L) → Q (.ref q) H'
theorem ok_touched (F : Df K mg "touched" st_touched ["habit", "layout", "place"]) (B : Bu mg) (CH : Cal P w K mg base 6 "check_habit" (spCheckHabit K)) (CL : Cal P w K mg base 6 "check_layout" (spCheckLayout K)) (CP : Cal P w K mg base 4 "check_place" spCheckPlace)
    (CM : Cal P w K mg base 1 "move" (spMove K)) : Cal P w K mg base 7 "touched" (spTouched K) := by
  refine mkCal F sc_touched (fun vs H Q E h => ?_) (fun f cdv A outer s H vs Q E hr h => ?_)
  · obtain ⟨v, h, n, a, L, p, rfl, _⟩ := h
    rfl
  · obtain ⟨v, h, n, a, L, p, rfl, hT, hb, hL, hpm, hp, q⟩ := h
    obtain ⟨ah, xs, rfl, hS, hE⟩ := id hT
    have hxl : xs.length = n := hE.len.trans hb.len
    have n5 := hb.hi
    refine ⟨_, pss_cons (ps_expr (pc CH hr (pa_cons (pv 0) pa_nil)))
      (pss_cons (ps_expr (pc CL hr (pa_cons (pv 1) (pa_cons (pe_callB (cl_len K) (by rfl) B.len PySem.boot_len (pa_cons (pv 0) pa_nil)) pa_nil))))
      (pss_cons (ps_expr (pc CP hr (pa_cons (pv 2) (pa_cons (pe_callB (cl_len K) (by rfl) B.len PySem.boot_len (pa_cons (pv 0) pa_nil)) pa_nil))))
      (pss_one (ps_ret (pc CM hr (pa_cons (pv 0) (pa_cons (pv 1) (pa_cons (pv 2) pa_nil)))))))), ?_⟩
    refine ⟨_, rfl, _, h, n, rfl, hT, hb, fun H1 s1 => ?_⟩
    refine ⟨_, rfl, _, rfl, ah, xs, rfl, .inr (onT s1 hS), _, L, n, by rw [hxl]; rfl, ⟨a, rfl, onT s1 hL⟩, hpm, n5, fun H2 s2 => ?_⟩
    have s12 := s1.trans s2
    refine ⟨_, rfl, _, rfl, ah, xs, rfl, .inr (onT s12 hS), p, n, by rw [hxl]; rfl, hp, ?_⟩
    refine ⟨_, rfl, _, rfl, _, rfl, _, h, n, a, L, p, rfl, hT.on (fun _ _ z => onT s12 z), hb, onT s12 hL, fun i hi => perm_in hpm hi, by rw [perm_len hpm]; omega, hp, fun H3 q3 s3 _ e3 => q H3 q3 (s12.trans s3) e3⟩
end
end RH
set_option Elab.async false
set_option linter.all false
set_option maxRecDepth 100000
set_option maxHeartbeats 2000000
namespace RH
open PySem PySem.Spec PyProof.Rows L2
/-! ### the known habits -/
theorem ixN_int {n : Nat} {k : Int} (h0 : 0 ≤ k) (h1 : k < n) : ixN n k = some k.toNat := by
  unfold ixN
  rw [if_pos h0, if_pos h1]
theorem catA_ok {K : PySem.W.Frag} {H : Hp} {a b : Addr} {xs ys : List V} {Q : VK} (ha : H a = some (.tup xs)) (hb : H b = some (.tup ys)) (hl : xs.length + ys.length ≤ 1000) (q : ∀ r H', Same H H' → H' r = some (.tup (xs ++ ys)) → Q (.ref r) H') : rCatA K (.ref a) (.ref b) H Q := by
  refine ⟨a, b, xs, ys, rfl, rfl, tupAt ha, tupAt hb, Nat.le_of_lt (small1000 hl), fun e => ?_, fun _ e => ?_, fun _ _ p hp => q p _ (same_new hp) upd_same⟩
  · subst e
    exact q b H (Same.refl H) hb
  · subst e
    exact q a H (Same.refl H) (by rw [List.append_nil]; exact ha)
theorem rgV_map (lo : Int) (hi : Int) (k : Nat) (e : (hi - lo).toNat = k) : rgV lo hi = ((List.range k).map fun i : Nat => (lo + (i : Int))).map V.int := by
  unfold rgV
  rw [e, List.map_map]
  rfl
section
variable {P : Program} {w : World} {K : PySem.W.Frag} {mg : Str → Option Value} {base : Heap}
def spPerm (F : Nat → Nat → List Int) : Sp := fun vs H Q _ => ∃ n p : Nat, vs = [.int n, .int p] ∧ p < n ∧ n ≤ 5 ∧ ∀ q H', Same H H' → H' q = some (.tup ((F n p).map V.int)) → Q (.ref q) H'
theorem ok_front_perm (F : Df K mg "front_permutation" st_front_permutation ["places", "place"]) (B : Bu mg) : Cal P w K mg base 1 "front_permutation" (spPerm frontP) := by
  refine mkCal F sc_front_permutation (fun vs H Q E h => ?_) (fun f cdv A outer s H vs Q E hr h => ?_)
  · obtain ⟨n, p, rfl, _⟩ := h
    rfl
  · obtain ⟨n, p, rfl, hp, n5, q⟩ := h
    refine ⟨_, pss_cons (ps_set (i := 2) sc_front_permutation.nd rfl (.inl rfl) (pe_tupRg rfl (by rfl) B.tuple (prg_2 (by rfl) B.range pe_int (pe_op op_add (pv 1) pe_int))))
      (pss_cons (ps_set (i := 3) sc_front_permutation.nd rfl (.inl rfl) (pe_tupRg rfl (by rfl) B.tuple (prg_2 (by rfl) B.range (pe_op op_add (pv 1) pe_int) (pv 0))))
      (pss_one (ps_ret (pe_op op_catA (pe_op op_catA (pv 2) (pe_tup (pa_cons pe_int pa_nil))) (pv 3))))), ?_⟩
    refine ⟨_, rfl, (p : Int), 1, rfl, rfl, 1, (p : Int) + 1, rfl, rfl, ⟨by omega, by omega, by omega, by omega, by omega⟩, fun a1 h1 => ?_⟩
    rw [rgV_map 1 ((p : Int) + 1) p (by omega)]
    have s1 := same_new (o := .tup (((List.range p).map fun i : Nat => (1 + (i : Int))).map V.int)) h1
    refine ⟨_, rfl, (p : Int), 1, rfl, rfl, _, rfl, (p : Int) + 1, n, rfl, rfl, ⟨by omega, by omega, by omega, by omega, by omega⟩, fun a2 h2 => ?_⟩
    rw [rgV_map ((p : Int) + 1) n (n - (p + 1)) (by omega)]
    have s2 := same_new (o := .tup (((List.range (n - (p + 1))).map fun i : Nat => ((p : Int) + 1 + (i : Int))).map V.int)) h2
    refine ⟨_, rfl, by show 1 ≤ sizeLine; decide, fun a3 h3 => ?_⟩
    have s3 := same_new (o := .tup [.int 0]) h3
    refine catA_ok (s3 _ _ (s2 _ _ upd_same)) upd_same (by rw [List.length_map, List.length_map, List.length_range]; show p + 1 ≤ 1000; omega) fun r H4 s4 e4 => ⟨_, rfl, ?_⟩
    refine catA_ok e4 (s4 _ _ (s3 _ _ upd_same)) (by rw [List.length_append, List.length_map, List.length_map, List.length_range, List.length_map, List.length_map, List.length_range]; show p + 1 + (n - (p + 1)) ≤ 1000; omega) fun r2 H5 s5 e5 => q r2 H5 (s1.trans (s2.trans (s3.trans (s4.trans s5)))) ?_
    rw [e5]
    unfold frontP
    rw [List.map_append, List.map_append, List.append_assoc]
    rfl
theorem ok_neigh_perm (F : Df K mg "neighbour_permutation" st_neighbour_permutation ["places", "place"]) (B : Bu mg) : Cal P w K mg base 1 "neighbour_permutation" (spPerm neighP) := by
  refine mkCal F sc_neighbour_permutation (fun vs H Q E h => ?_) (fun f cdv A outer s H vs Q E hr h => ?_)
  · obtain ⟨n, p, rfl, _⟩ := h
    rfl
  · obtain ⟨n, p, rfl, hp, n5, q⟩ := h
    refine ⟨_, pss_cons (ps_set (i := 2) sc_neighbour_permutation.nd rfl (.inl rfl) (pe_listRg rfl (by rfl) B.list (prg_1 (by rfl) B.range (pv 0))))
      (pss_cons (ps_if (pt_cmpR op_gt (pv 1) pe_int (nomark _))
        (pss_one (ps_asg (pe_tup (pa_cons (pv 1) (pa_cons (pe_op op_sub (pv 1) pe_int) pa_nil))) (pg_tup rfl (pgs_cons (pg_sub (pv 2) (pe_op op_sub (pv 1) pe_int) set_list) (pgs_cons (pg_sub (pv 2) (pv 1) set_list) pgs_nil))))) pss_nil)
      (pss_one (ps_ret (pe_tupleOf (by rfl) B.tuple (pv 2))))), ?_⟩
    refine ⟨_, rfl, n, rfl, ⟨by omega, by omega, by omega, by omega, by omega⟩, fun m hm => ?_⟩
    rw [rgV_rg] at *
    have s1 := same_new (o := .lst ((rg n).map V.int)) hm
    have ll : ((rg n).map V.int).length = n := by rw [List.length_map, rg_len]
    have fin : ∀ (H2 : Hp), (∀ b o, H b = some o → b ≠ m → H2 b = some o) → H2 m = some (.lst ((neighP n p).map V.int)) → ∀ t, H2 t = none → Q (.ref t) (upd H2 t (.tup ((neighP n p).map V.int))) := fun H2 s2 e2 t ht => by
      refine q t _ (fun b o e => ?_) upd_same
      have e3 := s2 b o e (ne_of_none e hm)
      rw [upd_ne (ne_of_none e3 ht)]
      exact e3
    refine ⟨_, rfl, (p : Int), 0, rfl, rfl, _, rfl, ite2 (fun e => ?_) (fun e => ?_)⟩
    · have hp0 : 0 < p := by
        have : (p : Int) > 0 := by simpa using e
        omega
      have sub1 : (p : Int) - 1 = ((p - 1 : Nat) : Int) := by omega
      refine ⟨_, rfl, _, rfl, (p : Int), 1, rfl, rfl, by show 2 ≤ sizeLine; decide, fun t ht => ?_⟩
      have s2 := same_new (o := .tup [.int (p : Int), .int ((p : Int) - 1)]) ht
      have em := s2 _ _ (upd_same (H := H) (a := m) (o := .lst ((rg n).map V.int)))
      refine ⟨t, _, rfl, tupAt upd_same, rfl, _, _, rfl, _, rfl, _, rfl, (p : Int), 1, rfl, rfl, m, _, (p : Int) - 1, p - 1, rfl, rfl, em, ?_, ?_⟩
      · have := ixN_int (n := ((rg n).map V.int).length) (k := (p : Int) - 1) (by omega) (by omega)
        rw [this, sub1]
        rfl
      refine ⟨_, _, rfl, _, rfl, _, rfl, m, _, (p : Int), p, rfl, rfl, upd_same, ?_, rfl, ?_⟩
      · have := ixN_int (n := (((rg n).map V.int).set (p - 1) (.int (p : Int))).length) (k := (p : Int)) (by omega) (by rw [List.length_set]; omega)
        exact this
      have et : (((rg n).map V.int).set (p - 1) (.int (p : Int))).set p (.int ((p : Int) - 1)) = (neighP n p).map V.int := by
        unfold neighP
        rw [if_pos hp0, List.map_set, List.map_set, sub1]
      rw [et]
      refine ⟨_, rfl, .inl ⟨m, _, rfl, lstAt upd_same, fun t2 ht2 => fin _ (fun b o e1 ne => ?_) upd_same t2 ht2⟩⟩
      rw [upd_ne ne, upd_ne ne]
      exact s2 _ _ (s1 _ _ e1)
    · have hp0 : ¬ 0 < p := by
        intro z
        apply e
        simp
        exact z
      have et : neighP n p = rg n := if_neg hp0
      rw [et] at fin
      refine ⟨_, rfl, .inl ⟨m, _, rfl, lstAt upd_same, fun t2 ht2 => fin _ (fun b o e1 ne => s1 _ _ e1) upd_same t2 ht2⟩⟩
def spHab (K : PySem.W.Frag) (F : Nat → List (List Int)) : Sp := fun vs H Q _ => ∃ n : Nat, vs = [.int n] ∧ 2 ≤ n ∧ n ≤ 5 ∧ ∀ v H', Same H H' → TII K H' v (F n) → Q v H'
theorem ok_front_habit (F : Df K mg "front_habit" st_front_habit ["places"]) (B : Bu mg) (CP : Cal P w K mg base 4 "check_places" spCheckPlaces) (CF : Cal P w K mg base 1 "front_permutation" (spPerm frontP)) : Cal P w K mg base 5 "front_habit" (spHab K frontH) := by
  refine mkCal F sc_front_habit (fun vs H Q E h => ?_) (fun f cdv A outer s H vs Q E hr h => ?_)
  · obtain ⟨n, rfl, _⟩ := h
    rfl
  · obtain ⟨n, rfl, n2, n5, q⟩ := h
    refine ⟨_, pss_cons (ps_expr (pc CP hr (pa_cons (pv 0) pa_nil)))
      (pss_one (ps_ret (pe_tupleOf (by rfl) B.tuple (pe_lc (own := [("place", 1)]) (g := gName 1) (tt := tYes) rfl sc_front_habit.nd (pi_range1 (by rfl) B.range (pa_cons (pv 0) pa_nil))
        (blkOk_by (N := ["places", "place"]) (sc := defScope st_front_habit) (by decide +kernel)) (fun _ _ _ _ _ => pg_name (i := 1) sc_front_habit.nd rfl (Or.inl rfl)) (fun _ _ _ _ _ => pts_nil)
        (fun _ _ _ _ _ => pc CF hr (pa_cons (pv 0) (pa_cons (pv 1) pa_nil))))))), ?_⟩
    refine ⟨_, rfl, n, rfl, n2, n5, _, rfl, n, rfl, by omega, by omega, fun D hD => ?_⟩
    rw [Int.toNat_natCast]
    refine lc_range (lo := 0) (n := n) (fun i H' => ∃ xs, Same H H' ∧ H' D = some (.lst xs) ∧ Each (TI K H') xs ((List.range i).map (frontP n))) ⟨[], same_new hD, upd_same, .nil⟩ (fun i H1 hi h' => ?_) (fun H1 h' => ?_)
    · obtain ⟨xs, sm, eD, hE⟩ := h'
      have hl := hE.len
      rw [List.length_map, List.length_range] at hl
      rw [Int.zero_add]
      refine ⟨rfl, _, rfl, _, rfl, n, i, rfl, hi, n5, fun r H2 s2 e2 => ⟨xs, s2 _ _ eD, small1000 (by omega), xs ++ [.ref r], ?_, upd_same, ?_⟩⟩
      · intro b o e
        rw [upd_ne (ne_of_none e hD)]
        exact s2 _ _ (sm b o e)
      · have f1 : Fix H2 (upd H2 D (.lst (xs ++ [.ref r]))) := Fix.lst (s2 _ _ eD)
        rw [List.range_succ, List.map_append]
        exact Each.snoc ⟨r, rfl, f1.tups _ _ (tupAt e2)⟩ (hE.imp fun _ _ z => (z.on (Same.tups s2)).on f1.tups)
    · obtain ⟨xs, sm, eD, hE⟩ := h'
      refine .inl ⟨D, xs, rfl, lstAt eD, fun t ht => q _ _ (sm.trans (same_new ht)) ⟨t, xs, rfl, tupAt upd_same, hE.imp fun _ _ z => z.on (Same.tups (same_new ht))⟩⟩
theorem ok_neigh_habit (F : Df K mg "neighbour_habit" st_neighbour_habit ["places"]) (B : Bu mg) (CP : Cal P w K mg base 4 "check_places" spCheckPlaces) (CF : Cal P w K mg base 1 "neighbour_permutation" (spPerm neighP)) : Cal P w K mg base 5 "neighbour_habit" (spHab K neighH) := by
  refine mkCal F sc_neighbour_habit (fun vs H Q E h => ?_) (fun f cdv A outer s H vs Q E hr h => ?_)
  · obtain ⟨n, rfl, _⟩ := h
    rfl
  · obtain ⟨n, rfl, n2, n5, q⟩ := h
    refine ⟨_, pss_cons (ps_expr (pc CP hr (pa_cons (pv 0) pa_nil)))
      (pss_one (ps_ret (pe_tupleOf (by rfl) B.tuple (pe_lc (own := [("place", 1)]) (g := gName 1) (tt := tYes) rfl sc_neighbour_habit.nd (pi_range1 (by rfl) B.range (pa_cons (pv 0) pa_nil))
        (blkOk_by (N := ["places", "place"]) (sc := defScope st_neighbour_habit) (by decide +kernel)) (fun _ _ _ _ _ => pg_name (i := 1) sc_neighbour_habit.nd rfl (Or.inl rfl)) (fun _ _ _ _ _ => pts_nil)
        (fun _ _ _ _ _ => pc CF hr (pa_cons (pv 0) (pa_cons (pv 1) pa_nil))))))), ?_⟩
    refine ⟨_, rfl, n, rfl, n2, n5, _, rfl, n, rfl, by omega, by omega, fun D hD => ?_⟩
    rw [Int.toNat_natCast]
    refine lc_range (lo := 0) (n := n) (fun i H' => ∃ xs, Same H H' ∧ H' D = some (.lst xs) ∧ Each (TI K H') xs ((List.range i).map (neighP n))) ⟨[], same_new hD, upd_same, .nil⟩ (fun i H1 hi h' => ?_) (fun H1 h' => ?_)
    · obtain ⟨xs, sm, eD, hE⟩ := h'
      have hl := hE.len
      rw [List.length_map, List.length_range] at hl
      rw [Int.zero_add]
      refine ⟨rfl, _, rfl, _, rfl, n, i, rfl, hi, n5, fun r H2 s2 e2 => ⟨xs, s2 _ _ eD, small1000 (by omega), xs ++ [.ref r], ?_, upd_same, ?_⟩⟩
      · intro b o e
        rw [upd_ne (ne_of_none e hD)]
        exact s2 _ _ (sm b o e)
      · have f1 : Fix H2 (upd H2 D (.lst (xs ++ [.ref r]))) := Fix.lst (s2 _ _ eD)
        rw [List.range_succ, List.map_append]
        exact Each.snoc ⟨r, rfl, f1.tups _ _ (tupAt e2)⟩ (hE.imp fun _ _ z => (z.on (Same.tups s2)).on f1.tups)
    · obtain ⟨xs, sm, eD, hE⟩ := h'
      refine .inl ⟨D, xs, rfl, lstAt eD, fun t ht => q _ _ (sm.trans (same_new ht)) ⟨t, xs, rfl, tupAt upd_same, hE.imp fun _ _ z => z.on (Same.tups (same_new ht))⟩⟩
theorem pe_tupleK {X : Cx} {a : Expr} {ta : TE} {p pos : Pos} (K : PySem.W.Frag) (hg : Gl X "tuple") (hm : X.mg "tuple" = none) (ha : PE X a ta) (h : X.K = K := by rfl) (na : starEach [a] X.env = (false, eval a X.env) :: starEach [] X.env := by rfl) : PE X (.Call (.Name "tuple" p) [a] [] pos) (tThen ta (kTup K)) := by
  subst h
  exact pe_tupleOf hg hm ha na
theorem range_more {f : Nat → Int} (i : Nat) : ((List.range (i + 1)).map f).map V.int = ((List.range i).map f).map V.int ++ [V.int (f i)] := by
  rw [List.range_succ, List.map_append, List.map_append]
  rfl
def scT1 : Scope := { kind := .function, names := [(".0", .local), ("place", .cell), ("tuple", .globalImplicit), ("range", .globalImplicit), ("places", .cell)], isGenerator := false, isCoroutine := false }
theorem ok_turn_habit (F : Df K mg "turning_habit" st_turning_habit ["places"]) (B : Bu mg) (CP : Cal P w K mg base 4 "check_places" spCheckPlaces) : Cal P w K mg base 5 "turning_habit" (spHab K turnH) := by
  refine mkCal F sc_turning_habit (fun vs H Q E h => ?_) (fun f cdv A outer s H vs Q E hr h => ?_)
  · obtain ⟨n, rfl, _⟩ := h
    rfl
  · obtain ⟨n, rfl, n2, n5, q⟩ := h
    refine ⟨_, pss_cons (ps_expr (pc CP hr (pa_cons (pv 0) pa_nil)))
      (pss_one (ps_ret (pe_tupleOf (by rfl) B.tuple (pe_lc (own := [("place", 1)]) (g := gName 1) (tt := tYes) rfl sc_turning_habit.nd (pi_range1 (by rfl) B.range (pa_cons (pv 0) pa_nil))
        (blkOk_by (N := ["places", "place", "stood"]) (sc := defScope st_turning_habit) (by decide +kernel)) (fun _ _ _ _ _ => pg_name (i := 1) sc_turning_habit.nd rfl (Or.inr rfl)) (fun _ _ _ _ _ => pts_nil)
        (fun _ _ _ _ _ => pe_tupleK K (by rfl) B.tuple (pe_lc (own := [("stood", 2)]) (g := gName 2) (tt := tYes) rfl sc_turning_habit.nd (pi_range1 (by rfl) B.range (pa_cons (pv 0) pa_nil))
          (blkOk_by (N := ["places", "place", "stood"]) (sc := scT1) (by decide +kernel)) (fun _ _ _ _ _ => pg_name (i := 2) sc_turning_habit.nd rfl (Or.inl rfl)) (fun _ _ _ _ _ => pts_nil)
          (fun _ _ _ _ _ => pe_op op_mod (pe_op op_add (pv 2) (pv 1)) (pv 0)))))))), ?_⟩
    refine ⟨_, rfl, n, rfl, n2, n5, _, rfl, n, rfl, by omega, by omega, fun D hD => ?_⟩
    rw [Int.toNat_natCast]
    refine lc_range (lo := 0) (n := n) (fun i H' => ∃ xs, Same H H' ∧ H' D = some (.lst xs) ∧ Each (TI K H') xs ((List.range i).map (turnP n))) ⟨[], same_new hD, upd_same, .nil⟩ (fun i H1 hi h' => ?_) (fun H1 h' => ?_)
    · obtain ⟨xs, sm, eD, hE⟩ := h'
      have hl := hE.len
      rw [List.length_map, List.length_range] at hl
      rw [Int.zero_add]
      refine ⟨rfl, _, rfl, n, rfl, by omega, by omega, fun D2 hD2 => ?_⟩
      rw [Int.toNat_natCast]
      refine lc_range (lo := 0) (n := n) (fun j H' => Same H1 H' ∧ H' D2 = some (.lst (((List.range j).map fun s : Nat => ((s : Int) + (i : Int)) % (n : Int)).map V.int))) ⟨same_new hD2, upd_same⟩ (fun j H' hj h' => ?_) (fun H' h' => ?_)
      · obtain ⟨sm2, eD2⟩ := h'
        refine ⟨rfl, _, rfl, _, rfl, _, _, rfl, rfl, _, rfl, _, n, rfl, rfl, by omega, _, eD2, ?_, ?_, ?_⟩
        · rw [List.length_map, List.length_map, List.length_range]
          exact small1000 (by omega)
        · intro b o e
          rw [upd_ne (ne_of_none e hD2)]
          exact sm2 b o e
        · rw [upd_same, range_more, Int.zero_add]
      · obtain ⟨sm2, eD2⟩ := h'
        refine .inl ⟨D2, _, rfl, lstAt eD2, fun t ht => ?_⟩
        have sT := sm2.trans (same_new (o := .tup ((turnP n i).map V.int)) ht)
        refine ⟨xs, sT _ _ eD, small1000 (by omega), xs ++ [.ref t], ?_, upd_same, ?_⟩
        · intro b o e
          rw [upd_ne (ne_of_none e hD)]
          exact sT _ _ (sm b o e)
        · have f1 : Fix (upd H' t (.tup ((turnP n i).map V.int))) (upd (upd H' t (.tup ((turnP n i).map V.int))) D (.lst (xs ++ [.ref t]))) := Fix.lst (sT _ _ eD)
          rw [List.range_succ, List.map_append]
          exact Each.snoc ⟨t, rfl, f1.tups _ _ (tupAt upd_same)⟩ (hE.imp fun _ _ z => (z.on (Same.tups sT)).on f1.tups)
    · obtain ⟨xs, sm, eD, hE⟩ := h'
      refine .inl ⟨D, xs, rfl, lstAt eD, fun t ht => q _ _ (sm.trans (same_new ht)) ⟨t, xs, rfl, tupAt upd_same, hE.imp fun _ _ z => z.on (Same.tups (same_new ht))⟩⟩
end
end RH
set_option Elab.async false
set_option linter.all false
set_option maxRecDepth 100000
set_option maxHeartbeats 2000000
namespace RH
open PySem PySem.Spec PyProof.Rows L2
open NdefX (NScope CellsAt Caps slotAt cells_of startF ncx)
/-! ### a touch as a function that is handed on -/
section
variable {P : Program} {w : World} {K : PySem.W.Frag} {mg : Str → Option Value} {base : Heap} {CX : CXT} {k : Nat} {f : Addr} {live live' : Hp → Prop} {sp sp' : Sp} {outer : List Env} {s : Shared} {H : Hp}
theorem Callable.imp (c : Callable P w K mg base CX k f live sp outer s H) (hl : ∀ H, live' H → live H) (hs : ∀ vs H Q E, live' H → sp' vs H Q E → sp vs H Q E) : Callable P w K mg base CX k f live' sp' outer s H :=
  ⟨fun X e1 e2 e3 e4 e5 e6 pins σ H' s' I l => c.at_ X e1 e2 e3 e4 e5 e6 pins σ H' s' I (hl _ l),
    fun X e1 e2 e3 e4 e5 e6 e7 e8 e9 hr pins σ H' s' us vs Q E I l r hx q => c.run X e1 e2 e3 e4 e5 e6 e7 e8 e9 hr pins σ H' s' us vs Q E I (hl _ l) r hx (hs _ _ _ _ l q)⟩
end
def retArg (st : Stmt) (i : Nat) : Expr := match defBody st with
  | [.Return (some (.Call _ as _ _)) _] => as.getD i (.Constant .none 0 ⟨0, 0, 0, 0⟩)
  | _ => .Constant .none 0 ⟨0, 0, 0, 0⟩
def lamP : Expr → Arguments
  | .Lambda p _ _ _ => p
  | _ => defArgs st_law
def lamB : Expr → Expr
  | .Lambda _ b _ _ => b
  | e => e
def lamS : Expr → Scope
  | .Lambda _ _ sc _ => sc
  | _ => defScope st_law
def lamO : Expr → Pos
  | .Lambda _ _ _ p => p
  | _ => ⟨0, 0, 0, 0⟩
abbrev lam1 : Expr := retArg st_layout_depths 2
abbrev lam2 : Expr := retArg st_word_to_layout 2
abbrev lam3 : Expr := retArg st_word_to_layout 3
theorem ns1 : NScope ["one", "place", "habit"] ["one", "place"] ["habit"] (lamS lam1) := NdefX.nscope_by (by decide +kernel)
theorem ns2 : NScope ["layout", "place", "habit"] ["layout", "place"] ["habit"] (lamS lam2) := NdefX.nscope_by (by decide +kernel)
theorem ns3 : NScope ["layout", "other"] ["layout"] ["other"] (lamS lam3) := NdefX.nscope_by (by decide +kernel)
section
variable {P : Program} {w : World} {K : PySem.W.Frag} {mg : Str → Option Value} {base : Heap}
/-- what a step promises -/
def spStep (h : List (List Int)) (n : Nat) : Sp := fun vs H Q _ => ∃ (a : Addr) (L : List Int) (p : Int), vs = [.ref a, .int p] ∧ KX H a L ∧ (∀ i ∈ L, InR n i) ∧ L.length ≤ 1000 ∧ InR n p ∧
  ∀ H' q, Same H H' → H q = none → FT H' q (stp h p L) → Q (.ref q) H'
def spLam1 (K : PySem.W.Frag) (h : List (List Int)) (n : Nat) : List (Option V) → Sp := fun ws vs H Q E => ∃ v, ws = [some v] ∧ TII K H v h ∧ Hb n h ∧ spStep h n vs H Q E
theorem lok1 (CM : Cal P w K mg base 1 "move" (spMove K)) (h : List (List Int)) (n : Nat) (q : Str) (cl : List (Str × Addr)) (c f : Addr) : LOk P w K mg base CX0 2 f ⟨q, lamP lam1, lamB lam1, lamS lam1, cl, c⟩ ["one", "place"] ["habit"] (spLam1 K h n) := by
  refine lok_of ns1 (fun pm ctv us hl => ?_) (fun ws vs H Q E hq => ?_) (fun A outer s H vs ws Q E hr _ hsp => ?_)
  · match us, hl with
    | [_, _], _ => rfl
  · obtain ⟨v, _, _, _, a, L, p, rfl, _⟩ := hq
    rfl
  · obtain ⟨v, rfl, hT, hb, a, L, p, rfl, ha, hin, hlen, hp, q⟩ := hsp
    refine ⟨_, pc CM hr (pa_cons (pv 2) (pa_cons (pv 0) (pa_cons (pv 1) pa_nil))), ?_⟩
    exact ⟨_, rfl, _, rfl, _, rfl, v, h, n, a, L, p, rfl, hT, hb, .inl ha, hin, hlen, hp, q⟩
theorem lok2 (CM : Cal P w K mg base 1 "move" (spMove K)) (h : List (List Int)) (n : Nat) (q : Str) (cl : List (Str × Addr)) (c f : Addr) : LOk P w K mg base CX0 2 f ⟨q, lamP lam2, lamB lam2, lamS lam2, cl, c⟩ ["layout", "place"] ["habit"] (spLam1 K h n) := by
  refine lok_of ns2 (fun pm ctv us hl => ?_) (fun ws vs H Q E hq => ?_) (fun A outer s H vs ws Q E hr _ hsp => ?_)
  · match us, hl with
    | [_, _], _ => rfl
  · obtain ⟨v, _, _, _, a, L, p, rfl, _⟩ := hq
    rfl
  · obtain ⟨v, rfl, hT, hb, a, L, p, rfl, ha, hin, hlen, hp, q⟩ := hsp
    refine ⟨_, pc CM hr (pa_cons (pv 2) (pa_cons (pv 0) (pa_cons (pv 1) pa_nil))), ?_⟩
    exact ⟨_, rfl, _, rfl, _, rfl, v, h, n, a, L, p, rfl, hT, hb, .inl ha, hin, hlen, hp, q⟩
/-- is it the goal? -/
def spGoal (g : List Int) : Sp := fun vs H Q _ => ∃ (a : Addr) (L : List Int), vs = [.ref a] ∧ KX H a L ∧ L.length ≤ 1000 ∧ Q (.bl (decide (L = g))) H
def spLam3 (g : List Int) : List (Option V) → Sp := fun ws vs H Q E => ∃ b, ws = [some (.ref b)] ∧ KX H b g ∧ g.length ≤ 1000 ∧ spGoal g vs H Q E
theorem shaped_tup (ns : List Int) : SeqAt.shaped (.tuple (ns.map PyData.int)) = true := by
  simp [SeqAt.shaped, PyData.canLay0, PyData.depth, PySem.W.ke_canLayAll0, PySem.W.ke_depthAll]
theorem eqv_tup (ns ms : List Int) : PyData.eqv (.tuple (ns.map PyData.int)) (.tuple (ms.map PyData.int)) = decide (ns = ms) := by
  rw [PyData.eqv]
  exact PySem.W.ked_eqvAll ns ms
theorem lok3 (g : List Int) (q : Str) (cl : List (Str × Addr)) (c f : Addr) : LOk P w K mg base CX0 1 f ⟨q, lamP lam3, lamB lam3, lamS lam3, cl, c⟩ ["layout"] ["other"] (spLam3 g) := by
  refine lok_of ns3 (fun pm ctv us hl => ?_) (fun ws vs H Q E hq => ?_) (fun A outer s H vs ws Q E hr _ hsp => ?_)
  · match us, hl with
    | [_], _ => rfl
  · obtain ⟨b, _, _, _, a, L, rfl, _⟩ := hq
    rfl
  · obtain ⟨b, rfl, hg, hgl, a, L, rfl, ha, hlen, q⟩ := hsp
    refine ⟨_, pe_cmpR (op_eqD hr.units) (pv 0) (pv 1) (nomark _), ?_⟩
    refine ⟨_, rfl, _, rfl, _, _, dp_tup (K := K) (ns := L) (.inl ha), dp_tup (K := K) (ns := g) (.inl hg), shaped_tup L, shaped_tup g, ?_⟩
    rw [eqv_tup]
    exact q
end
end RH
set_option Elab.async false
set_option linter.all false
set_option maxRecDepth 100000
set_option maxHeartbeats 2000000
namespace RH
open PySem PySem.Spec PyProof.Rows L2
/-! ### the search for depths -/
/-- a layout -/
def TX (H : Hp) (v : V) (s : List Int) : Prop := ∃ b, v = .ref b ∧ KX H b s
/-- tuples stay -/
def TK (H H' : Hp) : Prop := ∀ b xs, Rd H b (.tup xs) → Rd H' b (.tup xs)
theorem TK.refl (H : Hp) : TK H H := fun _ _ e => e
theorem TK.trans {H H1 H2 : Hp} (a : TK H H1) (b : TK H1 H2) : TK H H2 := fun c xs e => b c xs (a c xs e)
theorem TK.same {H H1 : Hp} (a : Same H H1) : TK H H1 := fun c xs e => by
  rcases e with e | ⟨o, e⟩
  · exact .inl (a c _ e)
  · exact .inr ⟨o, a c _ e⟩
/-- what holds no tuple -/
def NoT (o : HO) : Prop := (∀ xs, o ≠ .tup xs) ∧ ∀ ob u, o ≠ .frz ob u
theorem TK.upd {H : Hp} {p : Addr} {o o' : HO} (h : H p = some o) (n : NoT o) : TK H (upd H p o') := fun b xs e => by
  by_cases z : b = p
  · subst z
    rcases e with e | ⟨ob, e⟩
    · rw [h] at e
      exact absurd (Option.some.inj e) (n.1 xs)
    · rw [h] at e
      exact absurd (Option.some.inj e) (n.2 ob _)
  · rcases e with e | ⟨ob, e⟩
    · exact .inl (by rw [upd_ne z]; exact e)
    · exact .inr ⟨ob, by rw [upd_ne z]; exact e⟩
theorem TX.on {H H' : Hp} {v : V} {s : List Int} (e : TK H H') (h : TX H v s) : TX H' v s := let ⟨b, h1, h2⟩ := h; ⟨b, h1, e _ _ h2⟩
theorem KB.on {H H' : Hp} {as : List (List Int × V)} {bs : List Addr} (e : TK H H') (h : KB H as bs) : KB H' as bs := h.imp fun b s z => e b _ z
theorem Same.upd {H H' : Hp} {p : Addr} {o : HO} (a : Same H H') (h : H p = none) : Same H (upd H' p o) := fun b u e => by
  rw [upd_ne (ne_of_none e h)]
  exact a b u e
theorem not_tup_l {xs : List V} : NoT (.lst xs) := ⟨fun _ z => (nomatch z), fun _ _ z => (nomatch z)⟩
theorem not_tup_d {φ : Heap → Prop} : NoT (.ext φ) := ⟨fun _ z => (nomatch z), fun _ _ z => (nomatch z)⟩
/-- what a search is handed: the step, what keeps it alive, the habit -/
structure GD where
  f : Addr
  live : Hp → Prop
  h : List (List Int)
  n : Nat
section
variable {P : Program} {w : World} {K : PySem.W.Frag} {mg : Str → Option Value} {base : Heap}
def preD (P : Program) (w : World) (K : PySem.W.Frag) (mg : Str → Option Value) (base : Heap) (g : GD) : List Env → Shared → Hp → Prop := fun outer s H => Callable P w K mg base CX0 2 g.f g.live (spStep g.h g.n) outer s H
def spDepths (P : Program) (w : World) (K : PySem.W.Frag) (g : GD) : Sp := fun vs H Q _ => ∃ (a t : Addr) (L : List Int) (U : List (List Int)) (dep : List Int → Nat) (D : Nat), vs = [.ref a, .ref t, .ref g.f, .int 120] ∧ KX H a L ∧ SqT K H t ((rg g.n).map V.int) ∧
  (∀ H', Same H H' → g.live H') ∧ Grf g.n g.h L U dep D ∧ g.n ≤ 1000 ∧
  ∀ (H' : Hp) (d : Addr) (as : List (List Int × V)) (bs : List Addr), Same H H' → H' d = some (DE P w as bs d) → KB H' as bs → (as.map Prod.fst).Nodup → (∀ s, s ∈ as.map Prod.fst ↔ s ∈ U) → (∀ q ∈ as, q.2 = .int (dep q.1)) → Q (.ref d) H'
/-- what stands within a level -/
def MidH (P : Program) (w : World) (H : Hp) (n : Nat) (h U : List (List Int)) (dep : List Int → Nat) (R : Hp → List (List Int × V) → Prop) (k : Nat) (d l u : Addr) (xs : List V) (lv : List (List Int)) (i j : Nat) (H' : Hp) : Prop :=
  ∃ (as : List (List Int × V)) (ks : List Addr) (fur : List (List Int)) (us : List V), Same H H' ∧ H' d = some (DE P w as ks d) ∧ KB H' as ks ∧ R H' as ∧ H' l = some (.lst xs) ∧ Each (TX H') xs lv ∧ H' u = some (.lst us) ∧ Each (TX H') us fur ∧ Mid n h U dep k lv (as.map Prod.fst) fur i j
theorem ok_depths {f : Addr} {fd : FuncData} (F : Fun K "depths" "depths" st_depths f fd) (B : Bu mg) (g : GD) : FnC P w K mg base CX0 3 f fd ["start", "touches", "step", "most"] (preD P w K mg base g) (spDepths P w K g) := by
  refine fnC_of F sc_depths (fun vs H Q E h => ?_) (fun cdv A outer s H vs Q E hr hP h => ?_)
  · obtain ⟨a, t, L, U, dep, D, rfl, _⟩ := h
    rfl
  · obtain ⟨a, t, L, U, dep, D, rfl, ha, ht, hlive, G, n1, q⟩ := h
    refine ⟨_, pss_cons (ps_set (i := 4) sc_depths.nd rfl (.inl rfl) (pe_disp1E hr.units0 (pv 0) pe_int))
      (pss_cons (ps_set (i := 5) sc_depths.nd rfl (.inl rfl) (pe_lst (pa_cons (pv 0) pa_nil)))
      (pss_cons (ps_while PassesOwn.never (PW.pt (pw_and (pt_truth (pv 5) (by intro _; rfl)) (pw_and1 (pt_cmpR op_le (pe_callB call_lenE (by rfl) B.len PySem.boot_len (pa_cons (pv 4) pa_nil)) (pv 3) (nomark _)))))
        (pss_cons (ps_set (i := 6) sc_depths.nd rfl (.inl rfl) (pe_lst pa_nil))
        (pss_cons (ps_for PassesOwn.never rfl (pi_list (pv 5)) (pg_name (i := 7) sc_depths.nd rfl (Or.inl rfl))
          (pss_one (ps_for PassesOwn.never rfl (pi_tup (pv 1)) (pg_name (i := 8) sc_depths.nd rfl (Or.inl rfl))
            (pss_cons (ps_set (i := 9) sc_depths.nd rfl (.inl rfl) (pe_can hP rfl hr (by decide) pass0 (i := 2) rfl (Or.inl rfl) (pa_cons (pv 7) (pa_cons (pv 8) pa_nil))))
            (pss_one (ps_if (pt_cmp (pc_dnotinE (hu_of hr) (pv 9) (pv 4)))
              (pss_cons (ps_dputE (hu_of hr) (pv 4) (pv 9) (pe_op op_add (pe_dgetE (hu_of hr) (pv 4) (pv 7) (fun _ _ => rfl)) pe_int) rfl)
              (pss_one (ps_expr (pe_bm PySem.F.plainAttrs_list PySem.F.slot_list_append PySem.F.type_list_append mt_append (pv 6) (pa_cons (pv 9) pa_nil))))) pss_nil))))))
        (pss_one (ps_set (i := 5) sc_depths.nd rfl (.inl rfl) (pv 6))))))
      (pss_one (ps_ret (pv 4))))), ?_⟩
    intro d hd
    refine ⟨_, rfl, upd_same, a, L, rfl, TK.same (same_new hd) _ _ ha, ?_⟩
    have hd1 : Same H (upd (upd H d (DE P w [] [] d)) d (DE P w [(L, .int 0)] [a] d)) := Same.upd (same_new hd) hd
    refine ⟨_, rfl, by show 1 ≤ sizeLine; decide, fun l hl => ?_⟩
    refine ⟨fun m σ H' => ∃ (k : Nat) (as : List (List Int × V)) (ks : List Addr) (lv : List (List Int)) (xs : List V) (l : Addr), m = D + 1 - k ∧ (∃ y6 y7 y8 y9, σ = [some (.ref a), some (.ref t), some (.ref g.f), some (.int 120), some (.ref d), some (.ref l), y6, y7, y8, y9]) ∧
      Same H H' ∧ H' d = some (DE P w as ks d) ∧ KB H' as ks ∧ (∀ q ∈ as, q.2 = .int (dep q.1)) ∧ H' l = some (.lst xs) ∧ Each (TX H') xs lv ∧ Lev U dep k (as.map Prod.fst) lv, ⟨D + 1 - 0, 0, [(L, .int 0)], [a], [L], [.ref a], l, rfl, ⟨none, none, none, none, rfl⟩, ?_, ?_, ?_, ?_, ?_, ?_, ?_⟩, ?_⟩
    · exact hd1.trans (same_new hl)
    · exact same_new hl _ _ upd_same
    · exact .cons (TK.same (hd1.trans (same_new hl)) _ _ ha) .nil
    · intro q hq
      rw [List.mem_singleton.mp hq]
      show V.int 0 = V.int ((dep L : Nat) : Int)
      rw [G.d0]
      rfl
    · exact upd_same
    · exact .cons ⟨a, rfl, TK.same (hd1.trans (same_new hl)) _ _ ha⟩ .nil
    · exact Lev.start G
    rintro m σ H1 ⟨k, as, ks, lv, xs, l, rfl, ⟨y6, y7, y8, y9, rfl⟩, sm, eD, kb, hv, eL, hE, lev⟩
    have lx : xs.length = lv.length := hE.len
    refine ⟨_, rfl, !xs.isEmpty, .inl ⟨xs, lstAt eL, rfl⟩, ite2 (fun ex => ?_) (fun ex => ?_)⟩
    · have hne : lv ≠ [] := by
        rintro rfl
        rw [List.eq_nil_of_length_eq_zero lx] at ex
        cases ex
      have hk : k ≤ D := lev.low G hne
      have hlen : as.length ≤ 120 := by
        have := lev.most G
        rw [List.length_map] at this
        exact this
      refine ⟨_, rfl, d, as, ks, rfl, eD, kb, _, rfl, (as.length : Int), 120, rfl, rfl, _, rfl, ifT (decide_eq_true (by omega)) ?_⟩
      refine ⟨fun σ' H' => ∃ m', m' < D + 1 - k ∧ ∃ (k : Nat) (as : List (List Int × V)) (ks : List Addr) (lv : List (List Int)) (xs : List V) (l : Addr), m' = D + 1 - k ∧ (∃ y6 y7 y8 y9, σ' = [some (.ref a), some (.ref t), some (.ref g.f), some (.int 120), some (.ref d), some (.ref l), y6, y7, y8, y9]) ∧
        Same H H' ∧ H' d = some (DE P w as ks d) ∧ KB H' as ks ∧ (∀ q ∈ as, q.2 = .int (dep q.1)) ∧ H' l = some (.lst xs) ∧ Each (TX H') xs lv ∧ Lev U dep k (as.map Prod.fst) lv, fun _ _ h => h, ?_⟩
      refine ⟨Nat.zero_le _, fun u hu => ?_⟩
      have su := same_new (o := .lst []) hu
      have hlu : l ≠ u := ne_of_none eL hu
      have huH : H u = none := by
        cases e : H u with
        | none => rfl
        | some o =>
          rw [sm _ _ e] at hu
          cases hu
      refine ⟨_, rfl, l, rfl, ⟨_, lstAt (su _ _ eL)⟩, ?_⟩
      refine for_list (xs := xs) (fun i σ H' => MidH P w H g.n g.h U dep (fun _ as => ∀ q ∈ as, q.2 = .int (dep q.1)) k d l u xs lv i 0 H' ∧ ∃ y7 y8 y9, σ = [some (.ref a), some (.ref t), some (.ref g.f), some (.int 120), some (.ref d), some (.ref l), some (.ref u), y7, y8, y9])
        ⟨⟨as, ks, [], [], sm.trans su, su _ _ eD, kb.on (TK.same su), hv, su _ _ eL, hE.imp fun _ _ z => z.on (TK.same su), upd_same, .nil, lev.mid⟩, _, _, _, rfl⟩ (fun i σ H' _ h' => ?_) (fun i x σ H2 hx h' => ?_) (fun σ H2 h' => ?_)
      · obtain ⟨⟨_, _, _, _, _, _, _, _, e, _⟩, _⟩ := h'
        exact lstAt e
      · obtain ⟨hM, z7, z8, z9, rfl⟩ := h'
        obtain ⟨sg, hsg, hTx⟩ := hE.at hx
        obtain ⟨b, rfl, _⟩ := id hTx
        have hsl := (lev.lev sg).mp (List.mem_of_getElem? hsg)
        have hlay := G.lay sg hsl.1
        refine ⟨_, rfl, t, rfl, ⟨_, onT (hM.choose_spec.choose_spec.choose_spec.choose_spec.1) ht⟩, ?_⟩
        refine for_tup (xs := (rg g.n).map V.int) (fun j σ H' => MidH P w H g.n g.h U dep (fun _ as => ∀ q ∈ as, q.2 = .int (dep q.1)) k d l u xs lv i j H' ∧ ∃ y8 y9, σ = [some (.ref a), some (.ref t), some (.ref g.f), some (.int 120), some (.ref d), some (.ref l), some (.ref u), some (.ref b), y8, y9])
          ⟨hM, _, _, rfl⟩ (fun j σ H' _ h' => onT (h'.1.choose_spec.choose_spec.choose_spec.choose_spec.1) ht) (fun j x2 σ H3 hx2 h' => ?_) (fun σ H3 h' => ?_)
        · obtain ⟨⟨bs, ks, fur, us, sm3, eD3, kb3, hv3, eL3, hE3, eU3, hF3, mid⟩, w8, w9, rfl⟩ := h'
          obtain ⟨pj, hpj, rfl⟩ := map_at hx2
          have hj : j < g.n := by
            have := (List.getElem?_eq_some_iff.mp hpj).1
            rw [rg_len] at this
            exact this
          have epj : pj = (j : Int) := by
            rw [rg_at hj] at hpj
            exact (Option.some.inj hpj).symm
          subst epj
          obtain ⟨sg', hsg', b', eb', hb3⟩ := hE3.at hx
          cases eb'
          rw [hsg] at hsg'
          cases hsg'
          refine ⟨rfl, hlive _ sm3, _, rfl, _, rfl, hlive _ sm3, b, sg, (j : Int), rfl, hb3, hlay.2, by rw [hlay.1]; exact n1, ⟨by omega, by omega⟩, fun H4 qn s4 nq eq4 => ?_⟩
          have sm4 := sm3.trans s4
          have eD4 := s4 _ _ eD3
          have eU4 := s4 _ _ eU3
          have hqH : H qn = none := by
            cases e : H qn with
            | none => rfl
            | some o =>
              rw [sm3 _ _ e] at nq
              cases nq
          have blen : bs.length ≤ 120 := by
            have := mid.most G
            rw [List.length_map] at this
            exact this
          have ulen : us.length ≤ 120 := by
            have h1 := hF3.len
            have h2 := mid.fl
            rw [List.length_map] at h2
            omega
          have kb4 := kb3.on (TK.same s4)
          refine ⟨_, rfl, _, rfl, d, qn, bs, ks, stp g.h (j : Int) sg, rfl, rfl, eD4, kb4, eq4.kx, _, rfl, ?_⟩
          by_cases hm : stp g.h (j : Int) sg ∈ bs.map Prod.fst
          · exact ifF (by rw [decide_eq_true hm]; rfl) ⟨⟨bs, ks, fur, us, sm4, eD4, kb4, hv3, s4 _ _ eL3, hE3.imp fun _ _ z => z.on (TK.same s4), eU4, hF3.imp fun _ _ z => z.on (TK.same s4), mid.old1 hsg hm⟩, _, _, rfl⟩
          · obtain ⟨en, mid2⟩ := mid.new1 G hsg hsl.1 hsl.2 hj hm
            refine ifT (by rw [decide_eq_false hm]; rfl) ?_
            have hold : sg ∈ bs.map Prod.fst := mid.old sg hsl.1 (by omega)
            refine ⟨_, rfl, _, rfl, d, b, bs, ks, sg, rfl, rfl, eD4, kb4, TK.same s4 _ _ hb3, hold, fun v hvm => ?_⟩
            have evk : v = .int (k : Nat) := by
              have := hv3 _ hvm
              rw [show v = V.int ((dep sg : Nat) : Int) from this, hsl.2]
            subst evk
            refine ⟨(k : Nat), 1, rfl, rfl, _, rfl, _, rfl, d, qn, bs, ks, stp g.h (j : Int) sg, rfl, rfl, eD4, kb4, eq4.kx, hm, small1000 (by omega), ?_⟩
            have tk5 : TK H4 (upd H4 d (DE P w (bs ++ [(stp g.h (j : Int) sg, V.int ((k : Nat) + 1 : Int))]) (ks ++ [qn]) d)) := TK.upd eD4 not_tup_d
            have eU5 : (upd H4 d (DE P w (bs ++ [(stp g.h (j : Int) sg, V.int ((k : Nat) + 1 : Int))]) (ks ++ [qn]) d)) u = some (.lst us) := by
              rw [upd_ne (ne_of eU4 eD4 (fun z => nomatch z))]
              exact eU4
            have eL5 : (upd H4 d (DE P w (bs ++ [(stp g.h (j : Int) sg, V.int ((k : Nat) + 1 : Int))]) (ks ++ [qn]) d)) l = some (.lst xs) := by
              rw [upd_ne (ne_of (s4 _ _ eL3) eD4 (fun z => nomatch z))]
              exact s4 _ _ eL3
            have sm5 : Same H (upd H4 d (DE P w (bs ++ [(stp g.h (j : Int) sg, V.int ((k : Nat) + 1 : Int))]) (ks ++ [qn]) d)) := Same.upd sm4 hd
            have eD5 : (upd H4 d (DE P w (bs ++ [(stp g.h (j : Int) sg, V.int ((k : Nat) + 1 : Int))]) (ks ++ [qn]) d)) d = some (DE P w (bs ++ [(stp g.h (j : Int) sg, V.int ((k : Nat) + 1 : Int))]) (ks ++ [qn]) d) := upd_same
            have kb5 : KB (upd H4 d (DE P w (bs ++ [(stp g.h (j : Int) sg, V.int ((k : Nat) + 1 : Int))]) (ks ++ [qn]) d)) (bs ++ [(stp g.h (j : Int) sg, V.int ((k : Nat) + 1 : Int))]) (ks ++ [qn]) := (kb4.on tk5).snoc (q := (stp g.h (j : Int) sg, V.int ((k : Nat) + 1 : Int))) (b := qn) (tk5 _ _ eq4.kx)
            have hq5 := tk5 _ _ eq4.kx
            refine ⟨_, rfl, .inl ⟨rfl, _, lstAt eU5⟩, _, rfl, u, us, .ref qn, rfl, rfl, eU5, small1000 (by omega), ?_⟩
            have tk6 : TK (upd H4 d (DE P w (bs ++ [(stp g.h (j : Int) sg, V.int ((k : Nat) + 1 : Int))]) (ks ++ [qn]) d)) (upd (upd H4 d (DE P w (bs ++ [(stp g.h (j : Int) sg, V.int ((k : Nat) + 1 : Int))]) (ks ++ [qn]) d)) u (.lst (us ++ [.ref qn]))) := TK.upd eU5 not_tup_l
            have tk46 := (TK.same s4).trans (tk5.trans tk6)
            refine ⟨⟨bs ++ [(stp g.h (j : Int) sg, V.int ((k : Nat) + 1 : Int))], ks ++ [qn], fur ++ [stp g.h (j : Int) sg], us ++ [.ref qn], Same.upd sm5 huH, ?_, kb5.on tk6, fun q hq => ?_, ?_, hE3.imp fun _ _ z => z.on tk46, upd_same, Each.snoc ⟨qn, rfl, tk6 _ _ hq5⟩ (hF3.imp fun _ _ z => z.on tk46), ?_⟩, _, _, rfl⟩
            · rw [upd_ne (ne_of eD5 eU5 (fun z => nomatch z))]
              exact eD5
            · rcases List.mem_append.mp hq with z | z
              · exact hv3 q z
              · rw [List.mem_singleton.mp z]
                show V.int ((k : Nat) + 1 : Int) = V.int ((dep (stp g.h (j : Int) sg) : Nat) : Int)
                rw [en]
                rfl
            · rw [upd_ne hlu]
              exact eL5
            · rw [List.map_append]
              exact mid2
        · obtain ⟨⟨bs, ks, fur, us, sm3, eD3, kb3, hv3, eL3, hE3, eU3, hF3, mid⟩, w8, w9, rfl⟩ := h'
          rw [List.length_map, rg_len] at mid
          exact ⟨⟨bs, ks, fur, us, sm3, eD3, kb3, hv3, eL3, hE3, eU3, hF3, mid.row⟩, _, _, _, rfl⟩
      · obtain ⟨⟨bs, ks, fur, us, sm3, eD3, kb3, hv3, eL3, hE3, eU3, hF3, mid⟩, w7, w8, w9, rfl⟩ := h'
        rw [lx] at mid
        exact ⟨_, rfl, D + 1 - (k + 1), by omega, k + 1, bs, ks, fur, us, u, rfl, ⟨_, _, _, _, rfl⟩, sm3, eD3, kb3, hv3, eU3, hF3, mid.fin G lev.lev⟩
    · have hnil : lv = [] := by
        cases xs with
        | nil => exact List.eq_nil_of_length_eq_zero lx.symm
        | cons x r => exact absurd rfl ex
      subst hnil
      refine ifF rfl ⟨_, rfl, q H1 d as ks sm eD kb lev.nd (lev.done G) hv⟩
end
end RH
set_option Elab.async false
set_option linter.all false
set_option maxRecDepth 100000
set_option maxHeartbeats 2000000
namespace RH
open PySem PySem.Spec PyProof.Rows L2
/-! ### the way back, the least word -/
/-- from where each state was come to -/
def CR (L : List Int) (dep : List Int → Nat) (H : Hp) (as : List (List Int × V)) : Prop := ∀ q ∈ as, (q.1 = L ∧ q.2 = .non) ∨
  ∃ (t b : Addr) (p : Int) (s' : List Int), q.2 = .ref t ∧ Rd H t (.tup [.ref b, .int p]) ∧ KX H b s' ∧ s' ∈ as.map Prod.fst ∧ dep q.1 = dep s' + 1
theorem CR.on {L : List Int} {dep : List Int → Nat} {H H' : Hp} {as : List (List Int × V)} (e : TK H H') (c : CR L dep H as) : CR L dep H' as := fun q hq => by
  rcases c q hq with z | ⟨t, b, p, s', h1, h2, h3, h4⟩
  · exact .inl z
  · exact .inr ⟨t, b, p, s', h1, e _ _ h2, e _ _ h3, h4⟩
theorem CR.snoc {L : List Int} {dep : List Int → Nat} {H : Hp} {as : List (List Int × V)} {s s' : List Int} {t b : Addr} {p : Int} (c : CR L dep H as) (h2 : Rd H t (.tup [.ref b, .int p])) (h3 : KX H b s') (h4 : s' ∈ as.map Prod.fst) (h5 : dep s = dep s' + 1) : CR L dep H (as ++ [(s, .ref t)]) := fun q hq => by
  have more : ∀ {x : List Int}, x ∈ as.map Prod.fst → x ∈ (as ++ [(s, V.ref t)]).map Prod.fst := fun h => by
    rw [List.map_append]
    exact List.mem_append_left _ h
  rcases List.mem_append.mp hq with hq | hq
  · rcases c q hq with z | ⟨t, b, p, s', h1, h2, h3, h4, h5⟩
    · exact .inl z
    · exact .inr ⟨t, b, p, s', h1, h2, h3, more h4, h5⟩
  · rw [List.mem_singleton.mp hq]
    exact .inr ⟨t, b, p, s', rfl, h2, h3, more h4, h5⟩
theorem fns : ∀ {as : List (List Int × V)} {s : List Int} {v w : V}, (as.map Prod.fst).Nodup → (s, v) ∈ as → (s, w) ∈ as → v = w
  | q :: as, s, v, w, nd, h1, h2 => by
    rw [List.map_cons, List.nodup_cons] at nd
    rcases List.mem_cons.mp h1 with e1 | h1
    · rcases List.mem_cons.mp h2 with e2 | h2
      · exact (Prod.mk.inj (e1.trans e2.symm)).2
      · rw [← e1] at nd
        exact absurd (List.mem_map.mpr ⟨_, h2, rfl⟩) nd.1
    · rcases List.mem_cons.mp h2 with e2 | h2
      · rw [← e2] at nd
        exact absurd (List.mem_map.mpr ⟨_, h1, rfl⟩) nd.1
      · exact fns nd.2 h1 h2
theorem ref_non (t : Addr) : decide (V.ref t = V.non) = false := decide_eq_false fun z => nomatch z
section
variable {P : Program} {w : World} {K : PySem.W.Frag} {mg : Str → Option Value} {base : Heap}
def spTraced (P : Program) (w : World) : Sp := fun vs H Q _ => ∃ (c b : Addr) (as : List (List Int × V)) (ks : List Addr) (s L : List Int) (dep : List Int → Nat), vs = [.ref c, .ref b] ∧ H c = some (DE P w as ks c) ∧ KB H as ks ∧ KX H b s ∧ s ∈ as.map Prod.fst ∧ (as.map Prod.fst).Nodup ∧ CR L dep H as ∧ dep L = 0 ∧ dep s ≤ 1000 ∧
  ∀ (H' : Hp) (q : Addr) (xs : List V), Same H H' → H' q = some (.tup xs) → xs.length = dep s → Q (.ref q) H'
theorem ok_traced (F : Df K mg "traced" st_traced ["came", "state"]) (B : Bu mg) : Cal P w K mg base 1 "traced" (spTraced P w) := by
  refine mkCal F sc_traced (fun vs H Q E h => ?_) (fun f cdv A outer s H vs Q E hr h => ?_)
  · obtain ⟨c, b, as, ks, s, L, dep, rfl, _⟩ := h
    rfl
  · obtain ⟨c, b, as, ks, s, L, dep, rfl, hc, hkb, hb, hs, hnd, hR, h0, hd, q⟩ := h
    refine ⟨_, pss_cons (ps_set (i := 2) sc_traced.nd rfl (.inl rfl) (pe_lst pa_nil))
      (pss_cons (ps_while PassesOwn.never (pt_cmp (pc_notN (pe_dgetE (hu_of hr) (pv 0) (pv 1) (fun _ _ => rfl))))
        (pss_cons (ps_asg (pe_dgetE (hu_of hr) (pv 0) (pv 1) (fun _ _ => rfl)) (pg_tup rfl (pgs_cons (pg_name (i := 1) sc_traced.nd rfl (Or.inl rfl)) (pgs_cons (pg_name (i := 3) sc_traced.nd rfl (Or.inl rfl)) pgs_nil))))
        (pss_one (ps_expr (pe_bm PySem.F.plainAttrs_list PySem.F.slot_list_append PySem.F.type_list_append mt_append (pv 2) (pa_cons (pv 3) pa_nil))))))
      (pss_cons (ps_expr (pe_bm0 PySem.F.plainAttrs_list PySem.F.slot_list_reverse PySem.F.type_list_reverse mt_reverse (pv 2)))
      (pss_one (ps_ret (pe_tupleOf (by rfl) B.tuple (pv 2)))))), ?_⟩
    refine ⟨Nat.zero_le _, fun l hl => ?_⟩
    refine ⟨fun m σ H' => ∃ (b' : Addr) (s' : List Int) (ws : List V), m = dep s' ∧ (∃ y, σ = [some (.ref c), some (.ref b'), some (.ref l), y]) ∧ Same H H' ∧ KX H' b' s' ∧ s' ∈ as.map Prod.fst ∧ H' l = some (.lst ws) ∧ ws.length + dep s' = dep s,
      ⟨dep s, b, s, [], rfl, ⟨none, rfl⟩, same_new hl, TK.same (same_new hl) _ _ hb, hs, upd_same, Nat.zero_add _⟩, ?_⟩
    rintro m σ H1 ⟨b', s', ws, rfl, ⟨y, rfl⟩, sm, eb, hs', eL, hlen⟩
    have hkb1 := hkb.on (TK.same sm)
    refine ⟨_, rfl, _, rfl, c, b', as, ks, s', rfl, rfl, sm _ _ hc, hkb1, eb, hs', fun v hvm => ⟨_, rfl, ?_⟩⟩
    rcases hR _ hvm with ⟨e1, e2⟩ | ⟨t, b2, p, s2, e1, h2, h3, h4, h5⟩
    · have e2 : v = .non := e2
      have e3 : s' = L := e1
      subst e2
      refine ifF rfl ⟨_, rfl, .inl ⟨rfl, _, lstAt eL⟩, l, ws, rfl, rfl, eL, ?_⟩
      have el : (upd H1 l (.lst ws.reverse)) l = some (.lst ws.reverse) := upd_same
      refine ⟨_, rfl, .inl ⟨l, _, rfl, lstAt el, fun r hr2 => q _ r _ ?_ upd_same ?_⟩⟩
      · exact (Same.upd sm hl).trans (same_new hr2)
      · rw [List.length_reverse]
        rw [e3, h0] at hlen
        omega
    · have e1 : v = .ref t := e1
      subst e1
      refine ifT (by rw [ref_non]; rfl) ⟨fun σ' H' => ∃ m', m' < dep s' ∧ ∃ (b' : Addr) (s' : List Int) (ws : List V), m' = dep s' ∧ (∃ y, σ' = [some (.ref c), some (.ref b'), some (.ref l), y]) ∧ Same H H' ∧ KX H' b' s' ∧ s' ∈ as.map Prod.fst ∧ H' l = some (.lst ws) ∧ ws.length + dep s' = dep s, fun _ _ h => h, ?_⟩
      have h5 : dep s' = dep s2 + 1 := h5
      refine ⟨_, rfl, _, rfl, c, b', as, ks, s', rfl, rfl, sm _ _ hc, hkb1, eb, hs', fun v2 hvm2 => ?_⟩
      have ev2 : v2 = .ref t := fns hnd hvm2 hvm
      subst ev2
      refine ⟨t, _, rfl, .inl (TK.same sm _ _ h2), rfl, _, _, rfl, _, _, rfl, rfl, ?_⟩
      refine ⟨_, rfl, .inl ⟨rfl, _, lstAt eL⟩, _, rfl, l, ws, .int p, rfl, rfl, eL, small1000 (by omega), ?_⟩
      refine ⟨dep s2, by omega, b2, s2, ws ++ [.int p], rfl, ⟨_, rfl⟩, Same.upd sm hl, ?_, h4, upd_same, ?_⟩
      · exact TK.upd eL not_tup_l _ _ (TK.same sm _ _ h3)
      · rw [List.length_append]
        show ws.length + 1 + dep s2 = dep s
        omega
end
/-- what the search for a goal is handed -/
structure GL extends GD where
  f2 : Addr
  live2 : Hp → Prop
  goal : List Int
section
variable {P : Program} {w : World} {K : PySem.W.Frag} {mg : Str → Option Value} {base : Heap}
def preL (P : Program) (w : World) (K : PySem.W.Frag) (mg : Str → Option Value) (base : Heap) (g : GL) : List Env → Shared → Hp → Prop := fun outer s H =>
  Callable P w K mg base CX0 2 g.f g.live (spStep g.h g.n) outer s H ∧ Callable P w K mg base CX0 1 g.f2 g.live2 (spGoal g.goal) outer s H
def spLeast (K : PySem.W.Frag) (g : GL) : Sp := fun vs H Q _ => ∃ (a t : Addr) (L : List Int) (U : List (List Int)) (dep : List Int → Nat) (D : Nat), vs = [.ref a, .ref t, .ref g.f, .ref g.f2] ∧ KX H a L ∧ SqT K H t ((rg g.n).map V.int) ∧
  (∀ H', Same H H' → g.live H') ∧ (∀ H', Same H H' → g.live2 H') ∧ Grf g.n g.h L U dep D ∧ g.n ≤ 1000 ∧ D ≤ 1000 ∧ g.goal ∈ U ∧
  ∀ (H' : Hp) (q : Addr) (xs : List V), Same H H' → H' q = some (.tup xs) → xs.length = dep g.goal → Q (.ref q) H'
theorem ok_least {f : Addr} {fd : FuncData} (F : Fun K "least_word" "least_word" st_least_word f fd) (B : Bu mg) (CT : Cal P w K mg base 1 "traced" (spTraced P w)) (g : GL) : FnC P w K mg base CX0 3 f fd ["start", "touches", "step", "is_goal"] (preL P w K mg base g) (spLeast K g) := by
  refine fnC_of F sc_least_word (fun vs H Q E h => ?_) (fun cdv A outer s H vs Q E hr hP h => ?_)
  · obtain ⟨a, t, L, U, dep, D, rfl, _⟩ := h
    rfl
  · obtain ⟨a, t, L, U, dep, D, rfl, ha, ht, hlive, hlive2, G, n1, d1, hgU, q⟩ := h
    obtain ⟨hP1, hP2⟩ := hP
    refine ⟨_, pss_cons (ps_if (pt_val (pe_can hP2 rfl hr (by decide) pass0 (i := 3) rfl (Or.inl rfl) (pa_cons (pv 0) pa_nil))) (pss_one (ps_ret (pe_tup pa_nil))) pss_nil)
      (pss_cons (ps_set (i := 4) sc_least_word.nd rfl (.inl rfl) (pe_disp1E hr.units0 (pv 0) pe_non))
      (pss_cons (ps_set (i := 5) sc_least_word.nd rfl (.inl rfl) (pe_lst (pa_cons (pv 0) pa_nil)))
      (pss_cons (ps_while PassesOwn.never (pt_truth (pv 5) (by intro _; rfl))
        (pss_cons (ps_set (i := 6) sc_least_word.nd rfl (.inl rfl) (pe_lst pa_nil))
        (pss_cons (ps_for PassesOwn.never rfl (pi_list (pv 5)) (pg_name (i := 7) sc_least_word.nd rfl (Or.inl rfl))
          (pss_one (ps_for PassesOwn.never rfl (pi_tup (pv 1)) (pg_name (i := 8) sc_least_word.nd rfl (Or.inl rfl))
            (pss_cons (ps_set (i := 9) sc_least_word.nd rfl (.inl rfl) (pe_can hP1 rfl hr (by decide) pass0 (i := 2) rfl (Or.inl rfl) (pa_cons (pv 7) (pa_cons (pv 8) pa_nil))))
            (pss_one (ps_if (pt_cmp (pc_dnotinE (hu_of hr) (pv 9) (pv 4)))
              (pss_cons (ps_dputE (hu_of hr) (pv 4) (pv 9) (pe_tup (pa_cons (pv 7) (pa_cons (pv 8) pa_nil))) rfl)
              (pss_cons (ps_if (pt_val (pe_can hP2 rfl hr (by decide) pass0 (i := 3) rfl (Or.inl rfl) (pa_cons (pv 9) pa_nil))) (pss_one (ps_ret (pc CT hr (pa_cons (pv 4) (pa_cons (pv 9) pa_nil))))) pss_nil)
              (pss_one (ps_expr (pe_bm PySem.F.plainAttrs_list PySem.F.slot_list_append PySem.F.type_list_append mt_append (pv 6) (pa_cons (pv 9) pa_nil)))))) pss_nil))))))
        (pss_one (ps_set (i := 5) sc_least_word.nd rfl (.inl rfl) (pv 6))))))
      (pss_one (ps_ret pe_non))))), ?_⟩
    have hL := G.lay L G.L0
    refine ⟨rfl, hlive2 _ (Same.refl H), _, rfl, hlive2 _ (Same.refl H), a, L, rfl, ha, by rw [hL.1]; exact n1, _, rfl, ite2 (fun eg => ?_) (fun eg => ?_)⟩
    · have eg : L = g.goal := of_decide_eq_true eg
      refine ⟨Nat.zero_le _, fun r hr2 => q _ r [] (same_new hr2) upd_same ?_⟩
      rw [← eg, G.d0]
      rfl
    have eg : L ≠ g.goal := fun z => eg (decide_eq_true z)
    intro d hd
    refine ⟨_, rfl, upd_same, a, L, rfl, TK.same (same_new hd) _ _ ha, ?_⟩
    have hd1 : Same H (upd (upd H d (DE P w [] [] d)) d (DE P w [(L, .non)] [a] d)) := Same.upd (same_new hd) hd
    refine ⟨_, rfl, by show 1 ≤ sizeLine; decide, fun l hl => ?_⟩
    refine ⟨fun m σ H' => ∃ (k : Nat) (as : List (List Int × V)) (ks : List Addr) (lv : List (List Int)) (xs : List V) (l : Addr), m = D + 1 - k ∧ (∃ y6 y7 y8 y9, σ = [some (.ref a), some (.ref t), some (.ref g.f), some (.ref g.f2), some (.ref d), some (.ref l), y6, y7, y8, y9]) ∧
      Same H H' ∧ H' d = some (DE P w as ks d) ∧ KB H' as ks ∧ (CR L dep H' as ∧ g.goal ∉ as.map Prod.fst) ∧ H' l = some (.lst xs) ∧ Each (TX H') xs lv ∧ Lev U dep k (as.map Prod.fst) lv, ⟨D + 1 - 0, 0, [(L, .non)], [a], [L], [.ref a], l, rfl, ⟨none, none, none, none, rfl⟩, ?_, ?_, ?_, ?_, ?_, ?_, ?_⟩, ?_⟩
    · exact hd1.trans (same_new hl)
    · exact same_new hl _ _ upd_same
    · exact .cons (TK.same (hd1.trans (same_new hl)) _ _ ha) .nil
    · refine ⟨fun q hq => .inl ?_, fun z => eg (List.mem_singleton.mp z).symm⟩
      rw [List.mem_singleton.mp hq]
      exact ⟨rfl, rfl⟩
    · exact upd_same
    · exact .cons ⟨a, rfl, TK.same (hd1.trans (same_new hl)) _ _ ha⟩ .nil
    · exact Lev.start G
    rintro m σ H1 ⟨k, as, ks, lv, xs, l, rfl, ⟨y6, y7, y8, y9, rfl⟩, sm, eD, kb, hv, eL, hE, lev⟩
    have lx : xs.length = lv.length := hE.len
    refine ⟨_, rfl, !xs.isEmpty, .inl ⟨xs, lstAt eL, rfl⟩, ite2 (fun ex => ?_) (fun ex => ?_)⟩
    · have hne : lv ≠ [] := by
        rintro rfl
        rw [List.eq_nil_of_length_eq_zero lx] at ex
        cases ex
      have hk : k ≤ D := lev.low G hne
      refine ⟨fun σ' H' => ∃ m', m' < D + 1 - k ∧ ∃ (k : Nat) (as : List (List Int × V)) (ks : List Addr) (lv : List (List Int)) (xs : List V) (l : Addr), m' = D + 1 - k ∧ (∃ y6 y7 y8 y9, σ' = [some (.ref a), some (.ref t), some (.ref g.f), some (.ref g.f2), some (.ref d), some (.ref l), y6, y7, y8, y9]) ∧
        Same H H' ∧ H' d = some (DE P w as ks d) ∧ KB H' as ks ∧ (CR L dep H' as ∧ g.goal ∉ as.map Prod.fst) ∧ H' l = some (.lst xs) ∧ Each (TX H') xs lv ∧ Lev U dep k (as.map Prod.fst) lv, fun _ _ h => h, ?_⟩
      refine ⟨Nat.zero_le _, fun u hu => ?_⟩
      have su := same_new (o := .lst []) hu
      have hlu : l ≠ u := ne_of_none eL hu
      have huH : H u = none := by
        cases e : H u with
        | none => rfl
        | some o =>
          rw [sm _ _ e] at hu
          cases hu
      refine ⟨_, rfl, l, rfl, ⟨_, lstAt (su _ _ eL)⟩, ?_⟩
      refine for_list (xs := xs) (fun i σ H' => MidH P w H g.n g.h U dep (fun H' as => CR L dep H' as ∧ g.goal ∉ as.map Prod.fst) k d l u xs lv i 0 H' ∧ ∃ y7 y8 y9, σ = [some (.ref a), some (.ref t), some (.ref g.f), some (.ref g.f2), some (.ref d), some (.ref l), some (.ref u), y7, y8, y9])
        ⟨⟨as, ks, [], [], sm.trans su, su _ _ eD, kb.on (TK.same su), ⟨hv.1.on (TK.same su), hv.2⟩, su _ _ eL, hE.imp fun _ _ z => z.on (TK.same su), upd_same, .nil, lev.mid⟩, _, _, _, rfl⟩ (fun i σ H' _ h' => ?_) (fun i x σ H2 hx h' => ?_) (fun σ H2 h' => ?_)
      · obtain ⟨⟨_, _, _, _, _, _, _, _, e, _⟩, _⟩ := h'
        exact lstAt e
      · obtain ⟨hM, z7, z8, z9, rfl⟩ := h'
        obtain ⟨sg, hsg, hTx⟩ := hE.at hx
        obtain ⟨b, rfl, _⟩ := id hTx
        have hsl := (lev.lev sg).mp (List.mem_of_getElem? hsg)
        have hlay := G.lay sg hsl.1
        refine ⟨_, rfl, t, rfl, ⟨_, onT (hM.choose_spec.choose_spec.choose_spec.choose_spec.1) ht⟩, ?_⟩
        refine for_tup (xs := (rg g.n).map V.int) (fun j σ H' => MidH P w H g.n g.h U dep (fun H' as => CR L dep H' as ∧ g.goal ∉ as.map Prod.fst) k d l u xs lv i j H' ∧ ∃ y8 y9, σ = [some (.ref a), some (.ref t), some (.ref g.f), some (.ref g.f2), some (.ref d), some (.ref l), some (.ref u), some (.ref b), y8, y9])
          ⟨hM, _, _, rfl⟩ (fun j σ H' _ h' => onT (h'.1.choose_spec.choose_spec.choose_spec.choose_spec.1) ht) (fun j x2 σ H3 hx2 h' => ?_) (fun σ H3 h' => ?_)
        · obtain ⟨⟨bs, ks, fur, us, sm3, eD3, kb3, hv3, eL3, hE3, eU3, hF3, mid⟩, w8, w9, rfl⟩ := h'
          obtain ⟨pj, hpj, rfl⟩ := map_at hx2
          have hj : j < g.n := by
            have := (List.getElem?_eq_some_iff.mp hpj).1
            rw [rg_len] at this
            exact this
          have epj : pj = (j : Int) := by
            rw [rg_at hj] at hpj
            exact (Option.some.inj hpj).symm
          subst epj
          obtain ⟨sg', hsg', b', eb', hb3⟩ := hE3.at hx
          cases eb'
          rw [hsg] at hsg'
          cases hsg'
          refine ⟨rfl, hlive _ sm3, _, rfl, _, rfl, hlive _ sm3, b, sg, (j : Int), rfl, hb3, hlay.2, by rw [hlay.1]; exact n1, ⟨by omega, by omega⟩, fun H4 qn s4 nq eq4 => ?_⟩
          have sm4 := sm3.trans s4
          have eD4 := s4 _ _ eD3
          have eU4 := s4 _ _ eU3
          have blen : bs.length ≤ 120 := by
            have := mid.most G
            rw [List.length_map] at this
            exact this
          have ulen : us.length ≤ 120 := by
            have h1 := hF3.len
            have h2 := mid.fl
            rw [List.length_map] at h2
            omega
          have hv4 : CR L dep H4 bs := hv3.1.on (TK.same s4)
          have kb4 := kb3.on (TK.same s4)
          refine ⟨_, rfl, _, rfl, d, qn, bs, ks, stp g.h (j : Int) sg, rfl, rfl, eD4, kb4, eq4.kx, _, rfl, ?_⟩
          by_cases hm : stp g.h (j : Int) sg ∈ bs.map Prod.fst
          · exact ifF (by rw [decide_eq_true hm]; rfl) ⟨⟨bs, ks, fur, us, sm4, eD4, kb4, ⟨hv4, hv3.2⟩, s4 _ _ eL3, hE3.imp fun _ _ z => z.on (TK.same s4), eU4, hF3.imp fun _ _ z => z.on (TK.same s4), mid.old1 hsg hm⟩, _, _, rfl⟩
          · obtain ⟨en, mid2⟩ := mid.new1 G hsg hsl.1 hsl.2 hj hm
            refine ifT (by rw [decide_eq_false hm]; rfl) ?_
            have hold : sg ∈ bs.map Prod.fst := mid.old sg hsl.1 (by omega)
            refine ⟨_, rfl, _, rfl, by show 2 ≤ sizeLine; decide, fun T hT => ?_⟩
            have sT := same_new (o := .tup [.ref b, .int (j : Int)]) hT
            have eT : Rd (upd H4 T (.tup [.ref b, .int (j : Int)])) T (.tup [.ref b, .int (j : Int)]) := .inl upd_same
            have smT := sm4.trans sT
            have eDT := sT _ _ eD4
            have eUT := sT _ _ eU4
            have eLT := sT _ _ (s4 _ _ eL3)
            have eqT := TK.same sT _ _ eq4.kx
            have kbT := kb4.on (TK.same sT)
            have tk4T := TK.same (s4.trans sT)
            have hbT := tk4T _ _ hb3
            have hvT : CR L dep (upd H4 T (.tup [.ref b, .int (j : Int)])) bs := hv4.on (TK.same sT)
            generalize (upd H4 T (.tup [.ref b, .int (j : Int)])) = HT at *
            refine ⟨_, rfl, _, rfl, d, qn, bs, ks, stp g.h (j : Int) sg, rfl, rfl, eDT, kbT, eqT, hm, small1000 (by omega), ?_⟩
            have hv5 : CR L dep HT (bs ++ [(stp g.h (j : Int) sg, V.ref T)]) := hvT.snoc eT hbT hold (by rw [en, hsl.2])
            have tk5 : TK HT (upd HT d (DE P w (bs ++ [(stp g.h (j : Int) sg, V.ref T)]) (ks ++ [qn]) d)) := TK.upd eDT not_tup_d
            have eU5 : (upd HT d (DE P w (bs ++ [(stp g.h (j : Int) sg, V.ref T)]) (ks ++ [qn]) d)) u = some (.lst us) := by
              rw [upd_ne (ne_of eUT eDT (fun z => nomatch z))]
              exact eUT
            have eL5 : (upd HT d (DE P w (bs ++ [(stp g.h (j : Int) sg, V.ref T)]) (ks ++ [qn]) d)) l = some (.lst xs) := by
              rw [upd_ne (ne_of eLT eDT (fun z => nomatch z))]
              exact eLT
            have sm5 : Same H (upd HT d (DE P w (bs ++ [(stp g.h (j : Int) sg, V.ref T)]) (ks ++ [qn]) d)) := Same.upd smT hd
            have eD5 : (upd HT d (DE P w (bs ++ [(stp g.h (j : Int) sg, V.ref T)]) (ks ++ [qn]) d)) d = some (DE P w (bs ++ [(stp g.h (j : Int) sg, V.ref T)]) (ks ++ [qn]) d) := upd_same
            have hv6 := hv5.on tk5
            have eq5 := tk5 _ _ eqT
            have tk45 := tk4T.trans tk5
            have kb5 : KB (upd HT d (DE P w (bs ++ [(stp g.h (j : Int) sg, V.ref T)]) (ks ++ [qn]) d)) (bs ++ [(stp g.h (j : Int) sg, V.ref T)]) (ks ++ [qn]) := (kbT.on tk5).snoc (q := (stp g.h (j : Int) sg, V.ref T)) (b := qn) eq5
            have hlay2 := G.lay _ (mid2.sub _ (List.mem_append_right _ (List.mem_singleton.mpr rfl))).1
            refine ⟨rfl, hlive2 _ sm5, _, rfl, hlive2 _ sm5, qn, _, rfl, eq5, by rw [hlay2.1]; exact n1, _, rfl, ite2 (fun e2 => ?_) (fun e2 => ?_)⟩
            · have e2 : stp g.h (j : Int) sg = g.goal := of_decide_eq_true e2
              refine ⟨_, rfl, _, rfl, d, qn, _, _, stp g.h (j : Int) sg, L, dep, rfl, eD5, kb5, eq5, ?_, (by rw [List.map_append]; exact mid2.nd), hv6, G.d0, Nat.le_trans (G.le _ (mid2.sub _ (List.mem_append_right _ (List.mem_singleton.mpr rfl))).1) d1, fun H' r xs' s' er lr => q H' r xs' (sm5.trans s') er (by rw [lr, e2])⟩
              rw [List.map_append]
              exact List.mem_append_right _ (List.mem_singleton.mpr rfl)
            · have e2 : stp g.h (j : Int) sg ≠ g.goal := fun z => e2 (decide_eq_true z)
              refine ⟨_, rfl, .inl ⟨rfl, _, lstAt eU5⟩, _, rfl, u, us, .ref qn, rfl, rfl, eU5, small1000 (by omega), ?_⟩
              have tk6 : TK (upd HT d (DE P w (bs ++ [(stp g.h (j : Int) sg, V.ref T)]) (ks ++ [qn]) d)) (upd (upd HT d (DE P w (bs ++ [(stp g.h (j : Int) sg, V.ref T)]) (ks ++ [qn]) d)) u (.lst (us ++ [.ref qn]))) := TK.upd eU5 not_tup_l
              have tk46 := tk45.trans tk6
              refine ⟨⟨bs ++ [(stp g.h (j : Int) sg, V.ref T)], ks ++ [qn], fur ++ [stp g.h (j : Int) sg], us ++ [.ref qn], Same.upd sm5 huH, ?_, kb5.on tk6, ⟨hv6.on tk6, ?_⟩, ?_, hE3.imp fun _ _ z => z.on tk46, upd_same, Each.snoc ⟨qn, rfl, tk6 _ _ eq5⟩ (hF3.imp fun _ _ z => z.on tk46), ?_⟩, _, _, rfl⟩
              · rw [upd_ne (ne_of eD5 eU5 (fun z => nomatch z))]
                exact eD5
              · rw [List.map_append]
                intro z
                rcases List.mem_append.mp z with z | z
                · exact hv3.2 z
                · exact e2 (List.mem_singleton.mp z).symm
              · rw [upd_ne hlu]
                exact eL5
              · rw [List.map_append]
                exact mid2
        · obtain ⟨⟨bs, ks, fur, us, sm3, eD3, kb3, hv3, eL3, hE3, eU3, hF3, mid⟩, w8, w9, rfl⟩ := h'
          rw [List.length_map, rg_len] at mid
          exact ⟨⟨bs, ks, fur, us, sm3, eD3, kb3, hv3, eL3, hE3, eU3, hF3, mid.row⟩, _, _, _, rfl⟩
      · obtain ⟨⟨bs, ks, fur, us, sm3, eD3, kb3, hv3, eL3, hE3, eU3, hF3, mid⟩, w7, w8, w9, rfl⟩ := h'
        rw [lx] at mid
        exact ⟨_, rfl, D + 1 - (k + 1), by omega, k + 1, bs, ks, fur, us, u, rfl, ⟨_, _, _, _, rfl⟩, sm3, eD3, kb3, hv3, eU3, hF3, mid.fin G lev.lev⟩
    · have hnil : lv = [] := by
        cases xs with
        | nil => exact List.eq_nil_of_length_eq_zero lx.symm
        | cons x r => exact absurd rfl ex
      subst hnil
      exact absurd ((lev.done G g.goal).mpr hgU) hv.2
end
end RH
set_option Elab.async false
set_option linter.all false
set_option maxRecDepth 100000
set_option maxHeartbeats 2000000
namespace RH
open PySem PySem.Spec PyProof.Rows L2
open NdefX (NScope CellsAt Caps slotAt slotAt_of cells_of startF ncx)
open LamX (Tabs TabS TabB ExtN CodeO codeO_ne)
/-! ### the defs that make a step -/
theorem frs_free {X : Cx} {pins : List (Addr × Obj)} {σ : L2.St} {H : Hp} {s : Shared} (I : Inv X pins σ H s) (hf : ∀ x, X.fn x = true) {y : Str} {c : Addr} (h : X.env.cells.lookup y = some c) : c ∉ frs X.stack := by
  have out : c ∉ frs X.outer := fun z => by
    obtain ⟨_, o, e, _⟩ := I.ok.funs.mem z
    have h1 := Heap.lt_size e
    exact absurd (Nat.lt_of_lt_of_le h1 (I.ok.cab y c (hf y) h)) (Nat.lt_irrefl _)
  rcases I.ok.stk with e | ⟨e, ef⟩
  · rw [e]
    exact out
  · rw [e]
    intro z
    have z2 : c = X.env.locals ∨ c ∈ frs X.outer := by
      unfold frs at z ⊢
      rw [List.filterMap_cons, ef] at z
      exact List.mem_cons.mp z
    rcases z2 with z2 | z2
    · obtain ⟨m, hn, _⟩ := I.loc
      obtain ⟨o, es, ep, e1, e2, _⟩ := hn
      obtain ⟨v, o2, e3, e4⟩ := I.cell y c h
      rw [z2, e1] at e3
      cases e3
      rw [e2] at e4
      cases e4
    · exact out z2
/-- a def of the text with its code object -/
structure DfC (K : PySem.W.Frag) (mg : Str → Option Value) (x : Str) (st : Stmt) (ps : List Str) (c : Addr) : Prop where
  ex : ∃ (f : Addr) (oc : Value) (od : Option Addr) (kV doc pm : Value) (an : Option Addr) (ct : Value) (osl : Array (Option Value)), K.lookup f = some ⟨oc, od, .func (PySem.W.fnOf x x (defArgs st) (defBody st) (defScope st) .none kV doc pm an (.ref c) ct), osl⟩ ∧
    PySem.W.codeIn K (.ref c) x = true ∧ PySem.W.keepIn K (.ref f) = true ∧ mg x = some (.ref f) ∧ Binds K (PySem.W.fnOf x x (defArgs st) (defBody st) (defScope st) .none kV doc pm an (.ref c) ct) ps []
section
variable {P : Program} {w : World} {K : PySem.W.Frag} {mg : Str → Option Value} {base : Heap}
theorem mkCalC {x : Str} {st : Stmt} {N ps : List Str} {k : Nat} {sp : Sp} {c : Addr} (F : DfC K mg x st ps c) (S : FnScope N ps (defScope st)) (len : ∀ vs H Q E, sp vs H Q E → vs.length = ps.length)
    (hbody : ∀ (f : Addr) (A : Around) (outer : List Env) (s : Shared) (H : Hp) (vs : List V) (Q : VK) (E : XK), Room k (A.deeper (envOfC x (defScope st) s.heap.objs.size f (.ref c))) → sp vs H Q E →
      ∃ t, PSs (cxOf CX0 P w K mg base N x (defScope st) f (.ref c) A outer s H E).nox (defBody st) t ∧ t { nx := fun _ H' => Q .non H', rt := Q } (start N vs) H) : Cal P w K mg base (k + 1) x sp := by
  obtain ⟨f, oc, od, kV, doc, pm, an, ct, osl, lk, hcd, kp, g, b⟩ := F.ex
  refine ⟨f, _, ps, fn_of lk hcd S len fun A outer s H vs Q E hr hsp => ?_, g, kp, b⟩
  obtain ⟨t, h, q⟩ := hbody f A outer s H vs Q E hr hsp
  exact ⟨t, h.nox, q⟩
/-- the name that a lambda of the def x bears -/
def lamQ (x : Str) : Str := (envOfC x (defScope st_layout_depths) 0 0 .none).qual ++ "<lambda>"
def tabsT (P1 P2 : Addr) : List (Addr × Str) := [(P1, lamQ "layout_depths"), (P2, lamQ "word_to_layout")]
def spLDepths (P : Program) (w : World) (K : PySem.W.Frag) (T : List (Addr × Str)) : Sp := fun vs H Q _ => ∃ (v : V) (h : List (List Int)) (n : Nat) (a : Addr) (L : List Int) (U : List (List Int)) (dep : List Int → Nat) (D : Nat), vs = [v, .ref a] ∧ TII K H v h ∧ Hb n h ∧ KX H a L ∧ Tabs T H ∧ Grf n h L U dep D ∧
  ∀ (H' : Hp) (d : Addr) (as : List (List Int × V)) (ks : List Addr), ExtN H H' → Tabs T H' → H' d = some (DE P w as ks d) → KB H' as ks → (as.map Prod.fst).Nodup → (∀ s, s ∈ as.map Prod.fst ↔ s ∈ U) → (∀ q ∈ as, q.2 = .int (dep q.1)) → Q (.ref d) H'
theorem ok_ldepths {c P1 P2 : Addr} (F : DfC K mg "layout_depths" st_layout_depths ["habit", "layout"] c) (FD : Df K mg "depths" st_depths ["start", "touches", "step", "most"]) (B : Bu mg) (TB : TabB base mg c P1) (hPP : P1 ≠ P2) (c120 : ∃ t, mg "MOST_LAYOUTS" = some (.int 120 t))
    (CP : Cal P w K mg base 1 "places_of_habit" (spPlacesOf K)) (CM : Cal P w K mg base 1 "move" (spMove K)) : Cal P w K mg base 4 "layout_depths" (spLDepths P w K (tabsT P1 P2)) := by
  obtain ⟨fD, fdD, FunD, gD, bD⟩ := FD.ex
  refine mkCalC F sc_layout_depths (fun vs H Q E h => ?_) (fun f A outer s H vs Q E hr h => ?_)
  · obtain ⟨v, h, n, a, L, U, dep, D, rfl, _⟩ := h
    rfl
  · obtain ⟨v, h, n, a, L, U, dep, D, rfl, hT, hb, ha, hTb, G, q⟩ := h
    have hfree : ∀ y ∈ (lamS lam1).names, y.2 = .free → (defScope st_layout_depths).names.lookup y.1 = some .cell ∨ (defScope st_layout_depths).names.lookup y.1 = some .free := by decide +kernel
    have hfr : ∀ y ∈ (["habit"] : List Str), (y, NameKind.free) ∈ (lamS lam1).names := by decide +kernel
    let X : Cx := (cxOf CX0 P w K mg base ["habit", "layout"] "layout_depths" (defScope st_layout_depths) f (.ref c) A outer s H E).nox
    have hfX : ∀ y ∈ (lamS lam1).names, y.2 = .free → X.env.scope.names.lookup y.1 = some .cell ∨ X.env.scope.names.lookup y.1 = some .free := hfree
    let mk : Addr → LF := fun c' => ⟨X.env.qual ++ "<lambda>", lamP lam1, lamB lam1, lamS lam1, cloFrom X.env.cells (lamS lam1).names [], c'⟩
    let preS : GD → L2.St → Hp → Prop := fun g σ H => ∃ (c' : Addr) (hv : V), σ[0]? = some (some hv) ∧ H g.f = some (FnL g.f (mk c')) ∧ H c' = some (CodeO c' (mk c').qual) ∧ g.live = (fun H' => liveL g.f (mk c') H' ∧ TII K H' hv g.h) ∧ Hb g.n g.h
    have hP : ∀ (g : GD) (pins : List (Addr × Obj)) (σ : L2.St) (H : Hp) (s : Shared), Inv X pins σ H s → preS g σ H → preD P w K mg base g X.stack s H := by
      rintro g pins σ H s I ⟨c', hv, h0, h1, h2, h3, h4⟩
      have C : CellsAt (mk c').cl ["habit"] [some hv] s.heap H := by
        have := cells_of I (Caps.made (X := X) (fr := ["habit"]) (js := [0]) I.ok hfX hfr rfl)
        rw [show ([0].map (slotAt σ)) = [some hv] from by rw [List.map_cons, slotAt_of h0]; rfl] at this
        exact this
      have Fn := lok1 (P := P) (w := w) (mg := mg) (base := base) CM g.h g.n (mk c').qual (mk c').cl c' g.f
      refine (callable_lam Fn C fun y c0 e => frs_free I (fun _ => rfl) (NdefX.clo_cm (fun y hy e => (hfX y hy e).elim (fun z => I.ok.has _ (.inl z)) fun z => I.ok.has _ (.inr z)) e)).imp (fun H' l => ?_) (fun vs H' Q E l hs => ?_)
      · rw [h3] at l
        exact l.1
      · rw [h3] at l
        exact ⟨hv, rfl, l.2, h4, hs⟩
    refine ⟨_, pss_one (ps_ret (pe_callC (X := X) (preS := preS) (fun g => ok_depths FunD B g) hP hr (by decide) rfl gD FunD.kp bD pass0 (pa_cons (pv 1) (pa_cons (pc CP hr (pa_cons (pv 0) pa_nil))
      (pa_cons (pe_lam (T := tabsT P1 P2) (params := lamP lam1) (body := lamB lam1) (scope := lamS lam1) (pos := lamO lam1) TB rfl (by exact List.Mem.head _) (fun p hp e => ?_) rfl hfX) (pa_cons (pk c120) pa_nil)))))), ?_⟩
    · rcases List.mem_cons.mp hp with rfl | hp
      · rfl
      · rw [List.mem_singleton.mp hp] at e
        exact absurd e.symm hPP
    refine ⟨_, rfl, _, rfl, v, h, n, rfl, hT, hb, fun t ht => ⟨hTb.ext fun b o e => same_new ht b o e, fun f1 c1 H1 ex nn T1 nf e1 e2 => ?_⟩⟩
    have s1 := same_new (o := .tup ((rg n).map V.int)) ht
    have ex0 : ExtN H H1 := (ExtN.of fun b o e => s1 b o e).trans ex
    have tupX : ∀ b xs, Rd H b (.tup xs) → Rd H1 b (.tup xs) := fun b xs e => by
      rcases e with e | ⟨ob, e⟩
      · exact .inl (ex0 _ _ e (fun ps z => nomatch z))
      · exact .inr ⟨ob, ex0 _ _ e (fun ps z => nomatch z)⟩
    have hT1 : TII K H1 v h := hT.on fun a' xs hs => by
      rcases hs with hs | hs
      · exact .inl (tupX _ _ hs)
      · exact .inr hs
    refine ⟨⟨f1, fun H' => liveL f1 (mk c1) H' ∧ TII K H' v h, h, n⟩, ⟨c1, v, rfl, e1, e2, rfl, hb⟩, a, t, L, U, dep, D, rfl, tupX _ _ ha, tupAt (ex _ _ upd_same (fun ps z => nomatch z)), fun H' sm => ⟨⟨sm _ _ e1, sm _ _ e2⟩, hT1.on (Same.tups sm)⟩, G, by have := hb.hi; show n ≤ 1000; omega, fun H' d as ks sm e kb nd me va => ?_⟩
    exact q H' d as ks (ex0.trans (ExtN.of fun b o e => sm b o e)) (T1.ext fun b o e => sm b o e) e kb nd me va
end
end RH
set_option Elab.async false
set_option linter.all false
set_option maxRecDepth 100000
set_option maxHeartbeats 2000000
namespace RH
open PySem PySem.Spec PyProof.Rows L2
open NdefX (NScope CellsAt Caps slotAt slotAt_of cells_of startF ncx)
open LamX (Tabs TabS TabB ExtN CodeO codeO_ne)
/-! ### words and distances -/
section
variable {P : Program} {w : World} {K : PySem.W.Frag} {mg : Str → Option Value} {base : Heap}
theorem extN_tups {K : PySem.W.Frag} {H H' : Hp} (e : ExtN H H') : Tups K H H' := fun a xs hs => by
  rcases hs with (hs | ⟨o, hs⟩) | hs
  · exact .inl (.inl (e _ _ hs (fun ps z => nomatch z)))
  · exact .inl (.inr ⟨o, e _ _ hs (fun ps z => nomatch z)⟩)
  · exact .inr hs
theorem extN_tk {H H' : Hp} (e : ExtN H H') : TK H H' := fun b xs h => by
  rcases h with h | ⟨ob, h⟩
  · exact .inl (e _ _ h (fun ps z => nomatch z))
  · exact .inr ⟨ob, e _ _ h (fun ps z => nomatch z)⟩
theorem extN_same {H H' : Hp} (e : Same H H') : ExtN H H' := ExtN.of fun b o h => e b o h
theorem tabs_same {T : List (Addr × Str)} {H H' : Hp} (t : Tabs T H) (e : Same H H') : Tabs T H' := t.ext fun b o h => e b o h
def spWtl (K : PySem.W.Frag) (T : List (Addr × Str)) : Sp := fun vs H Q _ => ∃ (v : V) (h : List (List Int)) (n : Nat) (a o : Addr) (L gl : List Int) (U : List (List Int)) (dep : List Int → Nat) (D : Nat), vs = [v, .ref a, .ref o] ∧ TII K H v h ∧ Hb n h ∧
  KX H a L ∧ KX H o gl ∧ Tabs T H ∧ Grf n h L U dep D ∧ gl ∈ U ∧ D ≤ 1000 ∧
  ∀ (H' : Hp) (q : Addr) (xs : List V), ExtN H H' → Tabs T H' → H' q = some (.tup xs) → xs.length = dep gl → Q (.ref q) H'
theorem ok_wtl {c P1 P2 : Addr} (F : DfC K mg "word_to_layout" st_word_to_layout ["habit", "one", "other"] c) (FD : Df K mg "least_word" st_least_word ["start", "touches", "step", "is_goal"]) (B : Bu mg) (TB : TabB base mg c P2) (hPP : P1 ≠ P2)
    (CP : Cal P w K mg base 1 "places_of_habit" (spPlacesOf K)) (CM : Cal P w K mg base 1 "move" (spMove K)) (CT : Cal P w K mg base 1 "traced" (spTraced P w)) : Cal P w K mg base 4 "word_to_layout" (spWtl K (tabsT P1 P2)) := by
  obtain ⟨fD, fdD, FunD, gD, bD⟩ := FD.ex
  refine mkCalC F sc_word_to_layout (fun vs H Q E h => ?_) (fun f A outer s H vs Q E hr h => ?_)
  · obtain ⟨v, h, n, a, o, L, gl, U, dep, D, rfl, _⟩ := h
    rfl
  · obtain ⟨v, h, n, a, o, L, gl, U, dep, D, rfl, hT, hb, ha, ho, hTb, G, hgU, d1, q⟩ := h
    have hfr2 : ∀ y ∈ (lamS lam2).names, y.2 = .free → (defScope st_word_to_layout).names.lookup y.1 = some .cell ∨ (defScope st_word_to_layout).names.lookup y.1 = some .free := by decide +kernel
    have hfr3 : ∀ y ∈ (lamS lam3).names, y.2 = .free → (defScope st_word_to_layout).names.lookup y.1 = some .cell ∨ (defScope st_word_to_layout).names.lookup y.1 = some .free := by decide +kernel
    have hc2 : ∀ y ∈ (["habit"] : List Str), (y, NameKind.free) ∈ (lamS lam2).names := by decide +kernel
    have hc3 : ∀ y ∈ (["other"] : List Str), (y, NameKind.free) ∈ (lamS lam3).names := by decide +kernel
    let X : Cx := (cxOf CX0 P w K mg base ["habit", "one", "other"] "word_to_layout" (defScope st_word_to_layout) f (.ref c) A outer s H E).nox
    have hf2 : ∀ y ∈ (lamS lam2).names, y.2 = .free → X.env.scope.names.lookup y.1 = some .cell ∨ X.env.scope.names.lookup y.1 = some .free := hfr2
    have hf3 : ∀ y ∈ (lamS lam3).names, y.2 = .free → X.env.scope.names.lookup y.1 = some .cell ∨ X.env.scope.names.lookup y.1 = some .free := hfr3
    let mk2 : Addr → LF := fun c' => ⟨X.env.qual ++ "<lambda>", lamP lam2, lamB lam2, lamS lam2, cloFrom X.env.cells (lamS lam2).names [], c'⟩
    let mk3 : Addr → LF := fun c' => ⟨X.env.qual ++ "<lambda>", lamP lam3, lamB lam3, lamS lam3, cloFrom X.env.cells (lamS lam3).names [], c'⟩
    let preS : GL → L2.St → Hp → Prop := fun g σ H => ∃ (c1 c2 : Addr) (hv : V) (ob : Addr), σ[0]? = some (some hv) ∧ σ[2]? = some (some (.ref ob)) ∧ H g.f = some (FnL g.f (mk2 c1)) ∧ H c1 = some (CodeO c1 (mk2 c1).qual) ∧ H g.f2 = some (FnL g.f2 (mk3 c2)) ∧ H c2 = some (CodeO c2 (mk3 c2).qual) ∧
      g.live = (fun H' => liveL g.f (mk2 c1) H' ∧ TII K H' hv g.h) ∧ g.live2 = (fun H' => liveL g.f2 (mk3 c2) H' ∧ KX H' ob g.goal) ∧ Hb g.n g.h ∧ g.goal.length ≤ 1000
    have hP : ∀ (g : GL) (pins : List (Addr × Obj)) (σ : L2.St) (H : Hp) (s : Shared), Inv X pins σ H s → preS g σ H → preL P w K mg base g X.stack s H := by
      rintro g pins σ H s I ⟨c1, c2, hv, ob, h0, h2, h3, h4, h5, h6, h7, h8, h9, h10⟩
      have C2 : CellsAt (mk2 c1).cl ["habit"] [some hv] s.heap H := by
        have := cells_of I (Caps.made (X := X) (fr := ["habit"]) (js := [0]) I.ok hf2 hc2 rfl)
        rw [show ([0].map (slotAt σ)) = [some hv] from by rw [List.map_cons, slotAt_of h0]; rfl] at this
        exact this
      have C3 : CellsAt (mk3 c2).cl ["other"] [some (.ref ob)] s.heap H := by
        have := cells_of I (Caps.made (X := X) (fr := ["other"]) (js := [2]) I.ok hf3 hc3 rfl)
        rw [show ([2].map (slotAt σ)) = [some (.ref ob)] from by rw [List.map_cons, slotAt_of h2]; rfl] at this
        exact this
      have Fn2 := lok2 (P := P) (w := w) (mg := mg) (base := base) CM g.h g.n (mk2 c1).qual (mk2 c1).cl c1 g.f
      have Fn3 := lok3 (P := P) (w := w) (K := K) (mg := mg) (base := base) g.goal (mk3 c2).qual (mk3 c2).cl c2 g.f2
      refine ⟨(callable_lam Fn2 C2 fun y c0 e => frs_free I (fun _ => rfl) (NdefX.clo_cm (fun y hy e => (hf2 y hy e).elim (fun z => I.ok.has _ (.inl z)) fun z => I.ok.has _ (.inr z)) e)).imp (fun H' l => ?_) (fun vs H' Q E l hs => ?_),
        (callable_lam Fn3 C3 fun y c0 e => frs_free I (fun _ => rfl) (NdefX.clo_cm (fun y hy e => (hf3 y hy e).elim (fun z => I.ok.has _ (.inl z)) fun z => I.ok.has _ (.inr z)) e)).imp (fun H' l => ?_) (fun vs H' Q E l hs => ?_)⟩
      · rw [h7] at l
        exact l.1
      · rw [h7] at l
        exact ⟨hv, rfl, l.2, h9, hs⟩
      · rw [h8] at l
        exact l.1
      · rw [h8] at l
        exact ⟨ob, rfl, l.2, h10, hs⟩
    have huT : ∀ p ∈ tabsT P1 P2, p.1 = P2 → p.2 = X.env.qual ++ "<lambda>" := fun p hp e => by
      rcases List.mem_cons.mp hp with rfl | hp
      · exact absurd e hPP
      · rw [List.mem_singleton.mp hp]
        rfl
    refine ⟨_, pss_one (ps_ret (pe_callC (X := X) (preS := preS) (fun g => ok_least FunD B CT g) hP hr (by decide) rfl gD FunD.kp bD pass0 (pa_cons (pv 1) (pa_cons (pc CP hr (pa_cons (pv 0) pa_nil))
      (pa_cons (pe_lam (T := tabsT P1 P2) (params := lamP lam2) (body := lamB lam2) (scope := lamS lam2) (pos := lamO lam2) TB rfl (by exact List.Mem.tail _ (List.Mem.head _)) huT rfl hf2)
      (pa_cons (pe_lam (T := tabsT P1 P2) (params := lamP lam3) (body := lamB lam3) (scope := lamS lam3) (pos := lamO lam3) TB rfl (by exact List.Mem.tail _ (List.Mem.head _)) huT rfl hf3) pa_nil)))))), ?_⟩
    refine ⟨_, rfl, _, rfl, v, h, n, rfl, hT, hb, fun t ht => ⟨tabs_same hTb (same_new ht), fun f1 c1 H1 ex nn T1 nf e1 e2 => ⟨T1, fun f2 c2 H2 ex2 nn2 T2 nf2 e3 e4 => ?_⟩⟩⟩
    have ex0 : ExtN H H2 := ((extN_same (same_new ht)).trans ex).trans ex2
    have e1' := ex2 _ _ e1 (fun ps z => fnL_ne ps z)
    have e2' := ex2 _ _ e2 (fun ps z => codeO_ne ps z)
    have hT2 := hT.on (extN_tups (K := K) ex0)
    have hgl := G.lay gl hgU
    have n5 := hb.hi
    refine ⟨⟨⟨f1, fun H' => liveL f1 (mk2 c1) H' ∧ TII K H' v h, h, n⟩, f2, fun H' => liveL f2 (mk3 c2) H' ∧ KX H' o gl, gl⟩, ⟨c1, c2, v, o, rfl, rfl, e1', e2', e3, e4, rfl, rfl, hb, by show gl.length ≤ 1000; omega⟩,
      a, t, L, U, dep, D, rfl, extN_tk ex0 _ _ ha, (.inl (extN_tk (ex.trans ex2) _ _ (.inl upd_same))), fun H' sm => ⟨⟨sm _ _ e1', sm _ _ e2'⟩, hT2.on (Same.tups sm)⟩, fun H' sm => ⟨⟨sm _ _ e3, sm _ _ e4⟩, TK.same sm _ _ (extN_tk ex0 _ _ ho)⟩, G, by show n ≤ 1000; omega, d1, hgU, fun H' q' xs sm e le => ?_⟩
    exact q H' q' xs (ex0.trans (extN_same sm)) (tabs_same T2 sm) e le
def spBetween (K : PySem.W.Frag) (T : List (Addr × Str)) : Sp := fun vs H Q _ => ∃ (v : V) (h : List (List Int)) (n : Nat) (a o : Addr) (L gl : List Int) (U : List (List Int)) (dep : List Int → Nat) (D : Nat), vs = [v, .ref a, .ref o] ∧ TII K H v h ∧ Hb n h ∧
  KX H a L ∧ KX H o gl ∧ L.Perm (rg n) ∧ gl.Perm (rg n) ∧ Tabs T H ∧ Grf n h L U dep D ∧ gl ∈ U ∧ D ≤ 1000 ∧
  ∀ (H' : Hp) (q : Addr) (xs : List V), ExtN H H' → Tabs T H' → H' q = some (.tup xs) → xs.length = dep gl → Q (.ref q) H'
theorem ok_between {T : List (Addr × Str)} (F : Df K mg "word_between" st_word_between ["habit", "one", "other"]) (B : Bu mg) (CH : Cal P w K mg base 6 "check_habit" (spCheckHabit K)) (CL : Cal P w K mg base 6 "check_layout" (spCheckLayout K)) (CW : Cal P w K mg base 4 "word_to_layout" (spWtl K T)) :
    Cal P w K mg base 7 "word_between" (spBetween K T) := by
  refine mkCal F sc_word_between (fun vs H Q E h => ?_) (fun f cdv A outer s H vs Q E hr h => ?_)
  · obtain ⟨v, h, n, a, o, L, gl, U, dep, D, rfl, _⟩ := h
    rfl
  · obtain ⟨v, h, n', a, o, L', gl', U, dep, D, rfl, hT, hb, ha, ho, hp1, hp2, hTb, G, hgU, d1, q⟩ := h
    obtain ⟨ah, xs, rfl, hS, hE⟩ := id hT
    have hxl : xs.length = n' := hE.len.trans hb.len
    have n5 := hb.hi
    refine ⟨_, pss_cons (ps_expr (pc CH hr (pa_cons (pv 0) pa_nil)))
      (pss_cons (ps_expr (pc CL hr (pa_cons (pv 1) (pa_cons (pe_callB (cl_len K) (by rfl) B.len PySem.boot_len (pa_cons (pv 0) pa_nil)) pa_nil))))
      (pss_cons (ps_expr (pc CL hr (pa_cons (pv 2) (pa_cons (pe_callB (cl_len K) (by rfl) B.len PySem.boot_len (pa_cons (pv 0) pa_nil)) pa_nil))))
      (pss_one (ps_ret (pc CW hr (pa_cons (pv 0) (pa_cons (pv 1) (pa_cons (pv 2) pa_nil)))))))), ?_⟩
    refine ⟨_, rfl, _, h, n', rfl, hT, hb, fun H1 s1 => ?_⟩
    refine ⟨_, rfl, _, rfl, ah, xs, rfl, .inr (onT s1 hS), _, L', n', by rw [hxl]; rfl, ⟨a, rfl, .inl (TK.same s1 _ _ ha)⟩, hp1, n5, fun H2 s2 => ?_⟩
    have s12 := s1.trans s2
    refine ⟨_, rfl, _, rfl, ah, xs, rfl, .inr (onT s12 hS), _, gl', n', by rw [hxl]; rfl, ⟨o, rfl, .inl (TK.same s12 _ _ ho)⟩, hp2, n5, fun H3 s3 => ?_⟩
    have s13 := s12.trans s3
    exact ⟨_, rfl, _, rfl, _, rfl, _, h, n', a, o, L', gl', U, dep, D, rfl, hT.on (Same.tups s13), hb, TK.same s13 _ _ ha, TK.same s13 _ _ ho, tabs_same hTb s13, G, hgU, d1, fun H' q' xs' ex t' e le => q H' q' xs' ((extN_same s13).trans ex) t' e le⟩
def spDist (K : PySem.W.Frag) (T : List (Addr × Str)) : Sp := fun vs H Q _ => ∃ (v : V) (h : List (List Int)) (n : Nat) (a o : Addr) (L gl : List Int) (U : List (List Int)) (dep : List Int → Nat) (D : Nat), vs = [v, .ref a, .ref o] ∧ TII K H v h ∧ Hb n h ∧
  KX H a L ∧ KX H o gl ∧ L.Perm (rg n) ∧ gl.Perm (rg n) ∧ Tabs T H ∧ Grf n h L U dep D ∧ gl ∈ U ∧ D ≤ 1000 ∧
  ∀ (H' : Hp), ExtN H H' → Tabs T H' → Q (.int (dep gl : Nat)) H'
theorem ok_distance {T : List (Addr × Str)} (F : Df K mg "distance" st_distance ["habit", "one", "other"]) (B : Bu mg)
    (CB : Cal P w K mg base 7 "word_between" (spBetween K T)) :
    Cal P w K mg base 8 "distance" (spDist K T) := by
  refine mkCal F sc_distance (fun vs H Q E h => ?_) (fun f cdv A outer s H vs Q E hr h => ?_)
  · obtain ⟨v, h, n, a, o, L, gl, U, dep, D, rfl, _⟩ := h
    rfl
  · obtain ⟨v, h, n, a, o, L, gl, U, dep, D, rfl, hT, hb, ha, ho, hp1, hp2, hTb, G, hgU, d1, q⟩ := h
    refine ⟨_, pss_cons (ps_set (i := 3) sc_distance.nd rfl (.inl rfl) (pc CB hr (pa_cons (pv 0) (pa_cons (pv 1) (pa_cons (pv 2) pa_nil)))))
      (pss_one (ps_ret (pe_ifExp (pt_cmp (pc_isN (pv 3))) pe_non (pe_callB (cl_len K) (by rfl) B.len PySem.boot_len (pa_cons (pv 3) pa_nil))))), ?_⟩
    refine ⟨_, rfl, _, rfl, _, rfl, v, h, n, a, o, L, gl, U, dep, D, rfl, hT, hb, ha, ho, hp1, hp2, hTb, G, hgU, d1, fun H' q' xs ex t' e le => ?_⟩
    refine ⟨_, rfl, _, rfl, ifF (ref_non _) ⟨_, rfl, q', xs, rfl, .inr (tupAt e), ?_⟩⟩
    rw [le]
    exact q H' ex t'
def spFar (K : PySem.W.Frag) (T : List (Addr × Str)) : Sp := fun vs H Q _ => ∃ (v : V) (h : List (List Int)) (n : Nat) (a : Addr) (L : List Int) (U : List (List Int)) (dep : List Int → Nat) (D : Nat), vs = [v, .ref a] ∧ TII K H v h ∧ Hb n h ∧
  KX H a L ∧ L.Perm (rg n) ∧ Tabs T H ∧ Grf n h L U dep D ∧ (∃ s ∈ U, dep s = D) ∧ ∀ (H' : Hp), ExtN H H' → Tabs T H' → Q (.int (D : Nat)) H'
theorem ok_farthest {T : List (Addr × Str)} (F : Df K mg "farthest" st_farthest ["habit", "layout"]) (B : Bu mg) (CH : Cal P w K mg base 6 "check_habit" (spCheckHabit K)) (CL : Cal P w K mg base 6 "check_layout" (spCheckLayout K)) (CD : Cal P w K mg base 4 "layout_depths" (spLDepths P w K T)) :
    Cal P w K mg base 7 "farthest" (spFar K T) := by
  refine mkCal F sc_farthest (fun vs H Q E h => ?_) (fun f cdv A outer s H vs Q E hr h => ?_)
  · obtain ⟨v, h, n, a, L, U, dep, D, rfl, _⟩ := h
    rfl
  · obtain ⟨v, h, n, a, L, U, dep, D, rfl, hT, hb, ha, hp1, hTb, G, ⟨sM, hsM, eM⟩, q⟩ := h
    obtain ⟨ah, xs, rfl, hS, hE⟩ := id hT
    have hxl : xs.length = n := hE.len.trans hb.len
    have n5 := hb.hi
    refine ⟨_, pss_cons (ps_expr (pc CH hr (pa_cons (pv 0) pa_nil)))
      (pss_cons (ps_expr (pc CL hr (pa_cons (pv 1) (pa_cons (pe_callB (cl_len K) (by rfl) B.len PySem.boot_len (pa_cons (pv 0) pa_nil)) pa_nil))))
      (pss_one (ps_ret (pe_callB (cr_max rfl) (by rfl) B.max (by decide +kernel) (pa_cons (pe_callTy (call_listValsE rfl) (by rfl) B.list (by decide +kernel) (pa_cons (pe_valsE (pc CD hr (pa_cons (pv 0) (pa_cons (pv 1) pa_nil)))) pa_nil)) pa_nil))))), ?_⟩
    refine ⟨_, rfl, _, h, n, rfl, hT, hb, fun H1 s1 => ?_⟩
    refine ⟨_, rfl, _, rfl, ah, xs, rfl, .inr (onT s1 hS), _, L, n, by rw [hxl]; rfl, ⟨a, rfl, .inl (TK.same s1 _ _ ha)⟩, hp1, n5, fun H2 s2 => ?_⟩
    have s12 := s1.trans s2
    refine ⟨_, rfl, _, rfl, _, h, n, a, L, U, dep, D, rfl, hT.on (Same.tups s12), hb, TK.same s12 _ _ ha, tabs_same hTb s12, G, fun H3 d as ks ex t3 e kb nd me va => ?_⟩
    have hmap : as.map Prod.snd = (as.map fun q => ((dep q.1 : Nat) : Int)).map V.int := by
      rw [List.map_map]
      exact List.map_congr_left fun q hq => va q hq
    have hne : 0 < (as.map fun q => ((dep q.1 : Nat) : Int)).length := by
      have := List.length_pos_of_mem ((me sM).mpr hsM)
      rw [List.length_map] at this ⊢
      exact this
    refine ⟨d, as, ks, rfl, e, fun p hp => ⟨p, d, as, ks, rfl, upd_same, same_new hp _ _ e, fun l hl => ⟨l, _, rfl, lstAt (by rw [upd_same, hmap]), hne, fun m hm hle => ?_⟩⟩⟩
    have em : m = ((D : Nat) : Int) := by
      obtain ⟨q1, hq1, rfl⟩ := List.mem_map.mp hm
      have h1 := G.le q1.1 ((me _).mp (List.mem_map.mpr ⟨q1, hq1, rfl⟩))
      obtain ⟨q2, hq2, e2⟩ := List.mem_map.mp ((me sM).mpr hsM)
      have h2 := hle _ (List.mem_map.mpr ⟨q2, hq2, rfl⟩)
      rw [e2, eM] at h2
      omega
    rw [em]
    have s5 : Same H3 (upd (upd H3 p (valuesO p d)) l (.lst (as.map Prod.snd))) := (same_new hp).trans (same_new hl)
    exact q _ ((extN_same s12).trans (ex.trans (extN_same s5))) (tabs_same t3 s5)
def spOrd (K : PySem.W.Frag) (T : List (Addr × Str)) : Sp := fun vs H Q _ => ∃ (v : V) (h : List (List Int)) (n : Nat) (U : List (List Int)) (dep : List Int → Nat) (D : Nat), vs = [v] ∧ TII K H v h ∧ Hb n h ∧ Tabs T H ∧ Grf n h (rg n) U dep D ∧
  ∀ (H' : Hp), ExtN H H' → Tabs T H' → Q (.int (U.length : Nat)) H'
theorem ok_ordr {T : List (Addr × Str)} (F : Df K mg "order" st_order ["habit"]) (B : Bu mg) (CH : Cal P w K mg base 6 "check_habit" (spCheckHabit K)) (CP : Cal P w K mg base 1 "places_of_habit" (spPlacesOf K)) (CD : Cal P w K mg base 4 "layout_depths" (spLDepths P w K T)) :
    Cal P w K mg base 7 "order" (spOrd K T) := by
  refine mkCal F sc_order (fun vs H Q E h => ?_) (fun f cdv A outer s H vs Q E hr h => ?_)
  · obtain ⟨v, h, n, U, dep, D, rfl, _⟩ := h
    rfl
  · obtain ⟨v, h, n, U, dep, D, rfl, hT, hb, hTb, G, q⟩ := h
    refine ⟨_, pss_cons (ps_expr (pc CH hr (pa_cons (pv 0) pa_nil)))
      (pss_one (ps_ret (pe_callB call_lenE (by rfl) B.len PySem.boot_len (pa_cons (pc CD hr (pa_cons (pv 0) (pa_cons (pc CP hr (pa_cons (pv 0) pa_nil)) pa_nil))) pa_nil)))), ?_⟩
    refine ⟨_, rfl, _, h, n, rfl, hT, hb, fun H1 s1 => ?_⟩
    refine ⟨_, rfl, _, rfl, _, h, n, rfl, hT.on (Same.tups s1), hb, fun t ht => ?_⟩
    have s2 := s1.trans (same_new (o := .tup ((rg n).map V.int)) ht)
    refine ⟨_, h, n, t, rg n, U, dep, D, rfl, hT.on (Same.tups s2), hb, .inl upd_same, tabs_same hTb s2, G, fun H3 d as ks ex t3 e kb nd me va => ⟨d, as, ks, rfl, e, kb, ?_⟩⟩
    have el : as.length = U.length := by
      have h1 := List.Nodup.length_le_of_subset nd (fun s hs => (me s).mp hs)
      have h2 := List.Nodup.length_le_of_subset G.nd (fun s hs => (me s).mpr hs)
      rw [List.length_map] at h1 h2
      omega
    rw [el]
    exact q H3 ((extN_same s2).trans ex) t3
end
end RH
set_option Elab.async false
set_option linter.all false
set_option maxRecDepth 100000
set_option maxHeartbeats 2000000
namespace RH
open PySem PySem.Spec PyProof.Rows L2
open LamX (Tabs TabS TabB ExtN CodeO codeO_ne)
/-! ### what the law compares -/
def movedOf (bk : List Int) (p : Nat) : List Int := [bk.getD p 0] ++ bk.take p ++ bk.drop (p + 1)
def swapOf (bk : List Int) (p : Nat) : List Int := if 0 < p then (bk.set p (bk.getD (p - 1) 0)).set (p - 1) (bk.getD p 0) else bk
def tot : Nat → Nat
  | 0 => 1
  | i + 1 => tot i * (2 + i)
theorem law_facts : ∀ n, n < 6 → 2 ≤ n → ((prm (rg n)).all fun L => (List.range n).all fun p => decide (invL n (stp (frontH n) p L) = movedOf (invL n L) p) && decide (invL n (stp (neighH n) p L) = swapOf (invL n L) p) && decide (stp (turnH n) p L = L.map fun s => (s + (p : Int)) % (n : Int))) = true ∧
    (prm (rg n)).length = tot (n - 1) ∧ (turnH n).length = n ∧ ((prm (rg n)).any fun w => decide (depF n w = n - 1)) = true := by decide +kernel
theorem habits_ok : ∀ n, n < 6 → 2 ≤ n → (frontH n).length = n ∧ (neighH n).length = n ∧ (turnH n).length = n ∧ ((frontH n).all fun s => s.isPerm (rg n)) = true ∧ ((neighH n).all fun s => s.isPerm (rg n)) = true ∧ ((turnH n).all fun s => s.isPerm (rg n)) = true := by decide +kernel
theorem hb_of {n : Nat} {h : List (List Int)} (n2 : 2 ≤ n) (n5 : n ≤ 5) (l : h.length = n) (a : (h.all fun s => s.isPerm (rg n)) = true) : Hb n h := ⟨l, fun ns hm => List.isPerm_iff.mp (List.all_eq_true.mp a ns hm), n2, n5⟩
theorem sorted_iff : ∀ l : List Int, sortedB l = true ↔ l.Pairwise (· ≤ ·)
  | [] => by simp [sortedB]
  | a :: l => by
    unfold sortedB
    rw [Bool.and_eq_true, List.all_eq_true, sorted_iff l, List.pairwise_cons]
    simp only [decide_eq_true_eq]
theorem inv_rel {n : Nat} {L O : List Int} (hL : L.Perm (rg n)) (hO : O.Perm (rg n)) : invL n (rel n L O) = (invL n O).map fun x => L.getD x.toNat 0 := by
  unfold invL
  rw [List.map_map]
  refine List.map_congr_left fun k hk => ?_
  have hk := List.mem_range.mp hk
  have hkO : (k : Int) ∈ O := perm_mem hO ⟨by omega, by omega⟩
  have h1 := at_idx hkO
  have hj : O.idxOf (k : Int) < n := by
    have := (List.getElem?_eq_some_iff.mp h1).1
    rw [perm_len hO] at this
    exact this
  have h2 : L[O.idxOf (k : Int)]? = some (L[O.idxOf (k : Int)]'(by rw [perm_len hL]; exact hj)) := List.getElem?_eq_getElem _
  have hx : InR n (L[O.idxOf (k : Int)]'(by rw [perm_len hL]; exact hj)) := perm_in hL (List.getElem_mem _)
  show (((rel n L O).idxOf (k : Int) : Nat) : Int) = L.getD ((O.idxOf (k : Int) : Nat) : Int).toNat 0
  rw [Int.toNat_natCast, getD_some h2]
  generalize (L[O.idxOf (k : Int)]'(by rw [perm_len hL]; exact hj)) = x at *
  have h3 : (rel n L O)[x.toNat]? = some (k : Int) := by
    unfold rel
    rw [List.getElem?_map, rg_at (n := n) (i := x.toNat) (by have := hx.1; have := hx.2; omega)]
    show some (O.getD (L.idxOf ((x.toNat : Nat) : Int)) 0) = _
    rw [Int.toNat_of_nonneg hx.1, idx_at (perm_nd hL) h2, getD_some h1]
  rw [idx_at (perm_nd (rel_perm hL hO)) h3, Int.toNat_of_nonneg hx.1]
theorem kept_more (n : Nat) (q : List Int) (m : Nat) : keptI n q (m + 1) = if sortedB (q.drop (n - m)) then max (keptI n q m) m else keptI n q m := by
  unfold keptI
  rw [List.range_succ, List.foldl_append]
  rfl
theorem Fix.tabs {T : List (Addr × Str)} {H H' : Hp} (f : Fix H H') (t : Tabs T H) : Tabs T H' := fun p hp => by
  obtain ⟨ps, h1, h2, h3⟩ := t p hp
  refine ⟨ps, f _ _ h1 (fun xs z => nomatch z), h2, fun pos cv hc => ?_⟩
  obtain ⟨c, e1, e2⟩ := h3 pos cv hc
  exact ⟨c, e1, f _ _ e2 (fun xs z => by unfold CodeO at z; cases z)⟩
theorem FT.fix {H H' : Hp} {b : Addr} {s : List Int} (f : Fix H H') (h : FT H b s) : FT H' b s := let ⟨ob, h1, h2⟩ := h; ⟨ob, f _ _ h1 (fun xs z => nomatch z), h2⟩
theorem FT.ext {H H' : Hp} {b : Addr} {s : List Int} (e : ExtN H H') (h : FT H b s) : FT H' b s := let ⟨ob, h1, h2⟩ := h; ⟨ob, e _ _ h1 (fun ps z => nomatch z), h2⟩
theorem FT.same {H H' : Hp} {b : Addr} {s : List Int} (e : Same H H') (h : FT H b s) : FT H' b s := h.ext (extN_same e)
theorem FT.sq {K : PySem.W.Frag} {H : Hp} {b : Addr} {s : List Int} (h : FT H b s) : SqT K H b (s.map V.int) := .inl h.kx
theorem kept_le (n : Nat) (q : List Int) : ∀ m, m ≤ n + 1 → keptI n q m ≤ n
  | 0, _ => Nat.zero_le _
  | m + 1, h => by
    have ih := kept_le n q m (by omega)
    rw [kept_more]
    split <;> omega
theorem stp_perm {n : Nat} {h : List (List Int)} (hb : Hb n h) {p : Int} (hp : InR n p) {L : List Int} (hL : L.Perm (rg n)) : (stp h p L).Perm (rg n) := by
  have h1 : (stp h p L).Perm ((rg n).map (mv h p)) := hL.map _
  refine h1.trans ?_
  have hlt : p.toNat < h.length := by rw [hb.len]; have := hp.1; have := hp.2; omega
  have hm : h[p.toNat] ∈ h := List.getElem_mem hlt
  have e : (rg n).map (mv h p) = h[p.toNat] := by
    refine List.ext_getElem? fun i => ?_
    rw [List.getElem?_map]
    by_cases hi : i < n
    · rw [rg_at hi]
      obtain ⟨ns, e1, e2, _⟩ := hb.at (s := (i : Int)) hp.1 hp.2 (by omega) (by omega)
      rw [List.getElem?_eq_getElem hlt] at e1
      rw [Int.toNat_natCast] at e2
      rw [Option.some.inj e1, e2]
      rfl
    · rw [List.getElem?_eq_none (by rw [rg_len]; omega), List.getElem?_eq_none (by rw [hb.short hm]; omega)]
      rfl
  rw [e]
  exact hb.perm _ hm
theorem max_int (a b : Nat) : (if ((b : Nat) : Int) > ((a : Nat) : Int) then ((b : Nat) : Int) else ((a : Nat) : Int)) = ((max a b : Nat) : Int) := by
  split <;> omega
theorem invL_len (n : Nat) (w : List Int) : (invL n w).length = n := by
  unfold invL
  rw [List.length_map, List.length_range]
theorem invL_in {n : Nat} {w : List Int} (hw : w.Perm (rg n)) {x : Int} (hx : x ∈ invL n w) : InR n x := by
  unfold invL at hx
  obtain ⟨k, hk, rfl⟩ := List.mem_map.mp hx
  have hk := List.mem_range.mp hk
  have h1 := at_idx (perm_mem hw (x := (k : Int)) ⟨by omega, by omega⟩)
  have h2 := (List.getElem?_eq_some_iff.mp h1).1
  rw [perm_len hw] at h2
  exact ⟨by omega, by omega⟩
theorem get_getD {l : List Int} {i : Nat} (h : i < l.length) : l[i]? = some (l.getD i 0) := by
  rw [List.getD_eq_getElem?_getD, List.getElem?_eq_getElem h]
  rfl
theorem gName_go {i : Nat} {v : V} {σ : L2.St} {H : Hp} {Q : L2.St → Hp → Prop} (h : Q (σ.set i (some v)) H) : gName i v σ H Q := h
theorem seqAsg_go {te : TE} {g : TG} {u : TS} {D : Ends} {σ : L2.St} {H : Hp} (h : te σ H fun v H1 => g v σ H1 fun σ2 H2 => u D σ2 H2) : tSeq (tAsg te g) u D σ H := h
theorem seqIf_go {r : R2} {ta tb : TE} {t u rest : TS} {D : Ends} {σ : L2.St} {H : Hp} (h : ta σ H fun x H1 => tb σ H1 fun y H2 => r x y H2 fun v H3 => ∃ k, v = .bl k ∧ (if k = true then t { D with nx := rest D } σ H3 else u { D with nx := rest D } σ H3)) : tSeq (tIfS (tTest (tOp r ta tb)) t u) rest D σ H := h
theorem seqPar_go {i j : Nat} {ta tb : TE} {rest : TS} {D : Ends} {σ : L2.St} {H : Hp} (h : ta σ H fun x H1 => tb σ H1 fun y H2 => ∃ v w, [x, y] = [v, w] ∧ rest D ((σ.set i (some v)).set j (some w)) H2) : tSeq (tPar i j (tCons ta (tCons tb tNil))) rest D σ H := h
theorem next_go {rest : TS} {D : Ends} {σ : L2.St} {H : Hp} (h : rest D σ H) : tNext { D with nx := rest D } σ H := h
/-- where each book stands, as a list made by index -/
theorem idx_lc {σ : L2.St} {H : Hp} {Q : VK} {n j : Nat} {b : Addr} {w : List Int} (h2 : σ[2]? = some (some (.int n))) (hj : σ[j]? = some (some (.ref b))) (hjn : j ≠ 18) (h18 : 18 < σ.length) (n5 : n ≤ 5) (fw : FT H b w) (hw : w.Perm (rg n))
    (q : ∀ D H', H D = none → Same H H' → H' D = some (.lst ((invL n w).map V.int)) → Q (.ref D) H') : tLc (iRng1 (tCons (tVar 2) tNil)) (gName 18) tYes (tTIdxF (tVar j) (tVar 18)) [18] σ H Q := by
  refine ⟨_, h2, n, rfl, by omega, by omega, fun D hD => ?_⟩
  rw [Int.toNat_natCast]
  refine lc_range (lo := 0) (n := n) (fun i H' => Same H H' ∧ H' D = some (.lst (((List.range i).map fun k : Nat => ((w.idxOf (k : Int) : Nat) : Int)).map V.int))) ⟨same_new hD, upd_same⟩ (fun i H' hi h' => ?_) (fun H' h' => ?_)
  · obtain ⟨sm, eD⟩ := h'
    rw [Int.zero_add]
    have e18 : ((wipe σ [18]).set 18 (some (.int (i : Int))))[18]? = some (some (.int (i : Int))) := by
      rw [List.getElem?_set_self]
      rw [wipe_length]
      exact h18
    have ej : ((wipe σ [18]).set 18 (some (.int (i : Int))))[j]? = some (some (.ref b)) := by
      rw [List.getElem?_set_ne (Ne.symm hjn)]
      show ((σ.set 18 none))[j]? = _
      rw [List.getElem?_set_ne (Ne.symm hjn)]
      exact hj
    refine ⟨?_, _, ej, b, w, rfl, fw.same sm, _, e18, (i : Int), rfl, fw.same sm, perm_mem hw ⟨by omega, by omega⟩, _, eD, ?_, ?_, ?_⟩
    · show List.set (List.set (List.set σ 18 none) 18 (some (V.int (i : Int)))) 18 none = List.set σ 18 none
      rw [List.set_set, List.set_set]
    · rw [List.length_map, List.length_map, List.length_range]
      exact small1000 (by omega)
    · intro c o e
      rw [upd_ne (ne_of_none e hD)]
      exact sm c o e
    · rw [upd_same, range_more]
  · obtain ⟨sm, eD⟩ := h'
    exact q D H' hD sm eD
section
variable {P : Program} {w : World} {K : PySem.W.Frag} {mg : Str → Option Value} {base : Heap}
abbrev NL : List Str := ["script", "row", "places", "habit", "layout", "other", "place", "books", "moved", "found", "last", "kept", "many", "tail", "total", "number", "near", "turned", "spot", "name", "stands"]
def spLaw (K : PySem.W.Frag) (T : List (Addr × Str)) : Sp := fun vs H Q _ => ∃ (a : Addr) (ns : List Int), vs = [.ref a] ∧ Fz K H a (ns.map V.int) ∧ Tabs T H ∧ ∀ H', Q (.bl true) H'
theorem ok_law {T : List (Addr × Str)} {f : Addr} {fd : FuncData} (F : Fun K "law" "law" st_law f fd) (B : Bu mg) (CT : Cal P w K mg base 1 "_law_taken" (spTaken K)) (CO : Cal P w K mg base 2 "_law_order" (spOrder K))
    (CF : Cal P w K mg base 5 "front_habit" (spHab K frontH)) (CN : Cal P w K mg base 5 "neighbour_habit" (spHab K neighH)) (CU : Cal P w K mg base 5 "turning_habit" (spHab K turnH)) (CM : Cal P w K mg base 7 "touched" (spTouched K))
    (CD : Cal P w K mg base 8 "distance" (spDist K T)) (CA : Cal P w K mg base 7 "farthest" (spFar K T)) (CR : Cal P w K mg base 7 "order" (spOrd K T)) : FnOk P w K mg base CX0 9 f fd ["script"] (spLaw K T) := by
  refine F.ok sc_law (fun vs H Q E h => ?_) (fun cdv A outer s H vs Q E hr h => ?_)
  · obtain ⟨a, ns, rfl, _⟩ := h
    rfl
  · obtain ⟨a, scr, rfl, hZ, hTb, q⟩ := h
    refine ⟨_, pss_cons (ps_set (i := 1) sc_law.nd rfl (.inl rfl) (pe_lst (pa_cons (pv 0) (pa_cons pe_int (pa_cons pe_int (pa_cons pe_int pa_nil))))))
      (pss_cons (ps_set (i := 2) sc_law.nd rfl (.inr rfl) (pe_op op_add pe_int (pc CT hr (pa_cons (pv 1) (pa_cons pe_int pa_nil)))))
      (pss_cons (ps_asg (pe_tup (pa_cons (pc CF hr (pa_cons (pv 2) pa_nil)) (pa_cons (pc CO hr (pa_cons (pv 1) (pa_cons (pv 2) pa_nil))) (pa_cons (pc CO hr (pa_cons (pv 1) (pa_cons (pv 2) pa_nil))) pa_nil))))
        (pg_tup rfl (pgs_cons (pg_name (i := 3) sc_law.nd rfl (.inl rfl)) (pgs_cons (pg_name (i := 4) sc_law.nd rfl (.inr rfl)) (pgs_cons (pg_name (i := 5) sc_law.nd rfl (.inr rfl)) pgs_nil)))))
      (pss_cons (ps_set (i := 6) sc_law.nd rfl (.inr rfl) (pc CT hr (pa_cons (pv 1) (pa_cons (pv 2) pa_nil))))
      (pss_cons (ps_setLc (i := 7) (own := [("spot", 18)]) (g := gName 18) (tt := tYes) rfl sc_law.nd rfl rfl (sw_true rfl rfl rfl (by decide +kernel)) (pi_range1 (by rfl) B.range (pa_cons (pv 2) pa_nil))
        (blkOk_by (N := NL) (sc := defScope st_law) (by decide +kernel)) (fun _ _ _ _ _ => pg_name (i := 18) sc_law.nd rfl (Or.inl rfl)) (fun _ _ _ _ _ => pts_nil) (fun _ _ _ _ _ => pe_tidxF (pv 4) (pv 18)))
      (pss_cons (ps_set (i := 8) sc_law.nd rfl (.inl rfl) (pe_op op_cat (pe_op op_cat (pe_lst (pa_cons (pe_ix ix_list (pv 7) (pv 6) (fun _ _ => rfl)) pa_nil)) (pe_slice sl_list (pv 7) po_none (po_some (pv 6)))) (pe_slice sl_list (pv 7) (po_some (pe_op op_add (pv 6) pe_int)) po_none)))
      (pss_cons (ps_set (i := 9) sc_law.nd rfl (.inr rfl) (pc CM hr (pa_cons (pv 3) (pa_cons (pv 4) (pa_cons (pv 6) pa_nil)))))
      (pss_cons (ps_if (pt_cmpR (op_neD hr.units) (pe_lc (own := [("spot", 18)]) (g := gName 18) (tt := tYes) rfl sc_law.nd (pi_range1 (by rfl) B.range (pa_cons (pv 2) pa_nil)) (blkOk_by (N := NL) (sc := defScope st_law) (by decide +kernel))
          (fun _ _ _ _ _ => pg_name (i := 18) sc_law.nd rfl (Or.inl rfl)) (fun _ _ _ _ _ => pts_nil) (fun _ _ _ _ _ => pe_tidxF (pv 9) (pv 18))) (pv 8) (nomark _)) (pss_one (ps_ret pe_bl)) pss_nil)
      (pss_cons (ps_par (i := 10) (j := 11) rfl sc_law.nd rfl rfl (by decide) rfl rfl (pa_cons (pe_lc (own := [("spot", 18)]) (g := gName 18) (tt := tYes) rfl sc_law.nd (pi_range1 (by rfl) B.range (pa_cons (pv 2) pa_nil)) (blkOk_by (N := NL) (sc := defScope st_law) (by decide +kernel))
          (fun _ _ _ _ _ => pg_name (i := 18) sc_law.nd rfl (Or.inl rfl)) (fun _ _ _ _ _ => pts_nil) (fun _ _ _ _ _ => pe_tidxF (pv 5) (pv 18))) (pa_cons pe_int pa_nil)) rfl)
      (pss_cons (ps_for PassesOwn.never rfl (pi_range1 (by rfl) B.range (pa_cons (pe_op op_add (pv 2) pe_int) pa_nil)) (pg_name (i := 12) sc_law.nd rfl (.inl rfl))
        (pss_cons (ps_setLc (i := 13) (own := [("name", 19)]) (g := gName 19) (tt := tYes) rfl sc_law.nd rfl rfl (sw_true rfl rfl rfl (by decide +kernel)) (pi_list (pe_slice sl_list (pv 10) (po_some (pe_op op_sub (pv 2) (pv 12))) po_none))
          (blkOk_by (N := NL) (sc := defScope st_law) (by decide +kernel)) (fun _ _ _ _ _ => pg_name (i := 19) sc_law.nd rfl (Or.inl rfl)) (fun _ _ _ _ _ => pts_nil) (fun _ _ _ _ _ => pe_ix (ixT K) (pv 4) (pv 19) (fun _ _ => rfl)))
        (pss_one (ps_if (pt_cmpR (op_eqD hr.units) (pv 13) (pe_callB cr_sorted (by rfl) B.sorted (by decide +kernel) (pa_cons (pv 13) pa_nil)) (nomark _))
          (pss_one (ps_set (i := 11) sc_law.nd rfl (.inl rfl) (pe_callB (call_max2 rfl) (by rfl) B.max (by decide +kernel) (pa_cons (pv 11) (pa_cons (pv 12) pa_nil))))) pss_nil))))
      (pss_cons (ps_if (pt_cmpR op_ne (pc CD hr (pa_cons (pv 3) (pa_cons (pv 4) (pa_cons (pv 5) pa_nil)))) (pe_op op_sub (pv 2) (pv 11)) (nomark _)) (pss_one (ps_ret pe_bl)) pss_nil)
      (pss_cons (ps_set (i := 14) sc_law.nd rfl (.inl rfl) pe_int)
      (pss_cons (ps_for PassesOwn.never rfl (pi_range2 (by rfl) B.range (pa_cons pe_int (pa_cons (pe_op op_add (pv 2) pe_int) pa_nil))) (pg_name (i := 15) sc_law.nd rfl (.inl rfl))
        (pss_one (ps_set (i := 14) sc_law.nd rfl (.inl rfl) (pe_op op_mul (pv 14) (pv 15)))))
      (pss_cons (ps_if (pt_cmpR (op_neD hr.units) (pe_lst (pa_cons (pc CR hr (pa_cons (pv 3) pa_nil)) (pa_cons (pc CR hr (pa_cons (pc CN hr (pa_cons (pv 2) pa_nil)) pa_nil)) (pa_cons (pc CR hr (pa_cons (pc CU hr (pa_cons (pv 2) pa_nil)) pa_nil)) pa_nil))))
          (pe_lst (pa_cons (pv 14) (pa_cons (pv 14) (pa_cons (pv 2) pa_nil)))) (nomark _)) (pss_one (ps_ret pe_bl)) pss_nil)
      (pss_cons (ps_if (pt_cmpR op_ne (pc CA hr (pa_cons (pv 3) (pa_cons (pv 4) pa_nil))) (pe_op op_sub (pv 2) pe_int) (nomark _)) (pss_one (ps_ret pe_bl)) pss_nil)
      (pss_cons (ps_set (i := 16) sc_law.nd rfl (.inr rfl) (pc CM hr (pa_cons (pc CN hr (pa_cons (pv 2) pa_nil)) (pa_cons (pv 4) (pa_cons (pv 6) pa_nil)))))
      (pss_cons (ps_setLc (i := 7) (own := [("spot", 18)]) (g := gName 18) (tt := tYes) rfl sc_law.nd rfl rfl (sw_true rfl rfl rfl (by decide +kernel)) (pi_range1 (by rfl) B.range (pa_cons (pv 2) pa_nil))
        (blkOk_by (N := NL) (sc := defScope st_law) (by decide +kernel)) (fun _ _ _ _ _ => pg_name (i := 18) sc_law.nd rfl (Or.inl rfl)) (fun _ _ _ _ _ => pts_nil) (fun _ _ _ _ _ => pe_tidxF (pv 4) (pv 18)))
      (pss_cons (ps_if (pt_cmpR op_gt (pv 6) pe_int (nomark _))
        (pss_one (ps_asg (pe_tup (pa_cons (pe_ix ix_list (pv 7) (pe_op op_sub (pv 6) pe_int) (fun _ _ => rfl)) (pa_cons (pe_ix ix_list (pv 7) (pv 6) (fun _ _ => rfl)) pa_nil)))
          (pg_tup rfl (pgs_cons (pg_sub (pv 7) (pv 6) set_list) (pgs_cons (pg_sub (pv 7) (pe_op op_sub (pv 6) pe_int) set_list) pgs_nil))))) pss_nil)
      (pss_cons (ps_if (pt_cmpR (op_neD hr.units) (pe_lc (own := [("spot", 18)]) (g := gName 18) (tt := tYes) rfl sc_law.nd (pi_range1 (by rfl) B.range (pa_cons (pv 2) pa_nil)) (blkOk_by (N := NL) (sc := defScope st_law) (by decide +kernel))
          (fun _ _ _ _ _ => pg_name (i := 18) sc_law.nd rfl (Or.inl rfl)) (fun _ _ _ _ _ => pts_nil) (fun _ _ _ _ _ => pe_tidxF (pv 16) (pv 18))) (pv 7) (nomark _)) (pss_one (ps_ret pe_bl)) pss_nil)
      (pss_cons (ps_set (i := 17) sc_law.nd rfl (.inl rfl) (pc CM hr (pa_cons (pc CU hr (pa_cons (pv 2) pa_nil)) (pa_cons (pv 4) (pa_cons (pv 6) pa_nil)))))
      (pss_one (ps_ret (pe_cmpR (op_eqD hr.units) (pv 17) (pe_tupleOf (by rfl) B.tuple (pe_lc (own := [("stands", 20)]) (g := gName 20) (tt := tYes) rfl sc_law.nd (pi_tup (pv 4)) (blkOk_by (N := NL) (sc := defScope st_law) (by decide +kernel))
          (fun _ _ _ _ _ => pg_name (i := 20) sc_law.nd rfl (Or.inl rfl)) (fun _ _ _ _ _ => pts_nil) (fun _ _ _ _ _ => pe_op op_mod (pe_callTy call_int1 (by rfl) B.int (by decide +kernel) (pa_cons (pe_op op_add (pv 20) (pv 6)) pa_nil)) (pv 2)))) (nomark _))))))))))))))))))))))), ?_⟩
    have lf := law_facts
    have hk := habits_ok
    -- row, places
    refine ⟨_, rfl, by show 4 ≤ sizeLine; decide, fun p hp => ?_⟩
    have hR1 : Row K (upd H p (.lst [.ref a, .int 0, .int 5003, .int 0])) p := ⟨a, scr, 0, 5003, 0, upd_same, hZ.on (Fix.same (same_new hp)), Int.le_refl _⟩
    have tb1 : Tabs T (upd H p (.lst [.ref a, .int 0, .int 5003, .int 0])) := tabs_same hTb (same_new hp)
    refine ⟨_, rfl, p, 4, rfl, hR1, by decide, by decide, fun k H2 k0 k1 hB2 hR2 => ⟨2, k, rfl, rfl, ?_⟩⟩
    have tb2 : Tabs T H2 := (hR1.fix hB2).tabs tb1
    obtain ⟨n, hn⟩ : ∃ n : Nat, 2 + k = (n : Int) := ⟨(2 + k).toNat, by omega⟩
    show gName 2 (V.int (2 + k)) _ _ _
    rw [hn]
    have n2 : 2 ≤ n := by omega
    have n5 : n ≤ 5 := by omega
    obtain ⟨lf1, lf2, lf3, lf4⟩ := lf n (by omega) n2
    obtain ⟨hk1, hk2, hk3, hk4, hk5, hk6⟩ := hk n (by omega) n2
    have hbF : Hb n (frontH n) := hb_of n2 n5 hk1 hk4
    have hbN : Hb n (neighH n) := hb_of n2 n5 hk2 hk5
    have hbU : Hb n (turnH n) := hb_of n2 n5 hk3 hk6
    clear lf hk
    -- habit, layout, other
    refine ⟨_, rfl, n, rfl, n2, n5, fun vH H3 s3 hT3 => ?_⟩
    have hR3 := hR2.same s3
    refine ⟨_, rfl, _, rfl, p, n, rfl, hR3, by omega, fun H4 qL L hpL hB4 hR4 _ fL4 => ⟨_, rfl, _, rfl, p, n, rfl, hR4, by omega, fun H5 qO O hpO hB5 hR5 _ fO5 => ⟨by show 3 ≤ sizeLine; decide, fun t ht => ?_⟩⟩⟩
    have s6 := same_new (o := .tup [vH, .ref qL, .ref qO]) ht
    refine ⟨t, _, rfl, tupAt upd_same, rfl, _, _, rfl, _, _, rfl, _, _, rfl, rfl, ?_⟩
    have hR6 := hR5.same s6
    -- place
    refine ⟨_, rfl, _, rfl, p, n, rfl, hR6, by omega, by omega, fun pl H7 pl0 pl1 hB7 hR7 => ?_⟩
    obtain ⟨pn, rfl⟩ : ∃ pn : Nat, pl = (pn : Int) := ⟨pl.toNat, by omega⟩
    have hpn : pn < n := by omega
    have f34 := hR3.fix hB4
    have f45 := hR4.fix hB5
    have f67 := hR6.fix hB7
    have f57 := (Fix.same s6).trans f67
    have hT7 : TII K H7 vH (frontH n) := hT3.on (f34.trans (f45.trans f57)).tups
    have fL7 : FT H7 qL L := (fL4.fix f45).fix f57
    have fO7 : FT H7 qO O := fO5.fix f57
    have tb7 : Tabs T H7 := (f34.trans (f45.trans f57)).tabs (tabs_same tb2 s3)
    have facts := (List.all_eq_true.mp (List.all_eq_true.mp lf1 L (mem_prm.mpr hpL)) pn (List.mem_range.mpr hpn))
    simp only [Bool.and_eq_true, decide_eq_true_eq] at facts
    obtain ⟨⟨fa1, fa2⟩, fa3⟩ := facts
    clear hR1 tb1 hB2 hR2 tb2 hT3 s3 hR3 fL4 hB4 hR4 fO5 hB5 hR5 s6 hR6 f34 f45 f67 f57 hB7 hZ hTb
    -- books
    have hbl : (invL n L).length = n := invL_len n L
    have hpnI : InR n (pn : Int) := ⟨by omega, by omega⟩
    refine gName_go ?_
    dsimp only
    refine seqAsg_go ?_
    refine idx_lc (n := n) (j := 4) (w := L) (by rfl) (by rfl) (by decide) (by show 18 < 21; decide) n5 fL7 hpL fun D H8 hD s8 eD8 => ?_
    -- moved
    have ll : ((invL n L).map V.int).length = n := by rw [List.length_map, hbl]
    refine ⟨_, rfl, _, rfl, D, _, (pn : Int), .int ((invL n L).getD pn 0), rfl, rfl, lstAt eD8, at_int (by omega) (at_map (by rw [Int.toNat_natCast]; exact get_getD (by omega))), by show 1 ≤ sizeLine; decide, fun a1 h1 => ?_⟩
    have q1 := same_new (o := .lst [.int ((invL n L).getD pn 0)]) h1
    refine ⟨_, rfl, _, rfl, (pn : Int), rfl, D, _, rfl, lstAt (q1 _ _ eD8), fun a2 h2 => ?_⟩
    rw [cut_to] at *
    have q2 := same_new (o := .lst (((invL n L).map V.int).take pn)) h2
    refine ⟨a1, a2, _, _, rfl, rfl, q2 _ _ upd_same, upd_same, by rw [List.length_take, ll]; exact Nat.le_of_lt (small1000 (by show 1 + min pn n ≤ 1000; omega)), fun a3 h3 => ?_⟩
    have q3 := same_new (o := .lst ([.int ((invL n L).getD pn 0)] ++ ((invL n L).map V.int).take pn)) h3
    refine ⟨_, rfl, _, rfl, (pn : Int), 1, rfl, rfl, (pn : Int) + 1, rfl, D, _, rfl, lstAt (q3 _ _ (q2 _ _ (q1 _ _ eD8))), fun a4 h4 => ?_⟩
    have ec : cutV ((invL n L).map V.int) (some ((pn : Int) + 1)) none = ((invL n L).map V.int).drop (pn + 1) := cut_from _ (pn + 1)
    have q4 := same_new (o := .lst (cutV ((invL n L).map V.int) (some ((pn : Int) + 1)) none)) h4
    refine ⟨a3, a4, _, _, rfl, rfl, q4 _ _ upd_same, upd_same, by rw [ec, List.length_append, List.length_take, List.length_drop, ll]; exact Nat.le_of_lt (small1000 (by show 1 + min pn n + (n - (pn + 1)) ≤ 1000; omega)), fun a5 h5 => ?_⟩
    have em : (upd (upd (upd (upd (upd H8 a1 (.lst [.int ((invL n L).getD pn 0)])) a2 (.lst (((invL n L).map V.int).take pn))) a3 (.lst ([.int ((invL n L).getD pn 0)] ++ ((invL n L).map V.int).take pn))) a4 (.lst (cutV ((invL n L).map V.int) (some ((pn : Int) + 1)) none))) a5
        (.lst (([.int ((invL n L).getD pn 0)] ++ ((invL n L).map V.int).take pn) ++ cutV ((invL n L).map V.int) (some ((pn : Int) + 1)) none))) a5 = some (.lst ((movedOf (invL n L) pn).map V.int)) := by
      rw [upd_same, ec]
      unfold movedOf
      rw [List.map_append, List.map_append, List.map_take, List.map_drop]
      rfl
    have q5 := q1.trans (q2.trans (q3.trans (q4.trans (same_new (o := .lst (([.int ((invL n L).getD pn 0)] ++ ((invL n L).map V.int).take pn) ++ cutV ((invL n L).map V.int) (some ((pn : Int) + 1)) none)) h5))))
    generalize (upd (upd (upd (upd (upd H8 a1 (.lst [.int ((invL n L).getD pn 0)])) a2 (.lst (((invL n L).map V.int).take pn))) a3 (.lst ([.int ((invL n L).getD pn 0)] ++ ((invL n L).map V.int).take pn))) a4 (.lst (cutV ((invL n L).map V.int) (some ((pn : Int) + 1)) none))) a5
        (.lst (([.int ((invL n L).getD pn 0)] ++ ((invL n L).map V.int).take pn) ++ cutV ((invL n L).map V.int) (some ((pn : Int) + 1)) none))) = H9 at *
    have s9 := s8.trans q5
    -- found
    refine ⟨_, rfl, _, rfl, _, rfl, vH, frontH n, n, qL, L, (pn : Int), rfl, hT7.on (Same.tups s9), hbF, (fL7.same s9).sq, hpL, hpnI, fun H10 qF s10 fF => ?_⟩
    have s910 := s9.trans s10
    refine gName_go ?_
    try dsimp only
    refine seqIf_go ?_
    refine idx_lc (n := n) (j := 9) (by rfl) (by rfl) (by decide) (by show 18 < 21; decide) n5 fF (stp_perm hbF hpnI hpL) fun D2 H11 hD2 s11 eD2 => ?_
    refine ⟨_, rfl, _, _, dp_lst (ns := invL n (stp (frontH n) (pn : Int) L)) (lstAt eD2), dp_lst (ns := movedOf (invL n L) pn) (lstAt (s11 _ _ (s10 _ _ em))), PySem.W.ke_shaped_ints _, PySem.W.ke_shaped_ints _, _, rfl, ifF ?_ ?_⟩
    · rw [eqv_lst, fa1, decide_eq_true rfl]
      rfl
    have s11b := s910.trans s11
    -- last, kept
    refine next_go ?_
    refine seqPar_go ?_
    refine idx_lc (n := n) (j := 5) (w := O) (by rfl) (by rfl) (by decide) (by show 18 < 21; decide) n5 (fO7.same s11b) hpO fun D3 H13 hD3 s13 eD3 => ⟨_, _, rfl, ?_⟩
    have s13b := s11b.trans s13
    have lO : (invL n O).length = n := invL_len n O
    -- the longest kept end
    refine ⟨_, rfl, (n : Int), 1, rfl, rfl, (n : Int) + 1, rfl, by omega, by omega, ?_⟩
    rw [show ((n : Int) + 1).toNat = n + 1 from by omega]
    refine for_range (lo := 0) (n := n + 1) (fun m σ H' => Same H13 H' ∧ ∃ y12 y13, σ = [some (.ref a), some (.ref p), some (.int n), some vH, some (.ref qL), some (.ref qO), some (.int pn), some (.ref D), some (.ref a5), some (.ref qF), some (.ref D3), some (.int (keptI n ((invL n O).map fun x => L.getD x.toNat 0) m : Nat)), y12, y13, none, none, none, none, none, none, none])
      ⟨Same.refl H13, none, none, rfl⟩ (fun m σ H' hm h' => ?_) (fun σ H14 h' => ?_)
    · obtain ⟨sm, y12, y13, rfl⟩ := h'
      rw [Int.zero_add]
      have eD3' := sm _ _ eD3
      have enm : (n : Int) - (m : Int) = ((n - m : Nat) : Int) := by omega
      refine ⟨_, rfl, _, rfl, _, rfl, (n : Int), (m : Int), rfl, rfl, (n : Int) - (m : Int), rfl, D3, _, rfl, lstAt eD3', fun b hb => ?_⟩
      have ec : cutV ((invL n O).map V.int) (some ((n : Int) - (m : Int))) none = ((invL n O).drop (n - m)).map V.int := by
        rw [enm, cut_from, List.map_drop]
      rw [ec]
      have sb := same_new (o := .lst (((invL n O).drop (n - m)).map V.int)) hb
      have smb := (s13b.trans sm).trans sb
      refine ⟨b, rfl, ⟨_, lstAt upd_same⟩, fun D4 hD4 => ?_⟩
      refine lc_list (xs := ((invL n O).drop (n - m)).map V.int) (fun i H2 => Same (upd H' b (.lst (((invL n O).drop (n - m)).map V.int))) H2 ∧ H2 D4 = some (.lst (((((invL n O).drop (n - m)).take i).map fun x => L.getD x.toNat 0).map V.int))) ⟨same_new hD4, upd_same⟩
        (fun i H2 _ h2 => lstAt (h2.1 _ _ upd_same)) (fun i x H2 hx h2 => ?_) (fun H2 h2 => ?_)
      · obtain ⟨sm2, eD4⟩ := h2
        obtain ⟨xi, hxi, rfl⟩ := map_at hx
        have hxr : InR n xi := invL_in hpO (List.mem_of_mem_drop (List.mem_of_getElem? hxi))
        have hget : L[xi.toNat]? = some (L.getD xi.toNat 0) := get_getD (by rw [perm_len hpL]; have := hxr.1; have := hxr.2; omega)
        refine ⟨rfl, _, rfl, _, rfl, qL, _, xi, .int (L.getD xi.toNat 0), rfl, rfl, ((fL7.same smb).same sm2).sq, at_int hxr.1 (at_map hget), _, eD4, ?_, ?_, ?_⟩
        · rw [List.length_map, List.length_map, List.length_take, List.length_drop]
          exact small1000 (by omega)
        · intro c o e
          rw [upd_ne (ne_of_none e hD4)]
          exact sm2 c o e
        · rw [upd_same, take_more hxi, List.map_append, List.map_append]
          rfl
      · obtain ⟨sm2, eD4⟩ := h2
        rw [List.length_map, List.take_length] at eD4
        have etail : (((invL n O).drop (n - m)).map fun x => L.getD x.toNat 0) = (((invL n O).map fun x => L.getD x.toNat 0)).drop (n - m) := List.map_drop ..
        rw [etail] at eD4
        have hk1 := kept_more n ((invL n O).map fun x => L.getD x.toNat 0) m
        have ltail : (((invL n O).map fun x => L.getD x.toNat 0).drop (n - m)).length ≤ 5 := by
          rw [List.length_drop, List.length_map, lO]
          omega
        generalize htl : ((invL n O).map fun x => L.getD x.toNat 0).drop (n - m) = tl at *
        refine gName_go ?_
        try dsimp only
        refine ⟨_, rfl, _, rfl, D4, tl, rfl, lstAt eD4, by omega, fun ns' pL hpm hpw nL => ⟨_, _, dp_lst (ns := tl) (lstAt (same_new nL _ _ eD4)), dp_lst (ns := ns') (lstAt upd_same), PySem.W.ke_shaped_ints _, PySem.W.ke_shaped_ints _, _, rfl, ?_⟩⟩
        have smF : Same H13 (upd H2 pL (.lst (ns'.map V.int))) := sm.trans (sb.trans (sm2.trans (same_new nL)))
        have es : decide (tl = ns') = sortedB tl := by
          rw [Bool.eq_iff_iff, decide_eq_true_iff, sorted_iff]
          constructor
          · intro e
            rw [e]
            exact hpw
          · intro e
            exact PySem.W.ksm_same hpm.symm e hpw
        rw [eqv_lst, es]
        refine ite2 (fun e => ?_) (fun e => ?_)
        · refine ⟨_, rfl, _, rfl, ((keptI n ((invL n O).map fun x => L.getD x.toNat 0) m : Nat) : Int), (m : Int), rfl, smF, some (.int (m : Int)), some (.ref D4), ?_⟩
          rw [max_int, hk1, if_pos e]
          rfl
        · refine ⟨smF, some (.int (m : Int)), some (.ref D4), ?_⟩
          rw [hk1, if_neg e]
          rfl
    obtain ⟨s14, y12, y13, rfl⟩ := h'
    have s14b := s13b.trans s14
    -- distance
    have GF := grf_front n2 n5 hpL
    have hOU : O ∈ (prm (rg n)).map fun w => comp w L := List.mem_map.mpr ⟨rel n L O, mem_prm.mpr (rel_perm hpL hpO), comp_rel hpL (perm_len hpO)⟩
    refine ⟨_, rfl, _, rfl, _, rfl, vH, frontH n, n, qL, qO, L, O, _, _, _, rfl, hT7.on (Same.tups s14b), hbF, (fL7.same s14b).kx, (fO7.same s14b).kx, hpL, hpO, tabs_same tb7 s14b, GF, hOU, by omega, fun H15 ex15 tb15 => ⟨_, rfl, _, rfl, (n : Int), _, rfl, rfl, rfl, _, rfl, ifF ?_ ?_⟩⟩
    · have hle := kept_le n ((invL n O).map fun x => L.getD x.toNat 0) (n + 1) (Nat.le_refl _)
      have hd : ((depF n (rel n L O) : Nat) : Int) = (n : Int) - ((keptI n ((invL n O).map fun x => L.getD x.toNat 0) (n + 1) : Nat) : Int) := by
        unfold depF
        rw [inv_rel hpL hpO]
        omega
      rw [hd]
      simp
    have ex15b : ExtN H7 H15 := (extN_same s14b).trans ex15
    refine next_go ?_
    -- how many
    refine ⟨_, rfl, (n : Int), 1, rfl, rfl, 2, (n : Int) + 1, rfl, ⟨by omega, by omega, by omega, by omega⟩, ?_⟩
    rw [show ((n : Int) + 1 - 2).toNat = n - 1 from by omega]
    refine for_range (lo := 2) (n := n - 1) (fun i σ H' => H' = H15 ∧ ∃ y15, σ = [some (.ref a), some (.ref p), some (.int n), some vH, some (.ref qL), some (.ref qO), some (.int pn), some (.ref D), some (.ref a5), some (.ref qF), some (.ref D3), some (.int (keptI n ((invL n O).map fun x => L.getD x.toNat 0) (n + 1) : Nat)), y12, y13, some (.int (tot i : Nat)), y15, none, none, none, none, none]) ⟨rfl, none, rfl⟩ (fun i σ H' hi h' => ?_) (fun σ H' h' => ?_)
    · obtain ⟨rfl, y15, rfl⟩ := h'
      refine ⟨_, rfl, _, rfl, ((tot i : Nat) : Int), (2 : Int) + (i : Int), rfl, rfl, .inr ⟨by omega, by omega⟩, rfl, some (.int ((2 : Int) + (i : Int))), ?_⟩
      show (_ : L2.St) = _
      have et : ((tot i : Nat) : Int) * ((2 : Int) + (i : Int)) = ((tot (i + 1) : Nat) : Int) := by
        show _ = ((tot i * (2 + i) : Nat) : Int)
        rw [Int.natCast_mul, Int.natCast_add]
        rfl
      rw [← et]
      rfl
    obtain ⟨rfl, y15, rfl⟩ := h'
    have GF0 := grf_front n2 n5 (List.Perm.refl (rg n))
    have GN0 := grf_neigh n2 n5 (List.Perm.refl (rg n))
    have GU0 := grf_turn n2 n5 (List.Perm.refl (rg n))
    try dsimp only
    refine seqIf_go ?_
    refine ⟨_, rfl, vH, frontH n, n, _, _, _, rfl, hT7.on (extN_tups (K := K) ex15b), hbF, tb15, GF0, fun H16 ex16 tb16 => ?_⟩
    refine ⟨_, rfl, n, rfl, n2, n5, fun vN H17 s17 hTN => ⟨vN, neighH n, n, _, _, _, rfl, hTN, hbN, tabs_same tb16 s17, GN0, fun H18 ex18 tb18 => ?_⟩⟩
    refine ⟨_, rfl, n, rfl, n2, n5, fun vU H19 s19 hTU => ⟨vU, turnH n, n, _, _, _, rfl, hTU, hbU, tabs_same tb18 s19, GU0, fun H20 ex20 tb20 => ⟨by show 3 ≤ sizeLine; decide, fun b1 hb1 => ?_⟩⟩⟩
    rw [List.length_map, List.length_map, lf2, lf3] at *
    have sb1 := same_new (o := .lst [.int (tot (n - 1) : Nat), .int (tot (n - 1) : Nat), .int (n : Nat)]) hb1
    refine ⟨_, rfl, _, rfl, _, rfl, by show 3 ≤ sizeLine; decide, fun b2 hb2 => ?_⟩
    have sb2 := same_new (o := .lst [.int (tot (n - 1) : Nat), .int (tot (n - 1) : Nat), .int (n : Int)]) hb2
    refine ⟨_, _, dp_lst (ns := [((tot (n - 1) : Nat) : Int), ((tot (n - 1) : Nat) : Int), (n : Int)]) (lstAt (sb2 _ _ upd_same)), dp_lst (ns := [((tot (n - 1) : Nat) : Int), ((tot (n - 1) : Nat) : Int), (n : Int)]) (lstAt upd_same), PySem.W.ke_shaped_ints _, PySem.W.ke_shaped_ints _, _, rfl, ifF ?_ ?_⟩
    · rw [eqv_lst, decide_eq_true rfl]
      rfl
    have sbb := sb1.trans sb2
    have ex20b : ExtN H7 _ := ex15b.trans (ex16.trans ((extN_same s17).trans (ex18.trans ((extN_same s19).trans (ex20.trans (extN_same sbb))))))
    have tb20b := tabs_same tb20 sbb
    generalize (upd (upd H20 b1 (.lst [.int (tot (n - 1) : Nat), .int (tot (n - 1) : Nat), .int (n : Nat)])) b2 (.lst [.int (tot (n - 1) : Nat), .int (tot (n - 1) : Nat), .int (n : Int)])) = HX at *
    -- farthest
    have hfar : ∃ s ∈ (prm (rg n)).map fun w => comp w L, depF n (rel n L s) = n - 1 := by
      obtain ⟨w0, hw0, ew0⟩ := List.any_eq_true.mp lf4
      exact ⟨comp w0 L, List.mem_map.mpr ⟨w0, hw0, rfl⟩, by rw [rel_comp hpL (perm_len (mem_prm.mp hw0))]; exact of_decide_eq_true ew0⟩
    refine next_go ?_
    try dsimp only
    refine seqIf_go ?_
    refine ⟨_, rfl, _, rfl, vH, frontH n, n, qL, L, _, _, _, rfl, hT7.on (extN_tups (K := K) ex20b), hbF, (fL7.ext ex20b).kx, hpL, tb20b, GF, hfar, fun H21 ex21 tb21 => ⟨_, rfl, (n : Int), 1, rfl, rfl, rfl, _, rfl, ifF ?_ ?_⟩⟩
    · rw [show ((n - 1 : Nat) : Int) = (n : Int) - 1 from by omega]
      simp
    have ex21b := ex20b.trans ex21
    -- near
    refine ⟨_, rfl, n, rfl, n2, n5, fun vN2 H22 s22 hTN2 => ?_⟩
    have ex22 := ex21b.trans (extN_same s22)
    refine ⟨_, rfl, _, rfl, vN2, neighH n, n, qL, L, (pn : Int), rfl, hTN2, hbN, (fL7.ext ex22).sq, hpL, hpnI, fun H23 qN s23 fN => ?_⟩
    have ex23 := ex22.trans (extN_same s23)
    refine gName_go ?_
    try dsimp only
    refine seqAsg_go ?_
    refine idx_lc (n := n) (j := 4) (w := L) (by rfl) (by rfl) (by decide) (by show 18 < 21; decide) n5 (fL7.ext ex23) hpL fun D5 H24 hD5 s24 eD5 => ?_
    have ex24 := ex23.trans (extN_same s24)
    have fN24 := fN.same s24
    refine ⟨_, rfl, (pn : Int), 0, rfl, rfl, _, rfl, ite2 (fun e => ?_) (fun e => ?_)⟩
    · have ll2 : ((invL n L).map V.int).length = n := by rw [List.length_map, invL_len]
      have hp0 : 0 < pn := by
        have : (pn : Int) > 0 := by simpa using e
        omega
      have sub1 : (pn : Int) - 1 = ((pn - 1 : Nat) : Int) := by omega
      have ix1 : ixN ((invL n L).map V.int).length ((pn : Int)) = some pn := by
        have := ixN_int (n := ((invL n L).map V.int).length) (k := (pn : Int)) (by omega) (by omega)
        exact this
      refine ⟨_, rfl, _, rfl, (pn : Int), 1, rfl, rfl, D5, _, (pn : Int) - 1, .int ((invL n L).getD (pn - 1) 0), rfl, rfl, lstAt eD5, at_int (by omega) (at_map (by rw [sub1, Int.toNat_natCast]; exact get_getD (by omega))), ?_⟩
      refine ⟨_, rfl, _, rfl, D5, _, (pn : Int), .int ((invL n L).getD pn 0), rfl, rfl, lstAt eD5, at_int (by omega) (at_map (by rw [Int.toNat_natCast]; exact get_getD (by omega))), by show 2 ≤ sizeLine; decide, fun tt htt => ?_⟩
      have sT := same_new (o := .tup [.int ((invL n L).getD (pn - 1) 0), .int ((invL n L).getD pn 0)]) htt
      refine ⟨tt, _, rfl, tupAt upd_same, rfl, _, _, rfl, _, rfl, _, rfl, D5, _, (pn : Int), pn, rfl, rfl, sT _ _ eD5, ix1, ?_⟩
      refine ⟨_, _, rfl, _, rfl, _, rfl, (pn : Int), 1, rfl, rfl, D5, _, (pn : Int) - 1, pn - 1, rfl, rfl, upd_same, ?_, rfl, ?_⟩
      · have := ixN_int (n := (((invL n L).map V.int).set pn (.int ((invL n L).getD (pn - 1) 0))).length) (k := (pn : Int) - 1) (by omega) (by rw [List.length_set]; omega)
        rw [this, sub1]
        rfl
      have et : (((invL n L).map V.int).set pn (.int ((invL n L).getD (pn - 1) 0))).set (pn - 1) (.int ((invL n L).getD pn 0)) = (swapOf (invL n L) pn).map V.int := by
        unfold swapOf
        rw [if_pos hp0, List.map_set, List.map_set]
      rw [et]
      have exSW : ExtN H7 (upd (upd (upd H24 tt (.tup [.int ((invL n L).getD (pn - 1) 0), .int ((invL n L).getD pn 0)])) D5 (.lst (((invL n L).map V.int).set pn (.int ((invL n L).getD (pn - 1) 0))))) D5 (.lst ((swapOf (invL n L) pn).map V.int))) := fun b o eb nb => by
        have hne : b ≠ D5 := ne_of_none (ex23 _ _ eb nb) hD5
        rw [upd_ne hne, upd_ne hne]
        exact sT _ _ (ex24 _ _ eb nb)
      have fNSW : FT (upd (upd (upd H24 tt (.tup [.int ((invL n L).getD (pn - 1) 0), .int ((invL n L).getD pn 0)])) D5 (.lst (((invL n L).map V.int).set pn (.int ((invL n L).getD (pn - 1) 0))))) D5 (.lst ((swapOf (invL n L) pn).map V.int))) qN (stp (neighH n) (pn : Int) L) := by
        obtain ⟨ob, g1, g2⟩ := fN24
        have hne : qN ≠ D5 := ne_of g1 eD5 (fun z => nomatch z)
        exact ⟨ob, by rw [upd_ne hne, upd_ne hne]; exact sT _ _ g1, g2⟩
      have eSW : (upd (upd (upd H24 tt (.tup [.int ((invL n L).getD (pn - 1) 0), .int ((invL n L).getD pn 0)])) D5 (.lst (((invL n L).map V.int).set pn (.int ((invL n L).getD (pn - 1) 0))))) D5 (.lst ((swapOf (invL n L) pn).map V.int))) D5 = some (.lst ((swapOf (invL n L) pn).map V.int)) := upd_same
      try dsimp only
      refine seqIf_go ?_
      refine idx_lc (n := n) (j := 16) (by rfl) (by rfl) (by decide) (by show 18 < 21; decide) n5 fNSW (stp_perm hbN hpnI hpL) fun D6 H27 hD6 s27 eD6 => ?_
      refine ⟨_, rfl, _, _, dp_lst (ns := invL n (stp (neighH n) (pn : Int) L)) (lstAt eD6), dp_lst (ns := swapOf (invL n L) pn) (lstAt (s27 _ _ eSW)), PySem.W.ke_shaped_ints _, PySem.W.ke_shaped_ints _, _, rfl, ifF ?_ ?_⟩
      · rw [eqv_lst, fa2, decide_eq_true rfl]
        rfl
      have ex27 := exSW.trans (extN_same s27)
      -- turned
      refine ⟨_, rfl, n, rfl, n2, n5, fun vU H28 s28 hTU => ?_⟩
      have ex28 := ex27.trans (extN_same s28)
      refine ⟨_, rfl, _, rfl, vU, turnH n, n, qL, L, (pn : Int), rfl, hTU, hbU, (fL7.ext ex28).sq, hpL, hpnI, fun H29 qT s29 fT => ?_⟩
      have ex29 := ex28.trans (extN_same s29)
      refine ⟨_, rfl, _, rfl, qL, rfl, ⟨_, (fL7.ext ex29).sq⟩, fun D7 hD7 => ?_⟩
      refine lc_tup (xs := L.map V.int) (fun i H' => Same H29 H' ∧ H' D7 = some (.lst (((L.take i).map fun s => (s + (pn : Int)) % (n : Int)).map V.int))) ⟨same_new hD7, upd_same⟩ (fun i H' _ h' => ((fL7.ext ex29).same h'.1).sq) (fun i x H' hx h' => ?_) (fun H' h' => ?_)
      · obtain ⟨sm, eD⟩ := h'
        obtain ⟨st, hst, rfl⟩ := map_at hx
        refine ⟨rfl, _, rfl, _, rfl, st, (pn : Int), rfl, rfl, .inl ⟨_, rfl, _, rfl, _, (n : Int), rfl, rfl, by omega, _, eD, ?_, ?_, ?_⟩⟩
        · rw [List.length_map, List.length_map, List.length_take, perm_len hpL]
          exact small1000 (by omega)
        · intro c o e
          rw [upd_ne (ne_of_none e hD7)]
          exact sm c o e
        · rw [upd_same, take_more hst, List.map_append, List.map_append]
          rfl
      · obtain ⟨sm, eD⟩ := h'
        rw [List.length_map, List.take_length] at eD
        refine .inl ⟨D7, _, rfl, lstAt eD, fun t2 ht2 => ?_⟩
        refine ⟨_, _, dp_tup (ns := stp (turnH n) (pn : Int) L) (.inl (TK.same (sm.trans (same_new ht2)) _ _ fT.kx)), dp_tup (ns := L.map fun s => (s + (pn : Int)) % (n : Int)) (tupAt upd_same), shaped_tup _, shaped_tup _, ?_⟩
        rw [eqv_tup, fa3, decide_eq_true rfl]
        exact q _
    · have hp0 : ¬ 0 < pn := by
        intro z
        apply e
        simp
        exact z
      have esw : swapOf (invL n L) pn = invL n L := if_neg hp0
      have exSW := ex24
      have eSW : H24 D5 = some (.lst ((swapOf (invL n L) pn).map V.int)) := by
        rw [esw]
        exact eD5
      refine next_go ?_
      try dsimp only
      refine seqIf_go ?_
      refine idx_lc (n := n) (j := 16) (by rfl) (by rfl) (by decide) (by show 18 < 21; decide) n5 fN24 (stp_perm hbN hpnI hpL) fun D6 H27 hD6 s27 eD6 => ?_
      refine ⟨_, rfl, _, _, dp_lst (ns := invL n (stp (neighH n) (pn : Int) L)) (lstAt eD6), dp_lst (ns := swapOf (invL n L) pn) (lstAt (s27 _ _ eSW)), PySem.W.ke_shaped_ints _, PySem.W.ke_shaped_ints _, _, rfl, ifF ?_ ?_⟩
      · rw [eqv_lst, fa2, decide_eq_true rfl]
        rfl
      have ex27 := exSW.trans (extN_same s27)
      -- turned
      refine ⟨_, rfl, n, rfl, n2, n5, fun vU H28 s28 hTU => ?_⟩
      have ex28 := ex27.trans (extN_same s28)
      refine ⟨_, rfl, _, rfl, vU, turnH n, n, qL, L, (pn : Int), rfl, hTU, hbU, (fL7.ext ex28).sq, hpL, hpnI, fun H29 qT s29 fT => ?_⟩
      have ex29 := ex28.trans (extN_same s29)
      refine ⟨_, rfl, _, rfl, qL, rfl, ⟨_, (fL7.ext ex29).sq⟩, fun D7 hD7 => ?_⟩
      refine lc_tup (xs := L.map V.int) (fun i H' => Same H29 H' ∧ H' D7 = some (.lst (((L.take i).map fun s => (s + (pn : Int)) % (n : Int)).map V.int))) ⟨same_new hD7, upd_same⟩ (fun i H' _ h' => ((fL7.ext ex29).same h'.1).sq) (fun i x H' hx h' => ?_) (fun H' h' => ?_)
      · obtain ⟨sm, eD⟩ := h'
        obtain ⟨st, hst, rfl⟩ := map_at hx
        refine ⟨rfl, _, rfl, _, rfl, st, (pn : Int), rfl, rfl, .inl ⟨_, rfl, _, rfl, _, (n : Int), rfl, rfl, by omega, _, eD, ?_, ?_, ?_⟩⟩
        · rw [List.length_map, List.length_map, List.length_take, perm_len hpL]
          exact small1000 (by omega)
        · intro c o e
          rw [upd_ne (ne_of_none e hD7)]
          exact sm c o e
        · rw [upd_same, take_more hst, List.map_append, List.map_append]
          rfl
      · obtain ⟨sm, eD⟩ := h'
        rw [List.length_map, List.take_length] at eD
        refine .inl ⟨D7, _, rfl, lstAt eD, fun t2 ht2 => ?_⟩
        refine ⟨_, _, dp_tup (ns := stp (turnH n) (pn : Int) L) (.inl (TK.same (sm.trans (same_new ht2)) _ _ fT.kx)), dp_tup (ns := L.map fun s => (s + (pn : Int)) % (n : Int)) (tupAt upd_same), shaped_tup _, shaped_tup _, ?_⟩
        rw [eqv_tup, fa3, decide_eq_true rfl]
        exact q _
end
end RH
set_option Elab.async false
set_option linter.all false
set_option maxRecDepth 100000
set_option maxHeartbeats 2000000
namespace RH
open PySem PySem.Spec PyProof.Rows L2
open LamX (Tabs TabS TabB ExtN CodeO codeO_ne)
/-! ### what the top has left -/
theorem df_mk {K : PySem.W.Frag} {h : Heap} {mg : Str → Option Value} (X : K.In h) (G : h.Ns mainGlobals mg) {x : Str} {st : Stmt} {ps : List Str} {f : Addr} {od an : Option Addr} {sl : Array (Option Value)} {oc kV dc pm cd ct : Value}
    (a : PySem.W.nsIn K mainGlobals x = some (some (.ref f))) (l : K.lookup f = some ⟨oc, od, .func (PySem.W.fnOf x x (defArgs st) (defBody st) (defScope st) .none kV dc pm an cd ct), sl⟩) (c : PySem.W.codeIn K cd x = true) (k : PySem.W.keepIn K (.ref f) = true)
    (b : ∀ (kV doc pm : Value) (an : Option Addr) (cdv ct : Value) (us : List Value), us.length = ps.length → bindArgs (PySem.W.fnOf x x (defArgs st) (defBody st) (defScope st) .none kV doc pm an cdv ct) ⟨us, []⟩ = pure (ps.zip us)) : Df K mg x st ps := by
  have F := fun_mk (st := st) l c k
  exact ⟨f, _, F, PySem.W.mg_of X G a, F.binds b⟩
theorem dfc_mk {K : PySem.W.Frag} {h : Heap} {mg : Str → Option Value} (X : K.In h) (G : h.Ns mainGlobals mg) {x : Str} {st : Stmt} {ps : List Str} {f c : Addr} {od an : Option Addr} {sl : Array (Option Value)} {oc kV dc pm ct : Value}
    (a : PySem.W.nsIn K mainGlobals x = some (some (.ref f))) (l : K.lookup f = some ⟨oc, od, .func (PySem.W.fnOf x x (defArgs st) (defBody st) (defScope st) .none kV dc pm an (.ref c) ct), sl⟩) (cc : PySem.W.codeIn K (.ref c) x = true) (k : PySem.W.keepIn K (.ref f) = true)
    (b : ∀ (kV doc pm : Value) (an : Option Addr) (cdv ct : Value) (us : List Value), us.length = ps.length → bindArgs (PySem.W.fnOf x x (defArgs st) (defBody st) (defScope st) .none kV doc pm an cdv ct) ⟨us, []⟩ = pure (ps.zip us)) : DfC K mg x st ps c := by
  have F := fun_mk (st := st) l cc k
  exact ⟨f, oc, od, kV, dc, pm, an, ct, sl, l, cc, k, PySem.W.mg_of X G a, F.binds b⟩
/-- where a code object's table stands -/
def tabOf (o : Obj) : Option Value := match o.data with
  | .fields vs => vs.toList[11]?
  | _ => none
/-- a maker: its code object, its table -/
structure Mkr (K : PySem.W.Frag) (h : Heap) (mg : Str → Option Value) (x : Str) (st : Stmt) (ps : List Str) (c p : Addr) : Prop where
  df : DfC K mg x st ps c
  hd : PySem.W.CodeHd h c p
  no : K.lookup p = none
  tab : h.get? p = some (PySem.W.tabObj #[])
theorem mkr {K : PySem.W.Frag} {h : Heap} {mg : Str → Option Value} (X : K.In h) (G : h.Ns mainGlobals mg) {x : Str} {st : Stmt} {ps : List Str} {f c p : Addr} {od an : Option Addr} {sl : Array (Option Value)} {oc kV dc pm ct : Value} {o : Obj}
    (a : PySem.W.nsIn K mainGlobals x = some (some (.ref f))) (l : K.lookup f = some ⟨oc, od, .func (PySem.W.fnOf x x (defArgs st) (defBody st) (defScope st) .none kV dc pm an (.ref c) ct), sl⟩) (cc : PySem.W.codeIn K (.ref c) x = true) (k : PySem.W.keepIn K (.ref f) = true)
    (lc : K.lookup c = some o) (t : tabOf o = some (.ref p)) (d : ∀ K' : PySem.W.Frag, K'.lookup c = some o → PySem.W.codeHdIn K' c p = true) (e : K.lookup p = none) (g : h.get? p = some (PySem.W.tabObj #[]))
    (b : ∀ (kV doc pm : Value) (an : Option Addr) (cdv ct : Value) (us : List Value), us.length = ps.length → bindArgs (PySem.W.fnOf x x (defArgs st) (defBody st) (defScope st) .none kV doc pm an cdv ct) ⟨us, []⟩ = pure (ps.zip us)) :
    Mkr K h mg x st ps c p := ⟨dfc_mk X G a l cc k b, PySem.W.codeHd_of_K X (d K lc), e, g⟩
theorem two {A B : Addr → Addr → Prop} {c p c2 p2 : Addr} (a : A c p) (b : B c2 p2) (n : (p != p2) = true) : ∃ c p c2 p2, A c p ∧ B c2 p2 ∧ p ≠ p2 := ⟨c, p, c2, p2, a, b, fun z => by
  rw [z] at n
  simp at n⟩
/-- the written part that is meant -/
abbrev kOf {K : PySem.W.Frag} {h : Heap} (_ : K.In h) : PySem.W.Frag := K
theorem const_mk {K : PySem.W.Frag} {h : Heap} {mg : Str → Option Value} (X : K.In h) (G : h.Ns mainGlobals mg) {x : Str} {i : Int} {t : Tok} (a : PySem.W.nsIn K mainGlobals x = some (some (.int i t))) : ∃ t, mg x = some (.int i t) := ⟨t, PySem.W.mg_of X G a⟩
/-- what the end asks of the law -/
def spEnd (K : PySem.W.Frag) (T : List (Addr × Str)) : Sp := fun vs H Q _ => ∃ (a : Addr) (ns : List Int), vs = [.ref a] ∧ SqL K H a (ns.map V.int) ∧ Tabs T H ∧ ∀ H', Q (.bl true) H'
/-- a list that no one writes may be told by its very object -/
theorem frozen {P : Program} {w : World} {K : PySem.W.Frag} {mg : Str → Option Value} {base : Heap} {k : Nat} {f : Addr} {fd : FuncData} {T : List (Addr × Str)} (F : FnOk P w K mg base CX0 k f fd ["script"] (spLaw K T)) : FnOk P w K mg base CX0 k f fd ["script"] (spEnd K T) := by
  refine ⟨fun vs H Q E h => ?_, fun A outer s H args us vs Q E hr e0 hb r h => ?_⟩
  · obtain ⟨a, ns, rfl, _⟩ := h
    rfl
  obtain ⟨a, ns, rfl, hS, hT, q⟩ := h
  rcases hS with (hS | ⟨o, hS⟩) | hS
  · obtain ⟨z, its, n, rv, ho⟩ := (show ObjOk P w H s.heap a (.lst (ns.map V.int)) from e0.hok a _ hS)
    have hne : ∀ b, H b = none ↔ upd H a (.frz { cls := .type "list", data := .seq its.toArray n } (.lst (ns.map V.int))) b = none := fun b => by
      by_cases e : b = a
      · subst e
        rw [hS, upd_same]
        exact ⟨fun z => (nomatch z), fun z => (nomatch z)⟩
      · rw [upd_ne e]
    have ext : ∀ b u, H b = some u → (∀ xs, u ≠ .lst xs) → upd H a (.frz { cls := .type "list", data := .seq its.toArray n } (.lst (ns.map V.int))) b = some u := fun b u e nu => by
      rw [upd_ne (fun z => by subst z; rw [hS] at e; exact nu _ (Option.some.inj e).symm)]
      exact e
    have hok : HOk P w (upd H a (.frz { cls := .type "list", data := .seq its.toArray n } (.lst (ns.map V.int)))) s.heap := fun b u e => by
      by_cases eb : b = a
      · subst eb
        rw [upd_same] at e
        cases e
        exact ⟨ho, z, its, n, rv, ho⟩
      · rw [upd_ne eb] at e
        exact (e0.hok b u e).stay (fun c v _ h => h) (fun c h => ext _ _ h (fun xs z => nomatch z)) (fun c xs h => ext _ _ h (fun xs z => nomatch z))
    have e1 : Env0 P w K mg base A outer s (upd H a (.frz { cls := .type "list", data := .seq its.toArray n } (.lst (ns.map V.int)))) :=
      ⟨e0.frames, e0.mod, fun b o e => ⟨(e0.bs b o e).1, (hne b).mp (e0.bs b o e).2⟩, e0.bsz, e0.funs, fun b h => (hne b).mp (e0.frf b h), hok, e0.bare⟩
    have hT1 : Tabs T (upd H a (.frz { cls := .type "list", data := .seq its.toArray n } (.lst (ns.map V.int)))) := Fix.tabs (fun b u e nu => ext b u e nu) hT
    refine codeAny_mono (F.run A outer s _ args us [.ref a] Q E hr e1 hb r ⟨a, ns, rfl, .inl ⟨_, upd_same⟩, hT1, q⟩) fun rr s' h => ?_
    cases rr with
    | error e => exact h
    | ok fl =>
      cases fl with
      | ret u =>
        obtain ⟨v, H', os, bare, un, hok', r', q'⟩ := h
        refine ⟨v, H', os, bare, ⟨fun b o e n => un.keep b o e ((hne b).mp n), fun b o e n => un.slot b o e ((hne b).mp n), fun b o e n => un.free b o e ((hne b).mp n), un.there, fun b xs e => un.tups b xs (ext b _ e (fun ys z => nomatch z)), fun b o u e => un.frzs b o u (ext b _ e (fun ys z => nomatch z)), fun b ps e => un.tbls b ps (ext b _ e (fun ys z => nomatch z))⟩, hok', r', q'⟩
      | next => exact h
      | brk => exact h
      | cont => exact h
  · exact F.run A outer s H args us [.ref a] Q E hr e0 hb r ⟨a, ns, rfl, .inl ⟨o, hS⟩, hT, q⟩
  · exact F.run A outer s H args us [.ref a] Q E hr e0 hb r ⟨a, ns, rfl, .inr fun H' => .inr hS, hT, q⟩
theorem top {P : Program} {w : World} {K : PySem.W.Frag} {mg : Str → Option Value} {fa : Addr} (hfa : mg "law" = some (.ref fa)) (B : Bu mg) (c2 : ∃ t, mg "FEWEST_PLACES" = some (.int 2 t)) (c5 : ∃ t, mg "MOST_PLACES" = some (.int 5 t)) (c120 : ∃ t, mg "MOST_LAYOUTS" = some (.int 120 t))
    {k1 p1 k2 p2 : Addr} (hpp : p1 ≠ p2)
    (F_is_integer : Df K mg "is_integer" st_is_integer ["value"])
    (F_is_number : Df K mg "is_number" st_is_number ["value", "low", "high"])
    (F_is_row : Df K mg "is_row" st_is_row ["value", "low", "high"])
    (F_is_place : Df K mg "is_place" st_is_place ["value", "places"])
    (F_are_places : Df K mg "are_places" st_are_places ["value", "places"])
    (F_is_layout : Df K mg "is_layout" st_is_layout ["value", "places"])
    (F_check_number : Df K mg "check_number" st_check_number ["value", "low", "high"])
    (F_check_places : Df K mg "check_places" st_check_places ["places"])
    (F_check_habit : Df K mg "check_habit" st_check_habit ["habit"])
    (F_check_layout : Df K mg "check_layout" st_check_layout ["layout", "places"])
    (F_check_place : Df K mg "check_place" st_check_place ["place", "places"])
    (F_places_of_habit : Df K mg "places_of_habit" st_places_of_habit ["habit"])
    (F_move : Df K mg "move" st_move ["habit", "layout", "place"])
    (F_depths : Df K mg "depths" st_depths ["start", "touches", "step", "most"])
    (F_traced : Df K mg "traced" st_traced ["came", "state"])
    (F_least_word : Df K mg "least_word" st_least_word ["start", "touches", "step", "is_goal"])
    (F_layout_depths : DfC K mg "layout_depths" st_layout_depths ["habit", "layout"] k1)
    (F_word_to_layout : DfC K mg "word_to_layout" st_word_to_layout ["habit", "one", "other"] k2)
    (F_touched : Df K mg "touched" st_touched ["habit", "layout", "place"])
    (F_word_between : Df K mg "word_between" st_word_between ["habit", "one", "other"])
    (F_distance : Df K mg "distance" st_distance ["habit", "one", "other"])
    (F_farthest : Df K mg "farthest" st_farthest ["habit", "layout"])
    (F_order : Df K mg "order" st_order ["habit"])
    (F_front_habit : Df K mg "front_habit" st_front_habit ["places"])
    (F_front_permutation : Df K mg "front_permutation" st_front_permutation ["places", "place"])
    (F_neighbour_habit : Df K mg "neighbour_habit" st_neighbour_habit ["places"])
    (F_neighbour_permutation : Df K mg "neighbour_permutation" st_neighbour_permutation ["places", "place"])
    (F_turning_habit : Df K mg "turning_habit" st_turning_habit ["places"])
    (F__law_taken : Df K mg "_law_taken" st__law_taken ["row", "many"])
    (F__law_order : Df K mg "_law_order" st__law_order ["row", "many"])
    (F_law : Df K mg "law" st_law ["script"])
    : ∃ fd : FuncData, (∀ (s : Shared) (v : Value), BindsTo s fd ⟨[v], []⟩ [("script", v)]) ∧ ∀ base : Heap, TabB base mg k1 p1 → TabB base mg k2 p2 → FnOk P w K mg base CX0 9 fa fd ["script"] (spEnd K (tabsT p1 p2)) := by
  obtain ⟨f, fd, F, g, b⟩ := F_law.ex
  have e := hfa.symm.trans g
  cases e
  refine ⟨fd, fun s v => ?_, fun base T1 T2 => ?_⟩
  · obtain ⟨oc, od, kV, doc, pm, an, cdv, ct, osl, rfl, _⟩ := F.ex
    exact .of_eq rfl
  · have C1 := ok_is_integer (P := P) (w := w) (base := base) F_is_integer B
    have C2 := ok_is_number F_is_number C1
    have CRw := ok_is_row (P := P) (w := w) (K := K) (base := base) F_is_row B
    have C3 := ok_is_place F_is_place C2
    have C4 := ok_are_places F_are_places B C3
    have C5 := ok_is_layout F_is_layout B C4
    have CN := ok_check_number F_check_number C2
    have CPs := ok_check_places F_check_places c2 c5 CN
    have CH := ok_check_habit F_check_habit B c2 c5 CRw C5
    have CL := ok_check_layout F_check_layout C5
    have CP := ok_check_place F_check_place C3
    have CO := ok_places_of (P := P) (w := w) (K := K) (base := base) F_places_of_habit B
    have CM := ok_move (P := P) (w := w) (K := K) (base := base) F_move B
    have CTr := ok_traced (P := P) (w := w) (base := base) F_traced B
    have CLD := ok_ldepths (P := P) (w := w) F_layout_depths F_depths B T1 hpp c120 CO CM
    have CW := ok_wtl (P := P) (w := w) F_word_to_layout F_least_word B T2 hpp CO CM CTr
    have CTo := ok_touched F_touched B CH CL CP CM
    have CB := ok_between F_word_between B CH CL CW
    have CDi := ok_distance F_distance B CB
    have CFa := ok_farthest F_farthest B CH CL CLD
    have COr := ok_ordr F_order B CH CO CLD
    have FH := ok_front_habit (K := K) F_front_habit B CPs (ok_front_perm (P := P) (w := w) (base := base) F_front_permutation B)
    have NH := ok_neigh_habit (K := K) F_neighbour_habit B CPs (ok_neigh_perm (P := P) (w := w) (base := base) F_neighbour_permutation B)
    have TH := ok_turn_habit (K := K) F_turning_habit B CPs
    have CT := ok_taken (P := P) (w := w) (K := K) (base := base) F__law_taken B
    exact frozen (ok_law F B CT (ok_order F__law_order B CT) FH NH TH CTo CDi CFa COr)
end RH
set_option Elab.async false
set_option linter.all false
open PySem PySem.W PyProof.Rows
set_option maxRecDepth 100000 in
set_option maxHeartbeats 0 in
theorem PySem.Challenge.cw_restlesshelf_k03_known_shelves_holds : PySem.Challenge.rw_restlesshelf_k03_known_shelves.Holds := by
  w_on; o_law; k_head; (case hw => w_witness2)
  k_fill
  refine LamX.walk_ofTs (l := PySem.Challenge.rw_restlesshelf_k03_known_shelves) (n := 63) (k := 9) (x := "script") (CX := fun _ => L2.CX0) rfl (by decide) rfl ⟨rfl, by decide, by decide⟩ (fun w h Y => PySem.W.km_in_of Y) ?F (fun _ _ _ _ _ h => h)
  case F =>
    intro w mg fa h Y KX G hmg
    have TT := PySem.W.km_tabs_of Y
    have B : RH.Bu mg := by
      refine' RH.Bu.mk (PySem.W.mg_none_of KX G ?z0) (PySem.W.mg_none_of KX G ?z1) (PySem.W.mg_none_of KX G ?z2) (PySem.W.mg_none_of KX G ?z3) (PySem.W.mg_none_of KX G ?z4) (PySem.W.mg_none_of KX G ?z5) (PySem.W.mg_none_of KX G ?z6) (PySem.W.mg_none_of KX G ?z7) (PySem.W.mg_none_of KX G ?z8) (PySem.W.mg_none_of KX G ?z9) (PySem.W.mg_none_of KX G ?z10) (PySem.W.mg_none_of KX G ?z11) (PySem.W.mg_none_of KX G ?z12)
      (case z0 => k_is); (case z1 => k_is); (case z2 => k_is); (case z3 => k_is); (case z4 => k_is); (case z5 => k_is); (case z6 => k_is); (case z7 => k_is); (case z8 => k_is); (case z9 => k_is); (case z10 => k_is); (case z11 => k_is); (case z12 => k_is)
    have c_FEWEST_PLACES : ∃ t, mg "FEWEST_PLACES" = some (.int 2 t) := by
      refine' RH.const_mk KX G ?a
      (case a => k_is)
    have c_MOST_PLACES : ∃ t, mg "MOST_PLACES" = some (.int 5 t) := by
      refine' RH.const_mk KX G ?a
      (case a => k_is)
    have c_MOST_LAYOUTS : ∃ t, mg "MOST_LAYOUTS" = some (.int 120 t) := by
      refine' RH.const_mk KX G ?a
      (case a => k_is)
    have F_is_integer : RH.Df (RH.kOf KX) mg "is_integer" RH.st_is_integer ["value"] := by
      refine' RH.df_mk KX G ?a ?l ?c ?k (fun _ _ _ _ _ _ us hl => match us, hl with | [_], _ => rfl)
      (case a => k_is); (case l => k_is); (case c => k_is); (case k => k_is)
    have F_is_number : RH.Df (RH.kOf KX) mg "is_number" RH.st_is_number ["value", "low", "high"] := by
      refine' RH.df_mk KX G ?a ?l ?c ?k (fun _ _ _ _ _ _ us hl => match us, hl with | [_, _, _], _ => rfl)
      (case a => k_is); (case l => k_is); (case c => k_is); (case k => k_is)
    have F_is_row : RH.Df (RH.kOf KX) mg "is_row" RH.st_is_row ["value", "low", "high"] := by
      refine' RH.df_mk KX G ?a ?l ?c ?k (fun _ _ _ _ _ _ us hl => match us, hl with | [_, _, _], _ => rfl)
      (case a => k_is); (case l => k_is); (case c => k_is); (case k => k_is)
    have F_is_place : RH.Df (RH.kOf KX) mg "is_place" RH.st_is_place ["value", "places"] := by
      refine' RH.df_mk KX G ?a ?l ?c ?k (fun _ _ _ _ _ _ us hl => match us, hl with | [_, _], _ => rfl)
      (case a => k_is); (case l => k_is); (case c => k_is); (case k => k_is)
    have F_are_places : RH.Df (RH.kOf KX) mg "are_places" RH.st_are_places ["value", "places"] := by
      refine' RH.df_mk KX G ?a ?l ?c ?k (fun _ _ _ _ _ _ us hl => match us, hl with | [_, _], _ => rfl)
      (case a => k_is); (case l => k_is); (case c => k_is); (case k => k_is)
    have F_is_layout : RH.Df (RH.kOf KX) mg "is_layout" RH.st_is_layout ["value", "places"] := by
      refine' RH.df_mk KX G ?a ?l ?c ?k (fun _ _ _ _ _ _ us hl => match us, hl with | [_, _], _ => rfl)
      (case a => k_is); (case l => k_is); (case c => k_is); (case k => k_is)
    have F_check_number : RH.Df (RH.kOf KX) mg "check_number" RH.st_check_number ["value", "low", "high"] := by
      refine' RH.df_mk KX G ?a ?l ?c ?k (fun _ _ _ _ _ _ us hl => match us, hl with | [_, _, _], _ => rfl)
      (case a => k_is); (case l => k_is); (case c => k_is); (case k => k_is)
    have F_check_places : RH.Df (RH.kOf KX) mg "check_places" RH.st_check_places ["places"] := by
      refine' RH.df_mk KX G ?a ?l ?c ?k (fun _ _ _ _ _ _ us hl => match us, hl with | [_], _ => rfl)
      (case a => k_is); (case l => k_is); (case c => k_is); (case k => k_is)
    have F_check_habit : RH.Df (RH.kOf KX) mg "check_habit" RH.st_check_habit ["habit"] := by
      refine' RH.df_mk KX G ?a ?l ?c ?k (fun _ _ _ _ _ _ us hl => match us, hl with | [_], _ => rfl)
      (case a => k_is); (case l => k_is); (case c => k_is); (case k => k_is)
    have F_check_layout : RH.Df (RH.kOf KX) mg "check_layout" RH.st_check_layout ["layout", "places"] := by
      refine' RH.df_mk KX G ?a ?l ?c ?k (fun _ _ _ _ _ _ us hl => match us, hl with | [_, _], _ => rfl)
      (case a => k_is); (case l => k_is); (case c => k_is); (case k => k_is)
    have F_check_place : RH.Df (RH.kOf KX) mg "check_place" RH.st_check_place ["place", "places"] := by
      refine' RH.df_mk KX G ?a ?l ?c ?k (fun _ _ _ _ _ _ us hl => match us, hl with | [_, _], _ => rfl)
      (case a => k_is); (case l => k_is); (case c => k_is); (case k => k_is)
    have F_places_of_habit : RH.Df (RH.kOf KX) mg "places_of_habit" RH.st_places_of_habit ["habit"] := by
      refine' RH.df_mk KX G ?a ?l ?c ?k (fun _ _ _ _ _ _ us hl => match us, hl with | [_], _ => rfl)
      (case a => k_is); (case l => k_is); (case c => k_is); (case k => k_is)
    have F_move : RH.Df (RH.kOf KX) mg "move" RH.st_move ["habit", "layout", "place"] := by
      refine' RH.df_mk KX G ?a ?l ?c ?k (fun _ _ _ _ _ _ us hl => match us, hl with | [_, _, _], _ => rfl)
      (case a => k_is); (case l => k_is); (case c => k_is); (case k => k_is)
    have F_depths : RH.Df (RH.kOf KX) mg "depths" RH.st_depths ["start", "touches", "step", "most"] := by
      refine' RH.df_mk KX G ?a ?l ?c ?k (fun _ _ _ _ _ _ us hl => match us, hl with | [_, _, _, _], _ => rfl)
      (case a => k_is); (case l => k_is); (case c => k_is); (case k => k_is)
    have F_traced : RH.Df (RH.kOf KX) mg "traced" RH.st_traced ["came", "state"] := by
      refine' RH.df_mk KX G ?a ?l ?c ?k (fun _ _ _ _ _ _ us hl => match us, hl with | [_, _], _ => rfl)
      (case a => k_is); (case l => k_is); (case c => k_is); (case k => k_is)
    have F_least_word : RH.Df (RH.kOf KX) mg "least_word" RH.st_least_word ["start", "touches", "step", "is_goal"] := by
      refine' RH.df_mk KX G ?a ?l ?c ?k (fun _ _ _ _ _ _ us hl => match us, hl with | [_, _, _, _], _ => rfl)
      (case a => k_is); (case l => k_is); (case c => k_is); (case k => k_is)
    have F_touched : RH.Df (RH.kOf KX) mg "touched" RH.st_touched ["habit", "layout", "place"] := by
      refine' RH.df_mk KX G ?a ?l ?c ?k (fun _ _ _ _ _ _ us hl => match us, hl with | [_, _, _], _ => rfl)
      (case a => k_is); (case l => k_is); (case c => k_is); (case k => k_is)
    have F_word_between : RH.Df (RH.kOf KX) mg "word_between" RH.st_word_between ["habit", "one", "other"] := by
      refine' RH.df_mk KX G ?a ?l ?c ?k (fun _ _ _ _ _ _ us hl => match us, hl with | [_, _, _], _ => rfl)
      (case a => k_is); (case l => k_is); (case c => k_is); (case k => k_is)
    have F_distance : RH.Df (RH.kOf KX) mg "distance" RH.st_distance ["habit", "one", "other"] := by
      refine' RH.df_mk KX G ?a ?l ?c ?k (fun _ _ _ _ _ _ us hl => match us, hl with | [_, _, _], _ => rfl)
      (case a => k_is); (case l => k_is); (case c => k_is); (case k => k_is)
    have F_farthest : RH.Df (RH.kOf KX) mg "farthest" RH.st_farthest ["habit", "layout"] := by
      refine' RH.df_mk KX G ?a ?l ?c ?k (fun _ _ _ _ _ _ us hl => match us, hl with | [_, _], _ => rfl)
      (case a => k_is); (case l => k_is); (case c => k_is); (case k => k_is)
    have F_order : RH.Df (RH.kOf KX) mg "order" RH.st_order ["habit"] := by
      refine' RH.df_mk KX G ?a ?l ?c ?k (fun _ _ _ _ _ _ us hl => match us, hl with | [_], _ => rfl)
      (case a => k_is); (case l => k_is); (case c => k_is); (case k => k_is)
    have F_front_habit : RH.Df (RH.kOf KX) mg "front_habit" RH.st_front_habit ["places"] := by
      refine' RH.df_mk KX G ?a ?l ?c ?k (fun _ _ _ _ _ _ us hl => match us, hl with | [_], _ => rfl)
      (case a => k_is); (case l => k_is); (case c => k_is); (case k => k_is)
    have F_front_permutation : RH.Df (RH.kOf KX) mg "front_permutation" RH.st_front_permutation ["places", "place"] := by
      refine' RH.df_mk KX G ?a ?l ?c ?k (fun _ _ _ _ _ _ us hl => match us, hl with | [_, _], _ => rfl)
      (case a => k_is); (case l => k_is); (case c => k_is); (case k => k_is)
    have F_neighbour_habit : RH.Df (RH.kOf KX) mg "neighbour_habit" RH.st_neighbour_habit ["places"] := by
      refine' RH.df_mk KX G ?a ?l ?c ?k (fun _ _ _ _ _ _ us hl => match us, hl with | [_], _ => rfl)
      (case a => k_is); (case l => k_is); (case c => k_is); (case k => k_is)
    have F_neighbour_permutation : RH.Df (RH.kOf KX) mg "neighbour_permutation" RH.st_neighbour_permutation ["places", "place"] := by
      refine' RH.df_mk KX G ?a ?l ?c ?k (fun _ _ _ _ _ _ us hl => match us, hl with | [_, _], _ => rfl)
      (case a => k_is); (case l => k_is); (case c => k_is); (case k => k_is)
    have F_turning_habit : RH.Df (RH.kOf KX) mg "turning_habit" RH.st_turning_habit ["places"] := by
      refine' RH.df_mk KX G ?a ?l ?c ?k (fun _ _ _ _ _ _ us hl => match us, hl with | [_], _ => rfl)
      (case a => k_is); (case l => k_is); (case c => k_is); (case k => k_is)
    have F__law_taken : RH.Df (RH.kOf KX) mg "_law_taken" RH.st__law_taken ["row", "many"] := by
      refine' RH.df_mk KX G ?a ?l ?c ?k (fun _ _ _ _ _ _ us hl => match us, hl with | [_, _], _ => rfl)
      (case a => k_is); (case l => k_is); (case c => k_is); (case k => k_is)
    have F__law_order : RH.Df (RH.kOf KX) mg "_law_order" RH.st__law_order ["row", "many"] := by
      refine' RH.df_mk KX G ?a ?l ?c ?k (fun _ _ _ _ _ _ us hl => match us, hl with | [_, _], _ => rfl)
      (case a => k_is); (case l => k_is); (case c => k_is); (case k => k_is)
    have F_law : RH.Df (RH.kOf KX) mg "law" RH.st_law ["script"] := by
      refine' RH.df_mk KX G ?a ?l ?c ?k (fun _ _ _ _ _ _ us hl => match us, hl with | [_], _ => rfl)
      (case a => k_is); (case l => k_is); (case c => k_is); (case k => k_is)
    obtain ⟨k1, p1, k2, p2, M1, M2, hpp⟩ : ∃ k1 p1 k2 p2, RH.Mkr (RH.kOf KX) h mg "layout_depths" RH.st_layout_depths ["habit", "layout"] k1 p1 ∧ RH.Mkr (RH.kOf KX) h mg "word_to_layout" RH.st_word_to_layout ["habit", "one", "other"] k2 p2 ∧ p1 ≠ p2 := by
      refine' RH.two (RH.mkr KX G ?a ?l ?c ?k ?lc ?t ?d ?e ?g (fun _ _ _ _ _ _ us hl => match us, hl with | [_, _], _ => rfl)) (RH.mkr KX G ?a2 ?l2 ?c2 ?k2 ?lc2 ?t2 ?d2 ?e2 ?g2 (fun _ _ _ _ _ _ us hl => match us, hl with | [_, _, _], _ => rfl)) ?n
      (case a => k_is); (case l => k_is); (case c => k_is); (case k => k_is); (case lc => k_is); (case t => rfl); (case e => first | rfl | kernel_rfl | (with_unfolding_all rfl)); (case g => exact TT _ (by decide)); (case d => exact fun K' e => by unfold PySem.W.codeHdIn; rw [e]; rfl)
      (case a2 => k_is); (case l2 => k_is); (case c2 => k_is); (case k2 => k_is); (case lc2 => k_is); (case t2 => rfl); (case e2 => first | rfl | kernel_rfl | (with_unfolding_all rfl)); (case g2 => exact TT _ (by decide)); (case d2 => exact fun K' e => by unfold PySem.W.codeHdIn; rw [e]; rfl)
      (case n => decide)
    obtain ⟨F_layout_depths, hk1, hl1, hm1⟩ := M1
    obtain ⟨F_word_to_layout, hk2, hl2, hm2⟩ := M2
    obtain ⟨fd, hb, hF⟩ := RH.top (P := (PySem.Challenge.rw_restlesshelf_k03_known_shelves).prog) (w := w) hmg B c_FEWEST_PLACES c_MOST_PLACES c_MOST_LAYOUTS hpp F_is_integer F_is_number F_is_row F_is_place F_are_places F_is_layout F_check_number F_check_places F_check_habit F_check_layout F_check_place F_places_of_habit F_move F_depths F_traced F_least_word F_layout_depths F_word_to_layout F_touched F_word_between F_distance F_farthest F_order F_front_habit F_front_permutation F_neighbour_habit F_neighbour_permutation F_turning_habit F__law_taken F__law_order F_law
    refine ⟨fd, [(k1, p1), (k2, p2)], RH.spEnd (RH.kOf KX) (RH.tabsT p1 p2), ?_, ?_, ?_, hb, ?_, ?_⟩
    · intro p hp
      rcases List.mem_cons.mp hp with e | hp
      · rw [e]; exact hm1
      · rw [List.mem_singleton.mp hp]; exact hm2
    · intro p hp
      rcases List.mem_cons.mp hp with e | hp
      · rw [e]; exact hl1
      · rw [List.mem_singleton.mp hp]; exact hl2
    · intro p hp
      rcases List.mem_cons.mp hp with e | hp
      · rw [e]; exact hk1
      · rw [List.mem_singleton.mp hp]; exact hk2
    · intro H a ns _ _ hH hS
      refine ⟨a, ns, rfl, hS, fun p hp => ?_, fun _ => rfl⟩
      rcases List.mem_cons.mp hp with e | hp
      · rw [e]; exact LamX.TabS.nil (hH (k1, p1) (List.mem_cons_self ..))
      · rw [List.mem_singleton.mp hp]; exact LamX.TabS.nil (hH (k2, p2) (List.mem_cons_of_mem _ (List.mem_singleton.mpr rfl)))
    · intro base _ _ TB
      exact hF base (TB (k1, p1) (List.mem_cons_self ..)) (TB (k2, p2) (List.mem_cons_of_mem _ (List.mem_singleton.mpr rfl)))
