import PyProof.Rows.All
import Wide.All
import OpenK.AllK
import Wide.FinOn
import HandS.ForMost
import HandS.Rev
import HandS.Walk
import KE.GoesMore
import KE.GoesEnum
import KE.GoesZip
import HandS.Wide
import PySem.Challenge.RW_lowsure_k57_code_that_is_run
import PyProof.InstNe
import HandS.More
import HandS.OwnEq
import OpenK.KOps
import HandS.IsInst
import HandS.Text
import HandS.Star
import HandS.CallLocal
import HandS.Conv
import HandS.ExcIs
import HandS.ExcField
import KE.KExcIs
import HandS.Small
import HandS.Exc
import HandS.ExcInit
import HandS.WordsExc
import HandS.Defaults
import HandS.ExcOwn
import HandS.NoneIn
import HandS.RaiseMore
set_option Elab.async false
set_option linter.all false
set_option maxRecDepth 100000
set_option maxHeartbeats 1000000
namespace MyR
open PySem PySem.Spec PyProof.Rows L2 RT
section
variable {prog : Program} {w : World} {A : Around} {E : Value → Shared → Prop} {s : Shared}
theorem extend_rev {R : Result → Shared → Prop} {S it l : Addr} {items : Array Value} {res : Value} {c0 : Nat} (hh : A.handled = none) (hit : s.heap.IsRevIter it l ((items.size : Int) - 1)) (hl : s.heap.IsList l items) (hne : l ≠ it) (hSi : S ≠ it) (hSl : S ≠ l) (hn : items.size ≤ sizeLine)
    (hS : s.heap.get? S = some { cls := .type "list", data := .seq #[] c0 })
    (hR : ∀ (s' : Shared) (acc : Array Value) (c' : Nat), (∀ b o, b ≠ it → b ≠ S → s.heap.get? b = some o → s'.heap.get? b = some o) → s' = { s with heap := s'.heap, toks := s'.toks } → s'.heap.get? S = some { cls := .type "list", dict := none, data := .seq acc c', slots := #[] } →
      ItemsOf (fun i v => items[items.size - 1 - i]? = some v) acc items.size → R (.ok (.ret res)) s') :
    wpAny (model prog w) A.in1 (Builtin.List.listExtendWith (.ref S) (.ref it) res)
      (fun fin s' => match fin with | .done f => R (.ok f) s' | .again c' => c'.quiet = true ∧ codeAny (model prog w) A c' R s') (fun e s' => R (.error e) s') s := by
  have W := (Walks.listRev (prog := prog) (w := w) (A := A.in1) hh it l hne items).toS
  have hSf : S ∉ [it, l] := by simp only [List.mem_cons, List.not_mem_nil, or_false, not_or]; exact ⟨hSi, hSl⟩
  have hT : s.TypeIs (.ref it) "list_reverseiterator" := hit.typeIs
  have h1 : Builtin.List.listSameRef (.ref S) (.ref it) = false := by simp [Builtin.List.listSameRef, hSi]
  unfold Builtin.List.listExtendWith
  refine wpAny_bind (wpAny_typeOf hT ?_)
  rw [if_neg (by rw [h1]; decide)]
  refine wpAny_bind (wpAny_pyIter_revIter hit ?_)
  refine wpAny_bind (wpAny_holding ?_)
  unfold Builtin.List.listLengthHint
  refine wpAny_bind (wpAny_specialOf hT nolen_lri ?_)
  show wpAny _ A.in1 (specialOf (Value.ref it) (Str.ofString "__length_hint__") >>= _) _ _ _
  refine wpAny_bind (wpAny_specialOf hT hint_lri ?_)
  generalize hid : ("list_reverseiterator.__length_hint__" : String) = id0
  wp_delta
  rw [show splitId id0 = some ("list_reverseiterator", "__length_hint__") from by subst hid; decide +kernel]
  subst hid
  refine wpAny_bind (wpAny_isInstance (b := true) hT (by rw [isSubtype_type]; kernel_rfl) ?_)
  refine wpAny_pure ?_
  rw [if_neg (by decide)]
  have e0 : ((items.size : Nat) : Int) - 1 - ((0 : Nat) : Int) = (items.size : Int) - 1 := by omega
  refine wpAny_pure ⟨plainId_quiet F.plain_extend_loop _, codeAny_extend_loopS W hn _ hSf _ items.size 0 _ _ _ rfl (Nat.zero_le _) ⟨Nat.zero_le _, by rw [e0]; exact hit, hl⟩ hS (ItemsOf.nil _) fun s' acc' c' hm hS' hacc => ?_⟩
  refine hR s' acc' c' (fun b o hb hb2 e => hm.heap b o (fun hmem => ?_) e) (Moved.eq_with hm) hS' hacc
  rcases List.mem_cons.mp hmem with e' | hmem
  · exact hb2 e'
  · exact hb (List.mem_singleton.mp hmem)
theorem list_init_rev {R : Result → Shared → Prop} {S it l : Addr} {items : Array Value} (hh : A.handled = none) (hit : s.heap.IsRevIter it l ((items.size : Int) - 1)) (hl : s.heap.IsList l items) (hne : l ≠ it) (hSi : S ≠ it) (hSl : S ≠ l) (hn : items.size ≤ sizeLine)
    (hS : s.heap.get? S = some { cls := .type "list", data := .seq #[] })
    (hR : ∀ (s' : Shared) (acc : Array Value) (c' : Nat), (∀ b o, b ≠ it → b ≠ S → s.heap.get? b = some o → s'.heap.get? b = some o) → s' = { s with heap := s'.heap, toks := s'.toks } → s'.heap.get? S = some { cls := .type "list", dict := none, data := .seq acc c', slots := #[] } →
      ItemsOf (fun i v => items[items.size - 1 - i]? = some v) acc items.size → R (.ok (.ret .none)) s') :
    wpAny (model prog w) A.in1 (Builtin.«list.__init__» ⟨[.ref S, .ref it], []⟩)
      (fun fin s' => match fin with | .done f => R (.ok f) s' | .again c' => c'.quiet = true ∧ codeAny (model prog w) A c' R s') (fun e s' => R (.error e) s') s := by
  show wpAny _ A.in1 (do let old ← Builtin.List.listItems (.ref S); Builtin.List.listUpdate (.ref S) (fun _ => #[]); letGo old.toList.reverse; Builtin.List.listExtendWith (.ref S) (.ref it) .none) _ _ s
  refine wpAny_bind ?_
  unfold Builtin.List.listItems
  refine wpAny_bind (wpAny_seqItems hS rfl (wpAny_pure ?_))
  show wpAny _ A.in1 (updateSeq S (fun _ => #[]) >>= fun _ => letGo (#[] : Array Value).toList.reverse >>= fun _ => Builtin.List.listExtendWith (.ref S) (.ref it) .none) _ _ s
  refine wpAny_bind (wpAny_updateSeq hS rfl ?_)
  have hS2 := Heap.get?_update_self (Obj.mapSeq (fun _ => (#[] : Array Value))) hS rfl
  have oth : ∀ b o, b ≠ S → s.heap.get? b = some o → (s.heap.update S (Obj.mapSeq (fun _ => (#[] : Array Value)))).get? b = some o :=
    fun b o hb e => (Heap.get?_update_other _ _ (Ne.symm hb)).trans e
  refine wpAny_bind (wpAny_letGo ?_)
  refine extend_rev hh (hit.at fun o e => oth it o (Ne.symm hSi) e) (hl.at fun o e => oth l o (Ne.symm hSl) e) hne hSi hSl hn hS2 fun s' acc c' hk hs hS' hi => ?_
  refine hR s' acc c' (fun b o h1 h2 e => hk b o h1 h2 (oth b o h2 e)) ?_ hS' hi
  exact hs
theorem call_list_rev {it l : Addr} {items : Array Value} {Q : Value → Shared → Prop} (hh : A.handled = none) (hit : s.heap.IsRevIter it l ((items.size : Int) - 1)) (hl : s.heap.IsList l items) (hne : l ≠ it) (hn : items.size ≤ sizeLine)
    (hQ : ∀ (s' : Shared) (acc : Array Value) (c' : Nat), (∀ b o, b ≠ it → s.heap.get? b = some o → s'.heap.get? b = some o) → s' = { s with heap := s'.heap, toks := s'.toks } → s'.heap.get? s.heap.objs.size = some { cls := .type "list", dict := none, data := .seq acc c', slots := #[] } →
      ItemsOf (fun i v => items[items.size - 1 - i]? = some v) acc items.size → Q (.ref s.heap.objs.size) s') :
    wpAny (model prog w) A (call (.type "list") [.ref it]) Q E s := by
  obtain ⟨oi, hoi, _⟩ := id hit
  obtain ⟨ol, hol, _⟩ := id hl
  have hSi : s.heap.objs.size ≠ it := Nat.ne_of_gt (Heap.lt_size hoi)
  have hSl : s.heap.objs.size ≠ l := Nat.ne_of_gt (Heap.lt_size hol)
  refine callType_codes (Q₁ := fun obj s₁ => obj = .ref s.heap.objs.size ∧ s₁ = { s with heap := s.heap.push { cls := .type "list", data := .seq #[] } }) F.called_list (F.typeCall_list_1 _) F.entry_list_init
    (code_list_new _ ⟨rfl, rfl⟩) fun obj s₁ h₁ => ?_
  obtain ⟨rfl, rfl⟩ := h₁
  have hS : (s.heap.push { cls := .type "list", data := .seq #[] }).get? s.heap.objs.size = some { cls := .type "list", data := .seq #[] } := Heap.get?_push_size _ rfl
  refine ⟨⟨_, hS, rfl⟩, F.args_list_init_2 _ _, list_init_rev (A := A.in1) hh (hit.at fun o e => Heap.get?_push_of_some _ e) (hl.push _) hne hSi hSl hn hS fun s' acc c' hk hs hS' hi => ?_⟩
  exact ⟨rfl, hQ s' acc c' (fun b o hb e => hk b o hb (Nat.ne_of_lt (Heap.lt_size e)) (Heap.get?_push_of_some _ e)) hs hS' hi⟩
end
/-- list(reversed(x)), x a list: a new list -/
def tLstRev (K : PySem.W.Frag) (te : TE) : TE := fun σ H Q => te σ H fun v H1 => ∃ (a : Addr) (xs : List V), v = .ref a ∧ SqL K H1 a xs ∧ ∀ q, H1 q = none → Q (.ref q) (upd H1 q (.lst xs.reverse))
section
variable {X : Cx}
theorem pe_lstRev {e : Expr} {te : TE} {p p2 pos pos2 : Pos} (hc : X.calm = true) (hg : Gl X "list") (hm : X.mg "list" = none) (hg2 : Gl X "reversed") (hm2 : X.mg "reversed" = none) (he : PE X e te)
    (hs : starEach [e] X.env = (false, eval e X.env) :: starEach [] X.env := by rfl)
    (hs2 : starEach [.Call (.Name "reversed" p2) [e] [] pos2] X.env = (false, eval (.Call (.Name "reversed" p2) [e] [] pos2) X.env) :: starEach [] X.env := by rfl) :
    PE X (.Call (.Name "list" p) [.Call (.Name "reversed" p2) [e] [] pos2] [] pos) (tLstRev X.K te) := by
  refine ⟨fun pins s σ H Q I h => ?_⟩
  refine Call_ (ld_blt I hg hm (show bootBuiltins "list" = some (.type "list") by decide +kernel) (PyProof.Rows.callWith_type1 (args_cons (Call_ (ld_blt I hg2 hm2 PyProof.Rows.boot_reversed (PyProof.Rows.callWith_type1 (args_cons (thn (he.run pins s σ H _ I h) fun u s1 ⟨v, H1, I1, r1, q1⟩ => args_nil ?_) hs) hs rfl))) hs2) hs2 rfl))
  obtain ⟨a, xs, ev, hq, q⟩ := q1
  subst ev
  obtain rfl : u = Value.ref a := r1
  obtain ⟨its, rv, p', hz⟩ := I1.list hq
  refine call_reversed_list p'.isList (args_nil ?_)
  have k0 : ∀ b o, s1.heap.get? b = some o → (s1.heap.push (revObj a ((its.toArray.size : Int) - 1))).get? b = some o := fun b o e => Heap.get?_push_of_some _ e
  have hl := p'.isList
  obtain ⟨ol, hol, _⟩ := id hl
  have hne : a ≠ s1.heap.objs.size := Nat.ne_of_lt (Heap.lt_size hol)
  have hn : its.toArray.size ≤ sizeLine := by rw [List.size_toArray, ← rv.length]; exact hz
  refine call_list_rev (s := { s1 with heap := s1.heap.push (revObj a ((its.toArray.size : Int) - 1)) }) (I1.ok.hd hc) ⟨_, Heap.get?_push_size _ rfl, rfl, rfl⟩ (hl.push _) hne hn fun s' acc c' hk hs' hS' hi => ?_
  have kk : ∀ b o, s1.heap.get? b = some o → s'.heap.get? b = some o := fun b o e => hk b o (Nat.ne_of_lt (Heap.lt_size e)) (k0 b o e)
  have hsz : s1.heap.objs.size ≤ (s1.heap.push (revObj a ((its.toArray.size : Int) - 1))).objs.size := by rw [Heap.size_push]; exact Nat.le_succ _
  have J := I1.laid (a := (s1.heap.push (revObj a ((its.toArray.size : Int) - 1))).objs.size) (o := .lst xs.reverse) (h' := s'.heap) (t' := s'.toks) kk hsz
    (show ObjOk X.prog X.w _ _ _ (.lst xs.reverse) from ⟨by rw [List.length_reverse]; exact hz, acc.toList, c', vals_rev rv hi, by rw [Array.toArray_toList]; exact hS'⟩)
  rw [hs']
  exact ⟨.ref _, _, J, rfl, q _ (I1.hok.fresh hsz)⟩
end
end MyR

set_option Elab.async false
set_option linter.all false
set_option maxRecDepth 100000
set_option maxHeartbeats 1000000
namespace MyR
open PySem PySem.Spec PyProof.Rows L2

/-! ### what gives new pairs over things that stand: enumerate(tuple), zip(text, tuple), told once -/
/-- at turn i a walk of n turns is at hand whose next pair is of x and y -/
def PairAt (P : Program) (w : World) (A : Around) (I : Addr) (cs : List Addr) (own : Nat → Heap → Prop) (h : Heap) (i : Nat) (x y : V) (more : Prop) : Prop :=
  ∃ (n : Nat) (wr fp : List Addr) (Pt : Nat → Array Value → Prop) (St : Nat → Heap → Prop) (Mid : Nat → Addr → Heap → Prop), WalksT P w A I fp wr n Pt St Mid ∧ (∀ b ∈ wr, b ∈ cs) ∧ St i h ∧ (∀ j g, St j g → own j g) ∧
    ((more → i < n ∧ ∀ vals, Pt i vals → ∃ u v, vals = #[u, v] ∧ RelV x u ∧ RelV y v) ∧ (¬ more → i = n))
theorem turn_pairs {P : Program} {w : World} {K : PySem.W.Frag} {elts : List Expr} {kk : Nat} {tpos : Pos} {I : Addr} {cs : List Addr} {J : It} {own : Nat → Heap → Prop} (hI : I ∈ cs)
    (cells : ∀ i h, own i h → ∀ b ∈ cs, ∃ o, h.get? b = some o ∧ ∀ v, o.data ≠ .cell v)
    (stays : ∀ i g g', own i g → (∀ b ∈ cs, ∀ o, g.get? b = some o → g'.get? b = some o) → own i g')
    (again : ∀ (A : Around) (i : Nat) (s : Shared) (Q E : Value → Shared → Prop), own i s.heap → Q (.ref I) s → wpAny (model P w) A (pyIter (.ref I)) Q E s)
    (goes : ∀ (X : Cx) (pins : List (Addr × Obj)) (s : Shared) (σ : L2.St) (H : Hp) (i : Nat), X.prog = P → X.w = w → X.K = K → X.A.handled = none → Inv X pins σ H s → own i s.heap → J.go i H →
      ∃ x y, PairAt P w X.A I cs own s.heap i x y True ∧ ∀ T, H T = none → J.yld i H (.ref T) (upd H T (.tup [x, y])))
    (ends : ∀ (X : Cx) (pins : List (Addr × Obj)) (s : Shared) (σ : L2.St) (H : Hp) (i : Nat), X.prog = P → X.w = w → X.K = K → X.A.handled = none → Inv X pins σ H s → own i s.heap → J.stop i H → PairAt P w X.A I cs own s.heap i .non .non False) :
    Turn P w K (.Tuple elts kk tpos) J cs I own where
  mem := hI
  obj := cells
  keep := stays
  self := again
  item := by
    intro X eP ew eK calm i pins s σ H E inv free st more
    obtain ⟨x, y, ⟨n, wr, fp, Pt, St, Mid, W, sub, hst, hown, hmore, _⟩, hyld⟩ := goes X pins s σ H i eP ew eK (inv.ok.hd calm) inv st more
    obtain ⟨hin, hvals⟩ := hmore trivial
    subst eP ew eK
    refine W.item i s _ _ hin hst fun T vals h1 tk hP hT hTup hMid k1 => ?_
    obtain ⟨u, v, rfl, ru, rv⟩ := hvals vals hP
    refine ⟨.ref T, rfl, W.go elts kk tpos i T _ _ _ hMid fun h2 st2 k2 => ?_⟩
    have tup2 : h2.IsTuple T #[u, v] := hTup.at fun o e => k2 T o (W.apart i T h1 hMid) e
    have fresh : H T = none := inv.hok.fresh hT
    have inv2 : Inv X pins σ (upd H T (.tup [x, y])) { s with heap := h2, toks := tk } :=
      inv.turnedNew (ch := cs) (fun b o nb e => k2 b o (fun m => nb (sub b m)) (k1 b o (fun m => nb (sub b m)) e)) free hT ⟨(by show 2 ≤ sizeLine; decide), [u, v], .cons ru (.cons rv .nil), tup2⟩
    refine ⟨.ref T, _, inv2, rfl, hyld T fresh, hown _ _ st2, fun b hb => ?_⟩
    obtain ⟨o, ho, _⟩ := cells i _ st b hb
    rw [upd_ne (Nat.ne_of_lt (Nat.lt_of_lt_of_le (Heap.lt_size ho) hT))]
    exact (free b hb).1
  done := by
    intro X eP ew eK calm i pins s σ H E inv free st stop
    obtain ⟨n, wr, fp, Pt, St, Mid, W, sub, hst, _, _, hend⟩ := ends X pins s σ H i eP ew eK (inv.ok.hd calm) inv st stop
    obtain rfl := hend (fun f => f)
    subst eP ew eK
    exact W.done s _ _ hst fun h1 tk k1 => ⟨rfl, inv.turnedL (t' := tk) (ch := cs) (fun b o nb e => k1 b o (fun m => nb (sub b m)) e) free⟩

/-! ### enumerate(tuple) -/
/-- the tuple at a, each item in a new pair -/
def IteT (K : PySem.W.Frag) (a : Addr) : It where
  go i H := ∃ (xs : List V) (x : V), SqT K H a xs ∧ xs[i]? = some x
  yld i H v H' := ∃ T x, v = .ref T ∧ H T = none ∧ H' = upd H T (.tup [.int (i : Nat), x]) ∧ ∀ xs, SqT K H a xs → xs[i]? = some x
  stop i H := ∃ xs : List V, SqT K H a xs ∧ xs.length = i
/-- the two cells of an enumerate over the tuple at a, i items taken -/
def EnumT (a e it : Addr) (i : Nat) (h : Heap) : Prop := (∃ old, IsEnum h e it (0 + (i : Int)) old) ∧ h.IsTupleIter it a i
theorem turn_enumT {P : Program} {w : World} {K : PySem.W.Frag} {elts : List Expr} {kk : Nat} {tpos : Pos} {a e it : Addr} (hei : e ≠ it) (hai : a ≠ it) (hae : a ≠ e) : Turn P w K (.Tuple elts kk tpos) (IteT K a) [e, it] e (EnumT a e it) := by
  have W : ∀ (A : Around), A.handled = none → ∀ items : Array Value, _ := fun A hh items =>
    WalksT.enumFrom (prog := P) (w := w) (A := A) 0 (Draws.tuple (A := A.in1) hh it a hai items) e hei (by simp only [List.mem_cons, List.not_mem_nil, or_false, not_or]; exact ⟨hei, Ne.symm hae⟩) (List.mem_cons_self ..)
  refine turn_pairs (List.mem_cons_self ..) (fun i h st b hb => ?_) (fun i g g' st k => ?_) (fun A i s Q E st q => ?_) (fun X pins s σ H i eP ew eK hh inv st go => ?_) (fun X pins s σ H i eP ew eK hh inv st stop => ?_)
  · obtain ⟨⟨old, he⟩, o, ho, _, hd⟩ := st
    rcases List.mem_cons.mp hb with z | z
    · subst z
      exact ⟨_, he, fun v q => nomatch q⟩
    · exact ⟨o, by rw [List.mem_singleton.mp z]; exact ho, fun v q => by rw [hd] at q; cases q⟩
  · obtain ⟨⟨old, he⟩, hi⟩ := st
    exact ⟨⟨old, k e (List.mem_cons_self ..) _ he⟩, hi.at fun o q => k it (List.mem_cons_of_mem _ (List.mem_cons_self ..)) o q⟩
  · obtain ⟨⟨_, he⟩, _⟩ := st
    exact wpAny_pyIter_enum he q
  · obtain ⟨xs, x, hq, hx⟩ := go
    subst eK
    obtain ⟨its, rv, tup, _⟩ := inv.tuple hq
    obtain ⟨u, hu, ru⟩ := rv.get hx
    have hu' : its.toArray[i]? = some u := by simpa using hu
    have hin : i < its.toArray.size := (Array.getElem?_eq_some_iff.mp hu').1
    refine ⟨.int (i : Nat), x, ⟨_, _, _, _, _, _, W X.A hh its.toArray, fun b hb => hb, ⟨st.1, st.2, tup⟩, fun j g z => ⟨z.1, z.2.1⟩, fun _ => ⟨hin, fun vals hP => ?_⟩, fun f => absurd trivial f⟩, fun T hT => ⟨T, x, rfl, hT, rfl, fun ys hy => by rw [inv.tuple_inj hy hq]; exact hx⟩⟩
    obtain ⟨t, v, hv, rfl⟩ := hP
    refine ⟨_, v, rfl, ⟨t, by rw [Int.zero_add]⟩, ?_⟩
    have e1 : its.toArray[i]? = some v := hv
    rw [e1] at hu'
    rw [Option.some.inj hu']
    exact ru
  · obtain ⟨xs, hq, hx⟩ := stop
    subst eK
    obtain ⟨its, rv, tup, _⟩ := inv.tuple hq
    have hl := rv.length
    exact ⟨_, _, _, _, _, _, W X.A hh its.toArray, fun b hb => hb, ⟨st.1, st.2, tup⟩, fun j g z => ⟨z.1, z.2.1⟩, fun f => f.elim, fun _ => by rw [List.size_toArray]; omega⟩
set_option maxHeartbeats 1000000 in
/-- enumerate(v): an iterator over v, and the object itself -/
theorem meets_enum1 {v : Value} {o : Obj} {There : Heap → Prop} (B : Begins v o There) :
    Meets (Builtin.«enumerate.__new__» ⟨[.type "enumerate", v], []⟩) fun _ R s => There s.heap ∧
      R (.ok (.ret (.ref (s.heap.push o).objs.size))) { s with heap := (s.heap.push o).push { cls := .type "enumerate", data := .fields #[.none, .bool false, .ref s.heap.objs.size, rawInt 0, .none, .none] } } :=
  .of_wp fun prog w A R s there => by
    obtain ⟨there, after⟩ := there
    obtain ⟨hp, gens, drawn, toks, os⟩ := s
    have sub := sub_enumerate
    have begin_ : ∀ {A' : Around} {E Q : Value → Shared → Prop}, Q (.ref hp.objs.size) ⟨hp.push o, gens, drawn, toks, os⟩ → wpAny (model prog w) A' (pyIter v) Q E ⟨hp, gens, drawn, toks, os⟩ := fun q => B.iter prog w _ _ _ _ there q
    wp_walk using begin_
    refine wpAny_stack_any fun frames => wpAny_pure ?_
    split <;> (try (rename_i c _ _ _ _ _; cases (c == Value.type "enumerate"))) <;> (wp_walk using begin_; exact ⟨_, rfl, after⟩)
theorem enum_over {prog : Program} {w : World} {A : Around} {E : Value → Shared → Prop} {s : Shared} {a : Addr} {items : Array Value} {Q : Value → Shared → Prop} (tup : s.heap.IsTuple a items)
    (next : ∀ g, EnumT a (s.heap.objs.size + 1) s.heap.objs.size 0 g → (∀ b o, s.heap.get? b = some o → g.get? b = some o) → Q (.ref (s.heap.objs.size + 1)) { s with heap := g }) :
    wpAny (model prog w) A (call (.type "enumerate") [.ref a]) Q E s := by
  refine callType_new F.called_enumerate (by decide) (F.typeCall_enumerate_1 _) (F.newCall_enumerate_1 _) (fun obj => F.args_object_init_2 obj _) F.entry_enumerate_new (meets_enum1 (begins_tuple a items)) ⟨tup, ?_⟩
  generalize ho1 : ({ cls := .type "tuple_iterator", data := .fields #[.ref a, .int 0 0] } : Obj) = o1
  have n1 : (s.heap.push o1).objs.size = s.heap.objs.size + 1 := Heap.size_push ..
  have g2 := Heap.get?_push_size (s.heap.push o1) (o := { cls := .type "enumerate", data := .fields #[.none, .bool false, .ref s.heap.objs.size, rawInt 0, .none, .none] }) rfl
  have g1 := Heap.get?_push_of_some { cls := .type "enumerate", data := .fields #[.none, .bool false, .ref s.heap.objs.size, rawInt 0, .none, .none] } (Heap.get?_push_size s.heap (o := o1) (by subst ho1; rfl))
  show _ ∧ _
  rw [n1] at g2 ⊢
  subst ho1
  exact ⟨⟨_, g2, rfl⟩, next _ ⟨⟨_, g2⟩, _, g1, rfl, rfl⟩ fun b o e => Heap.get?_push_of_some _ (Heap.get?_push_of_some _ e)⟩
def iEnumT (K : PySem.W.Frag) (ta : TA) : TI := fun σ H R => ta σ H fun vs H1 => ∃ a xs, vs = [.ref a] ∧ SqT K H1 a xs ∧ R (IteT K a) H1
theorem pi_enumT {X : Cx} {e : Expr} {ta : TA} {p pos tpos : Pos} {elts : List Expr} {kk : Nat} (hg : Gl X "enumerate") (hm : X.mg "enumerate" = none) (ha : PA X [e] ta) (one : starEach [e] X.env = [(false, eval e X.env)] := by rfl) :
    PI X (.Tuple elts kk tpos) (.Call (.Name "enumerate" p) [e] [] pos) (iEnumT X.K ta) where
  run pins s σ H R inv h := by
    refine Call_ (ld_blt inv hg hm boot_enumerate (PyProof.Rows.callWith_type1 (thn (ha.run pos pins s σ H _ inv h) fun us s1 after => ?_) one rfl))
    obtain ⟨vs, H1, inv1, rel, a, xs, rfl, hq, q⟩ := after
    obtain ⟨u, rfl, ru⟩ := vals1 rel
    obtain rfl : u = Value.ref a := ru
    obtain ⟨its, _, tup, _⟩ := inv1.tuple hq
    have la : a < s1.heap.objs.size := by obtain ⟨oa, hoa, _⟩ := id tup; exact Heap.lt_size hoa
    refine enum_over tup fun g en k => ?_
    obtain ⟨⟨old, he⟩, _⟩ := id en
    refine wpAny_pyIter_enum he ?_
    refine ⟨s1.heap.objs.size + 1, [s1.heap.objs.size + 1, s1.heap.objs.size], EnumT a _ _, IteT X.K a, H1, rfl, inv1.kept (t' := s1.toks) k, turn_enumT (Nat.succ_ne_self _) (Nat.ne_of_lt la) (Nat.ne_of_lt (Nat.lt_succ_of_lt la)), en, fun b hb => ?_, q⟩
    have up : s1.heap.objs.size ≤ b := by
      rcases List.mem_cons.mp hb with z | z
      · exact z ▸ Nat.le_succ _
      · exact Nat.le_of_eq (List.mem_singleton.mp z).symm
    exact inv1.fpOk up (inv1.hok.fresh up)
theorem walk_enumT {K : PySem.W.Frag} {a : Addr} {xs : List V} : Walk (IteT K a) xs.length (fun H => SqT K H a xs) (YPair (fun i => some (.int (i : Nat))) (fun i => xs[i]?)) where
  goes i H hi q := ⟨xs, xs[i], q, List.getElem?_eq_getElem hi⟩
  stops H q := ⟨xs, q, rfl⟩
  yields i H v H' _ q y := let ⟨T, x, h1, h2, h3, h4⟩ := y; ⟨T, .int (i : Nat), x, h1, h2, h3, rfl, h4 xs q⟩

/-! ### zip(text, tuple) -/
def IzST (K : PySem.W.Frag) (z : Str) (b : Addr) : It where
  go i H := ∃ (ys : List V) (y : V), SqT K H b ys ∧ i < z.cps.size ∧ ys[i]? = some y
  yld i H v H' := ∃ T c y, v = .ref T ∧ H T = none ∧ H' = upd H T (.tup [.str ⟨#[c]⟩, y]) ∧ z.cps[i]? = some c ∧ ∀ ys, SqT K H b ys → ys[i]? = some y
  stop i H := ∃ ys : List V, SqT K H b ys ∧ i = min z.cps.size ys.length
/-- the five cells of a zip over the text x and the tuple at b, i pairs taken -/
def ZipST (x : Str) (t : Tok) (b z TI TO i1 i2 : Addr) (i : Nat) (h : Heap) : Prop := IsZip h z TI TO .none ∧ IsTupOf2 h TI (.ref i1) (.ref i2) ∧ (∃ a1 a2, IsTupOf2 h TO a1 a2) ∧ h.IsStrIter i1 (strIterType x) x t i ∧ h.IsTupleIter i2 b i
theorem turn_zipST {P : Program} {w : World} {K : PySem.W.Frag} {elts : List Expr} {kk : Nat} {tpos : Pos} {b z TI TO i1 i2 : Addr} {x : Str} {t : Tok} (S : ZipSep2 z TI TO i1 i2 [i1] [i2, b]) (hb : b ≠ i2) :
    Turn P w K (.Tuple elts kk tpos) (IzST K x b) [z, TO, i1, i2, TI] z (ZipST x t b z TI TO i1 i2) := by
  have W : ∀ (A : Around), A.handled = none → ∀ items : Array Value, _ := fun A hh items =>
    WalksT.zipD2 (prog := P) (w := w) (A := A) S (Draws.text (A := A.in1) hh i1 x t) (Draws.tuple (A := A.in1) hh i2 b hb items)
  have sub : ∀ c ∈ [z, TO, i1, i2], c ∈ [z, TO, i1, i2, TI] := fun c hc => List.mem_append_left [TI] hc
  have down : ∀ {items : Array Value} (j : Nat) (g : Heap), (IsZip g z TI TO .none ∧ IsTupOf2 g TI (.ref i1) (.ref i2) ∧ (∃ a1 a2, IsTupOf2 g TO a1 a2) ∧ g.IsStrIter i1 (strIterType x) x t j ∧ g.IsTupleIter i2 b j ∧ g.IsTuple b items) → ZipST x t b z TI TO i1 i2 j g := fun j g st => ⟨st.1, st.2.1, st.2.2.1, st.2.2.2.1, st.2.2.2.2.1⟩
  refine turn_pairs (List.mem_cons_self ..) (fun i h st c hc => ?_) (fun i g g' st k => ?_) (fun A i s Q E st q => wpAny_pyIter_zip st.1 q) (fun X pins s σ H i eP ew eK hh inv st go => ?_) (fun X pins s σ H i eP ew eK hh inv st stop => ?_)
  · obtain ⟨s1, s2, ⟨u1, u2, s3⟩, ⟨o1, p1, _, d1⟩, ⟨o2, p2, _, d2⟩⟩ := st
    simp only [List.mem_cons, List.not_mem_nil, or_false] at hc
    rcases hc with rfl | rfl | rfl | rfl | rfl
    · exact ⟨_, s1, fun v q => nomatch q⟩
    · exact ⟨_, s3, fun v q => nomatch q⟩
    · exact ⟨o1, p1, fun v q => by rw [d1] at q; cases q⟩
    · exact ⟨o2, p2, fun v q => by rw [d2] at q; cases q⟩
    · exact ⟨_, s2, fun v q => nomatch q⟩
  · obtain ⟨s1, s2, ⟨u1, u2, s3⟩, ⟨o1, p1, r1⟩, s5⟩ := st
    have kk : ∀ c, c ∈ [z, TO, i1, i2, TI] → ∀ o, g.get? c = some o → g'.get? c = some o := k
    simp only [List.mem_cons, List.not_mem_nil, or_false, forall_eq_or_imp, forall_eq] at kk
    obtain ⟨k1, k2, k3, k4, k5⟩ := kk
    exact ⟨k1 _ s1, k5 _ s2, ⟨u1, u2, k2 _ s3⟩, ⟨o1, k3 _ p1, r1⟩, s5.at fun o q => k4 o q⟩
  · obtain ⟨ys, y, hq, hx, hy⟩ := go
    subst eK
    obtain ⟨its, rv, tup, _⟩ := inv.tuple hq
    obtain ⟨u, hu, ru⟩ := rv.get hy
    have hu' : its.toArray[i]? = some u := by simpa using hu
    have hin : i < its.toArray.size := (Array.getElem?_eq_some_iff.mp hu').1
    have hc : x.cps[i]? = some x.cps[i] := Array.getElem?_eq_getElem hx
    refine ⟨.str ⟨#[x.cps[i]]⟩, y, ⟨_, _, _, _, _, _, W X.A hh its.toArray, sub, ⟨st.1, st.2.1, st.2.2.1, st.2.2.2.1, st.2.2.2.2, tup⟩, fun j g q => down j g q, fun _ => ⟨by omega, fun vals hP => ?_⟩, fun f => absurd trivial f⟩, fun T hT => ⟨T, x.cps[i], y, rfl, hT, rfl, hc, fun l hl => by rw [inv.tuple_inj hl hq]; exact hy⟩⟩
    obtain ⟨x1, x2, ⟨c, tc, e1, rfl⟩, e2, rfl⟩ := hP
    rw [hc] at e1
    have e2 : its.toArray[i]? = some x2 := e2
    rw [hu'] at e2
    refine ⟨_, x2, rfl, ⟨tc, by rw [Option.some.inj e1]⟩, by rw [← Option.some.inj e2]; exact ru⟩
  · obtain ⟨ys, hq, hi⟩ := stop
    subst eK
    obtain ⟨its, rv, tup, _⟩ := inv.tuple hq
    have hl := rv.length
    exact ⟨_, _, _, _, _, _, W X.A hh its.toArray, sub, ⟨st.1, st.2.1, st.2.2.1, st.2.2.2.1, st.2.2.2.2, tup⟩, fun j g q => down j g q, fun f => f.elim, fun _ => (show i = min x.cps.size its.toArray.size from by
      have e : its.toArray.size = ys.length := by simpa using hl.symm
      rw [e]
      exact hi)⟩
def iZipST (K : PySem.W.Frag) (ta : TA) : TI := fun σ H R => ta σ H fun vs H1 => ∃ z b ys, vs = [.str z, .ref b] ∧ SqT K H1 b ys ∧ R (IzST K z b) H1
theorem pi_zipST {X : Cx} {e e2 : Expr} {ta : TA} {p pos tpos : Pos} {elts : List Expr} {kk : Nat} (hg : Gl X "zip") (hm : X.mg "zip" = none) (ha : PA X [e, e2] ta)
    (s1 : starEach [e, e2] X.env = (false, eval e X.env) :: starEach [e2] X.env := by rfl) (s2 : (backTo pos (starEach [e2] X.env)).any (·.1) = false := by rfl) : PI X (.Tuple elts kk tpos) (.Call (.Name "zip" p) [e, e2] [] pos) (iZipST X.K ta) where
  run pins s σ H R inv h := by
    refine Call_ (ld_blt inv hg hm PyProof.Rows.boot_zip (PyProof.Rows.callWith_type1 (thn (ha.run pos pins s σ H _ inv h) fun us s1 after => ?_) s1 s2))
    obtain ⟨vs, H1, inv1, rel, z, b, ys, rfl, hq, q⟩ := after
    obtain ⟨n, hn⟩ : ∃ n, n = s1.heap.objs.size := ⟨_, rfl⟩
    match us, rel with
    | [_, _], .cons r1 (.cons r2 .nil) =>
      obtain ⟨t, rfl⟩ := r1
      cases r2
      obtain ⟨its, _, tup, _⟩ := inv1.tuple hq
      have lb : b < s1.heap.objs.size := by obtain ⟨ob, hob, _⟩ := id tup; exact Heap.lt_size hob
      refine zip_begins2 (begins_text z t) (begins_tuple b its.toArray) trivial tup fun g c1 c2 c3 c4 c5 _ k => wpAny_pyIter_zip c1 ?_
      have S : ZipSep2 (s1.heap.objs.size + 4) (s1.heap.objs.size + 2) (s1.heap.objs.size + 3) s1.heap.objs.size (s1.heap.objs.size + 1) [s1.heap.objs.size] [s1.heap.objs.size + 1, b] :=
        zip_sep2 (fp1 := []) (fp2 := [b]) (fun c hc => by cases hc) (fun c hc => by rw [List.mem_singleton.mp hc]; exact lb)
      refine ⟨_, [s1.heap.objs.size + 4, s1.heap.objs.size + 3, s1.heap.objs.size, s1.heap.objs.size + 1, s1.heap.objs.size + 2], ZipST z t b _ _ _ _ _, IzST X.K z b, H1, rfl, inv1.kept (t' := s1.toks) k, turn_zipST S (Nat.ne_of_lt (Nat.lt_succ_of_lt lb)), ⟨c1, c2, ⟨_, _, c3⟩, ⟨_, c4, rfl, rfl⟩, ⟨_, c5, rfl, rfl⟩⟩, fun c hc => ?_, q⟩
      have up : s1.heap.objs.size ≤ c := by
        simp only [List.mem_cons, List.not_mem_nil, or_false] at hc
        rcases hc with rfl | rfl | rfl | rfl | rfl <;> first | exact Nat.le_refl _ | exact Nat.le_add_right _ _
      exact inv1.fpOk up (inv1.hok.fresh up)
theorem walk_zipST {K : PySem.W.Frag} {z : Str} {b : Addr} {ys : List V} (hl : z.cps.size = ys.length) : Walk (IzST K z b) ys.length (fun H => SqT K H b ys) (YPair (fun i => (z.cps[i]?).map fun c => V.str ⟨#[c]⟩) (fun i => ys[i]?)) where
  goes i H hi q := ⟨ys, ys[i], q, by omega, List.getElem?_eq_getElem hi⟩
  stops H q := ⟨ys, q, by omega⟩
  yields i H v H' _ q y := let ⟨T, c, y, h1, h2, h3, h4, h5⟩ := y; ⟨T, .str ⟨#[c]⟩, y, h1, h2, h3, by show Option.map _ z.cps[i]? = _; rw [h4]; rfl, h5 ys q⟩
end MyR

set_option Elab.async false
set_option linter.all false
set_option maxRecDepth 100000
set_option maxHeartbeats 1000000
namespace My
open PySem L2 MyR
def top (i : Nat) : Stmt := PySem.Challenge.pw_lowsure_k57_code_that_is_run.main.body.getD i (.Pass ⟨0, 0, 0, 0⟩)
/-- what the module's names hold -/
structure Glob (mg : Str → Option Value) : Prop where
  g_len : mg "len" = none
  g_max : mg "max" = none
  g_list : mg "list" = none
  g_tuple : mg "tuple" = none
  g_reversed : mg "reversed" = none
  g_range : mg "range" = none
  g_int : mg "int" = none
  g_str : mg "str" = none
  g_bool : mg "bool" = none
  g_isinstance : mg "isinstance" = none
  g_all : mg "all" = none
  g_enumerate : mg "enumerate" = none
  g_zip : mg "zip" = none
/-! ### the source of draws -/
def dKV (s n : Int) (l : Addr) : List (Key × V) := [(.inr "seed", .int s), (.inr "number", .int n), (.inr "left", .ref l)]
theorem k_sn : ¬ ((.inr "seed" : Key) = .inr "number") := fun h => absurd (Sum.inr.inj h) (by decide +kernel)
theorem k_sl : ¬ ((.inr "seed" : Key) = .inr "left") := fun h => absurd (Sum.inr.inj h) (by decide +kernel)
theorem k_nl : ¬ ((.inr "number" : Key) = .inr "left") := fun h => absurd (Sum.inr.inj h) (by decide +kernel)
theorem d_seed {s n : Int} {l : Addr} : valV (dKV s n l) (.inr "seed") = some (.int s) := valV_pos rfl
theorem d_number {s n : Int} {l : Addr} : valV (dKV s n l) (.inr "number") = some (.int n) := by
  unfold dKV; rw [valV_neg k_sn, valV_pos rfl]
theorem d_left {s n : Int} {l : Addr} : valV (dKV s n l) (.inr "left") = some (.ref l) := by
  unfold dKV; rw [valV_neg k_sl, valV_neg k_nl, valV_pos rfl]
theorem d_put_seed {s n z : Int} {l : Addr} : putK (dKV s n l) (.inr "seed") (.int z) = dKV z n l := by
  unfold putK
  rw [valV_any, d_seed]
  rw [if_pos (show (some (V.int s)).isSome = true from rfl)]
  unfold dKV
  simp only [List.map_cons, List.map_nil, if_true, if_neg (Ne.symm k_sn), if_neg (Ne.symm k_sl)]
theorem d_put_number {s n z : Int} {l : Addr} : putK (dKV s n l) (.inr "number") (.int z) = dKV s z l := by
  unfold putK
  rw [valV_any, d_number]
  rw [if_pos (show (some (V.int n)).isSome = true from rfl)]
  unfold dKV
  simp only [List.map_cons, List.map_nil, if_true, if_neg k_sn, if_neg (Ne.symm k_nl)]
theorem d_merge {s n : Int} {l : Addr} : mergeK [] (dKV s n l) = dKV s n l := by
  unfold mergeK dKV
  simp only [List.foldl_cons, List.foldl_nil]
  have e1 : putK ([] : List (Key × V)) (.inr "seed") (.int s) = [(.inr "seed", .int s)] := putK_new _ valV_nil
  have e2 : putK ([(.inr "seed", .int s)] : List (Key × V)) (.inr "number") (.int n) = [(.inr "seed", .int s), (.inr "number", .int n)] := putK_new _ (by rw [valV_neg k_sn]; rfl)
  have e3 : putK ([(.inr "seed", .int s), (.inr "number", .int n)] : List (Key × V)) (.inr "left") (.ref l) = [(.inr "seed", .int s), (.inr "number", .int n), (.inr "left", .ref l)] := putK_new _ (by rw [valV_neg k_sl, valV_neg k_nl]; rfl)
  rw [e1, e2, e3]
theorem g_seed {H : Hp} {d l : Addr} {s n : Int} (h : H d = some (.dK (dKV s n l))) : DGet H d (.str "seed") (some (.int s)) := by
  have q := DGet.k (k := .inr "seed") h
  rw [d_seed] at q
  exact q
theorem g_number {H : Hp} {d l : Addr} {s n : Int} (h : H d = some (.dK (dKV s n l))) : DGet H d (.str "number") (some (.int n)) := by
  have q := DGet.k (k := .inr "number") h
  rw [d_number] at q
  exact q
theorem g_left {H : Hp} {d l : Addr} {s n : Int} (h : H d = some (.dK (dKV s n l))) : DGet H d (.str "left") (some (.ref l)) := by
  have q := DGet.k (k := .inr "left") h
  rw [d_left] at q
  exact q
theorem p_seed {H : Hp} {d l : Addr} {s n z : Int} (h : H d = some (.dK (dKV s n l))) : DPut H d (.str "seed") (.int z) (upd H d (.dK (dKV z n l))) := by
  have q := DPut.k (k := .inr "seed") (v := .int z) h (by show 3 < sizeLine; decide)
  rw [d_put_seed] at q
  exact q
theorem p_number {H : Hp} {d l : Addr} {s n z : Int} (h : H d = some (.dK (dKV s n l))) : DPut H d (.str "number") (.int z) (upd H d (.dK (dKV s z l))) := by
  have q := DPut.k (k := .inr "number") (v := .int z) h (by show 3 < sizeLine; decide)
  rw [d_put_number] at q
  exact q
/-- what holds between a statement and the rest -/
theorem seq_by {t u : TS} {D : Ends} {σ : St} {H : Hp} (Pv : St → Hp → Prop) (h1 : ∀ D' : Ends, (∀ σ H, Pv σ H → D'.nx σ H) → t D' σ H) (h2 : ∀ σ H, Pv σ H → u D σ H) : tSeq t u D σ H := h1 { D with nx := u D } h2
structure Deal (H : Hp) (d l : Addr) : Prop where
  ex : ∃ (s n : Int) (ns : List Int), H d = some (.dK (dKV s n l)) ∧ H l = some (.lst (ns.map V.int)) ∧ 0 ≤ s ∧ s < 2147483648
/-- what stood but at d and l stands as it was -/
def Kept (d l : Addr) (H H' : Hp) : Prop := ∀ b o, H b = some o → b ≠ d → b ≠ l → H' b = some o
theorem Kept.refl {d l : Addr} {H : Hp} : Kept d l H H := fun _ _ e _ _ => e
theorem Kept.trans {d l : Addr} {H H1 H2 : Hp} (a : Kept d l H H1) (b : Kept d l H1 H2) : Kept d l H H2 := fun c o e h1 h2 => b c o (a c o e h1 h2) h1 h2
theorem Kept.d {d l : Addr} {H H1 : Hp} {o : HO} (a : Kept d l H H1) : Kept d l H (upd H1 d o) := fun c o e h1 h2 => by rw [upd_ne h1]; exact a c o e h1 h2
theorem Kept.l {d l : Addr} {H H1 : Hp} {o : HO} (a : Kept d l H H1) : Kept d l H (upd H1 l o) := fun c o e h1 h2 => by rw [upd_ne h2]; exact a c o e h1 h2
def spDraw : Sp := fun vs H Q _ => ∃ (d l : Addr) (m : Int), vs = [.ref d, .int m] ∧ Deal H d l ∧ 0 < m ∧ m.natAbs < 2 ^ 110 ∧
  ∀ (r : Int) (H' : Hp), 0 ≤ r → r < m → Deal H' d l → Kept d l H H' → Q (.int r) H'
section
variable {P : Program} {w : World} {K : PySem.W.Frag} {mg : Str → Option Value} {base : Heap}
abbrev s_law_draw : Stmt := top 45
abbrev N_law_draw : List Str := ["_law_deal_here", "_law_many", "_law_number_here", "_law_one", "_law_other"]
theorem sc_law_draw : FnScope N_law_draw ["_law_deal_here", "_law_many"] (defScope s_law_draw) := ⟨rfl, rfl, rfl, by decide +kernel, rfl, by decide +kernel, by decide +kernel⟩
theorem ok_law_draw {f : Addr} {fd : FuncData} (F : Fun K "_law_draw" "_law_draw" s_law_draw f fd) (T : Glob mg) : FnOk P w K mg base CX0 1 f fd ["_law_deal_here", "_law_many"] spDraw := by
  refine F.ok sc_law_draw (fun vs H Q E h => ?_) (fun cdv A outer s H vs Q E hr h => ?_)
  · obtain ⟨d, l, m, rfl, _⟩ := h
    rfl
  · obtain ⟨d, l, m, rfl, D, hm, hb, k⟩ := h
    have hu := hu_of hr
    have nd := sc_law_draw.nd
    refine ⟨_, (pss_cons (ps_while PassesOwn.never (PW.pt (pw_and (pt_cmpR op_eq (pe_dget hu (pv 0) pe_str (fun _ _ => rfl)) pe_int (nomark _)) (pw_and1 (pt_cmpR op_gt (pe_callB call_len_seq (by rfl) T.g_len PySem.boot_len (pa_cons (pe_dget hu (pv 0) pe_str (fun _ _ => rfl)) pa_nil)) pe_int (nomark _)))))
      (pss_one (ps_dput hu (pv 0) pe_str (pe_bm0 PySem.F.plainAttrs_list PySem.F.slot_list_pop PySem.F.type_list_pop mt_pop (pe_dget hu (pv 0) pe_str (fun _ _ => rfl))) rfl)))
    (pss_cons (ps_set (i := 2) nd rfl (Or.inl rfl) (pe_dget hu (pv 0) pe_str (fun _ _ => rfl)))
    (pss_cons (ps_if (pt_cmpR op_gt (pv 2) pe_int (nomark _))
    (pss_cons (ps_dput hu (pv 0) pe_str (pe_op op_fdivW (pv 2) (pv 1)) rfl)
    (pss_one (ps_ret (pe_op op_mod (pv 2) (pv 1)))))
    pss_nil)
    (pss_cons (ps_set (i := 3) nd rfl (Or.inl rfl) (pe_op op_mod (pe_op op_add (pe_op op_mul (pe_dget hu (pv 0) pe_str (fun _ _ => rfl)) pe_int) pe_int) pe_int))
    (pss_cons (ps_dput hu (pv 0) pe_str (pe_op op_mod (pe_op op_add (pe_op op_mul (pv 3) pe_int) pe_int) pe_int) rfl)
    (pss_cons (ps_set (i := 4) nd rfl (Or.inl rfl) (pe_op op_mod (pe_op op_mul (pe_dget hu (pv 0) pe_str (fun _ _ => rfl)) (pe_dget hu (pv 0) pe_str (fun _ _ => rfl))) pe_int))
    (pss_one (ps_ret (pe_op op_mod (pe_op op_add (pe_op op_mul (pe_op op_mod (pe_op op_mul (pv 3) (pv 3)) pe_int) pe_int) (pv 4)) (pv 1)))))))))), ?_⟩
    refine seq_by (fun σ H1 => σ = [some (.ref d), some (.int m), none, none, none] ∧ Deal H1 d l ∧ Kept d l H H1) (fun D' hD' => ?_) ?_
    · refine while_by (fun σ H1 => σ = [some (.ref d), some (.int m), none, none, none] ∧ Deal H1 d l ∧ Kept d l H H1)
        (fun _ H1 => match H1 l with | some (.lst xs) => xs.length | _ => 0) ⟨rfl, D, Kept.refl⟩ ?_ ?_
      · rintro σ H1 ⟨rfl, D1, kp⟩
        obtain ⟨s0, n, ns, hd, hl, hs0, hs1⟩ := id D1
        have ndl : d ≠ l := ne_of hd hl (by intro z; cases z)
        refine ⟨_, rfl, d, _, rfl, g_number hd, rfl, _, rfl, ?_⟩
        refine ite2 (fun hz => ?_) (fun hz => ?_)
        · refine ⟨_, rfl, d, _, rfl, g_left hd, l, _, rfl, .inl (SqL.of hl), _, _, rfl, rfl, _, rfl, ?_⟩
          refine ite2 (fun hz2 => ?_) (fun hz2 => ?_)
          · have hp : 0 < ns.length := by
              have := of_decide_eq_true hz2
              rw [List.length_map] at this
              omega
            have hg : (ns.map V.int)[(ns.map V.int).length - 1]? = some (.int (ns[ns.length - 1])) := by
              rw [List.length_map, List.getElem?_map, List.getElem?_eq_getElem (by omega)]
              rfl
            refine ⟨_, rfl, d, _, rfl, g_left hd, .inl ⟨rfl, _, SqL.of hl⟩, l, _, _, rfl, rfl, hl, hg, _, rfl, d, _, rfl, p_number (by rw [upd_ne ndl]; exact hd), ?_⟩
            have e2 : (ns.map V.int).dropLast = ns.dropLast.map V.int := by rw [List.map_dropLast]
            refine ⟨⟨rfl, ⟨⟨s0, _, ns.dropLast, upd_same, by rw [upd_ne ndl.symm, upd_same, e2], hs0, hs1⟩⟩, kp.l.d⟩, ?_⟩
            rw [upd_ne ndl.symm, upd_same, hl]
            show (ns.map V.int).dropLast.length < (ns.map V.int).length
            rw [List.length_dropLast, List.length_map]
            omega
          · exact hD' _ _ ⟨rfl, D1, kp⟩
        · refine iteF ?_
          exact hD' _ _ ⟨rfl, D1, kp⟩
      · intro σ H1 Q1 Q2 hq hc
        obtain ⟨x, e1, a, v, e2, hg, sc, b1, eb, hc⟩ := hc
        refine ⟨x, e1, a, v, e2, hg, sc, b1, eb, ?_⟩
        revert hc
        cases b1 with
        | false => exact fun hc => hq _ _ hc
        | true =>
          intro hc
          obtain ⟨x2, e3, a2, v2, e4, hg2, p, ys, e5, sq, i1, j1, e6, e7, k1, e8, hc⟩ := hc
          exact ⟨x2, e3, a2, v2, e4, hg2, p, ys, e5, sq, i1, j1, e6, e7, k1, e8, hq _ _ hc⟩
    · rintro σ H1 ⟨rfl, D1, kp⟩
      obtain ⟨s0, n, ns, hd, hl, hs0, hs1⟩ := id D1
      have ndl : d ≠ l := ne_of hd hl (by intro z; cases z)
      refine ⟨_, rfl, d, _, rfl, g_number hd, _, rfl, _, _, rfl, rfl, _, rfl, ?_⟩
      refine ite2 (fun hz => ?_) (fun hz => ?_)
      · have h63 : 0 < m := hm
        refine ⟨_, rfl, _, rfl, _, _, rfl, rfl, wide_div hm hb (by decide) (by decide), _, rfl, d, _, rfl, p_number hd, ?_⟩
        refine ⟨_, rfl, _, rfl, _, _, rfl, rfl, hm, ?_⟩
        exact k _ _ (Int.emod_nonneg _ (by omega)) (Int.emod_lt_of_pos _ hm) ⟨⟨s0, _, ns, upd_same, by rw [upd_ne ndl.symm]; exact hl, hs0, hs1⟩⟩ kp.d
      · -- the seed turns
        have r1 : ∀ (x y : Int), 0 < y → 0 ≤ x % y ∧ x % y < y := fun x y hy => ⟨Int.emod_nonneg _ (by omega), Int.emod_lt_of_pos _ hy⟩
        have ha1 := r1 (s0 * 48271 + 7919) 2147483647 (by decide)
        have hb1 := r1 ((s0 * 48271 + 7919) % 2147483647 * 40692 + 104729) 2147483399 (by decide)
        have q := r1 ((s0 * 48271 + 7919) % 2147483647 * ((s0 * 48271 + 7919) % 2147483647)) 2147483629 (by decide)
        refine ⟨_, rfl, d, _, rfl, g_seed hd, _, _, rfl, rfl, .inl ⟨by omega, by omega⟩, _, _, rfl, rfl, _, _, rfl, rfl, (by show (0 : Int) < 2147483647; decide), ?_⟩
        refine ⟨_, rfl, _, _, rfl, rfl, .inl ⟨by omega, by omega⟩, _, _, rfl, rfl, _, _, rfl, rfl, (by show (0 : Int) < 2147483399; decide), ?_⟩
        refine ⟨_, rfl, d, _, rfl, p_seed hd, ?_⟩
        refine ⟨_, rfl, d, _, rfl, g_seed upd_same, _, rfl, d, _, rfl, g_seed upd_same, _, _, rfl, rfl, .inl ⟨by omega, by omega⟩, _, _, rfl, rfl, (by show (0 : Int) < 2147483563; decide), ?_⟩
        refine ⟨_, rfl, _, rfl, _, _, rfl, rfl, .inl ⟨by omega, by omega⟩, _, _, rfl, rfl, (by show (0 : Int) < 2147483629; decide), _, _, rfl, rfl, .inl ⟨by omega, by omega⟩, _, rfl, _, _, rfl, rfl, _, rfl, _, _, rfl, rfl, hm, ?_⟩
        exact k _ _ (Int.emod_nonneg _ (by omega)) (Int.emod_lt_of_pos _ hm) ⟨⟨_, n, ns, upd_same, by rw [upd_ne ndl.symm]; exact hl, hb1.1, by omega⟩⟩ kp.d
end
end My

set_option Elab.async false
set_option linter.all false
set_option maxRecDepth 100000
set_option maxHeartbeats 1000000
namespace My
open PySem L2 MyR
/-- a new source of draws from the script -/
def spDeal (K : PySem.W.Frag) : Sp := fun vs H Q _ => ∃ (a : Addr) (ns : List Int), vs = [.ref a, .int 0] ∧ SqL K H a (ns.map V.int) ∧ ns.length ≤ 63 ∧
  ∀ (d l : Addr) (H' : Hp), H d = none → H l = none → Same H H' → Deal H' d l → Q (.ref d) H'
theorem cut_ints (ns : List Int) (lo hi : Option Int) : ∃ ms : List Int, cutV (ns.map V.int) lo hi = ms.map V.int ∧ ms.length ≤ ns.length := by
  unfold cutV
  rw [← List.map_drop, ← List.map_take]
  refine ⟨_, rfl, ?_⟩
  rw [List.length_take, List.length_drop]
  omega
theorem get_int {ms : List Int} {i : Nat} {x : V} (h : (ms.map V.int)[i]? = some x) : ∃ z, x = V.int z ∧ i < ms.length := by
  rw [List.getElem?_map] at h
  cases e : ms[i]? with
  | none => rw [e] at h; cases h
  | some z =>
    rw [e] at h
    exact ⟨z, (Option.some.inj h).symm, (List.getElem?_eq_some_iff.mp e).1⟩
theorem small63 {n : Nat} (h : n ≤ 63) : n < sizeLine := small1000 (by omega)
section
variable {P : Program} {w : World} {K : PySem.W.Frag} {mg : Str → Option Value} {base : Heap}
abbrev s_law_deal : Stmt := top 44
abbrev N_law_deal : List Str := ["_law_script", "_law_base", "_law_cells", "_law_cell", "_law_number_here"]
theorem sc_law_deal : FnScope N_law_deal ["_law_script", "_law_base"] (defScope s_law_deal) := ⟨rfl, rfl, rfl, by decide +kernel, rfl, by decide +kernel, by decide +kernel⟩
theorem ok_law_deal {f : Addr} {fd : FuncData} (F : Fun K "_law_deal" "_law_deal" s_law_deal f fd) (T : Glob mg) : FnOk P w K mg base CX0 1 f fd ["_law_script", "_law_base"] (spDeal K) := by
  refine F.ok sc_law_deal (fun vs H Q E h => ?_) (fun cdv A outer s H vs Q E hr h => ?_)
  · obtain ⟨a, ns, rfl, _⟩ := h
    rfl
  · obtain ⟨a, ns, rfl, hS, hlen, k⟩ := h
    have hu := hu_of hr
    have nd := sc_law_deal.nd
    refine ⟨_, (pss_cons (ps_setLc (i := 2) (own := [("_law_cell", 3)]) (g := gName 3) (tt := tYes) rfl nd rfl rfl (sw_true rfl rfl rfl (by decide +kernel)) (pi_list (pe_slice sl_list (pv 0) (po_some (pv 1)) (po_some pe_int))) (blkOk_by (N := N_law_deal) (sc := defScope s_law_deal) (by decide +kernel)) (fun _ _ _ _ _ => pg_name (i := 3) nd rfl (Or.inl rfl)) (fun _ _ _ _ _ => pts_nil) (fun _ _ _ _ _ => (pe_callB (call_max2 rfl) (by rfl) T.g_max (by decide +kernel) (pa_cons (pv 3) (pa_cons (pe_op op_sub pe_int (pv 3)) pa_nil)))))
    (pss_cons (ps_set (i := 4) nd rfl (Or.inl rfl) (pe_op op_add pe_int (pv 1)))
    (pss_cons (ps_for PassesOwn.never rfl (pi_list (pv 2)) (pg_name (i := 3) nd rfl (Or.inl rfl))
    (pss_one (ps_set (i := 4) nd rfl (Or.inl rfl) (pe_op op_mod (pe_op op_add (pe_op op_mul (pv 4) pe_int) (pe_op op_mod (pv 3) pe_int)) pe_int))))
    (pss_one (ps_ret (pe_disp (pps_cons pe_str (pv 4) (pps_cons pe_str pe_int (pps_cons pe_str (pe_lstRev rfl (by rfl) T.g_list (by rfl) T.g_reversed (pe_lc (own := [("_law_cell", 3)]) (g := gName 3) rfl nd (pi_list (pv 2)) (blkOk_by (N := N_law_deal) (sc := defScope s_law_deal) (by decide +kernel)) (fun _ _ _ _ _ => pg_name (i := 3) nd rfl (Or.inl rfl)) (fun _ _ _ _ _ => pts_one (pt_cmpR op_ge (pv 3) (pe_op op_pow pe_int pe_int) (nomark _))) (fun _ _ _ _ _ => (pv 3)))) pps_nil))) (by rfl) (by rfl) (fun z => by cases z) (by decide))))))), ?_⟩
    -- the cells
    refine ⟨_, rfl, _, rfl, _, rfl, _, rfl, a, _, rfl, hS, fun sl hsl => ?_⟩
    obtain ⟨ms, em, hml⟩ := cut_ints ns (some 0) (some 63)
    rw [em]
    refine ⟨sl, rfl, ⟨_, SqL.of upd_same⟩, fun D hD => ?_⟩
    have nDs : sl ≠ D := fun e => by rw [e, upd_same] at hD; cases hD
    have hD0 : H D = none := by rw [← upd_ne (H := H) (Ne.symm nDs)]; exact hD
    refine lc_list (K := K) (a := sl) (xs := ms.map V.int) (fun i H1 => Same H H1 ∧ H1 sl = some (.lst (ms.map V.int)) ∧ ∃ acc : List Int, H1 D = some (.lst (acc.map V.int)) ∧ acc.length = i)
      ⟨fun b o e => by rw [upd_ne (ne_of_none e hD0), upd_ne (ne_of_none e hsl)]; exact e, by rw [upd_ne nDs, upd_same], [], upd_same, rfl⟩ (fun i H1 _ ⟨_, h1, _⟩ => SqL.of h1) ?_ ?_
    · rintro i x H1 hx ⟨sm, h1, acc, h2, hl⟩
      obtain ⟨z, rfl, hi⟩ := get_int hx
      refine ⟨rfl, ?_⟩
      refine ⟨_, rfl, _, rfl, _, _, rfl, rfl, ?_⟩
      refine ⟨_, _, rfl, ?_⟩
      refine ⟨acc.map V.int, h2, by rw [List.length_map]; exact small63 (by omega), fun b o e => ?_, ?_, ?_⟩
      · rw [upd_ne (ne_of_none e hD0)]; exact sm b o e
      · rw [upd_ne nDs]; exact h1
      · refine ⟨acc ++ [if 0 - z > z then 0 - z else z], ?_, by rw [List.length_append, hl]; rfl⟩
        rw [upd_same, List.map_append]
        rfl
    · rintro H1 ⟨sm, h1, cs, h2, hl⟩
      rw [List.length_map] at hl
      refine ⟨_, rfl, _, _, rfl, rfl, ?_⟩
      refine ⟨_, rfl, D, rfl, ⟨_, SqL.of h2⟩, ?_⟩
      refine for_list (K := K) (a := D) (xs := cs.map V.int) (fun i σ H2 => ∃ (v : Option V) (t : Int), σ = [some (.ref a), some (.int 0), some (.ref D), v, some (.int t)] ∧ 0 ≤ t ∧ t < 2147483648 ∧ H2 = H1)
        ⟨none, 6143, rfl, by decide, by decide, rfl⟩ (fun i σ H2 _ ⟨_, _, _, _, _, e⟩ => by rw [e]; exact SqL.of h2) ?_ ?_
      · rintro i x σ H2 hx ⟨v, t, rfl, t0, t1, rfl⟩
        obtain ⟨z, rfl, hi⟩ := get_int hx
        refine ⟨_, rfl, _, _, rfl, rfl, .inl ⟨by omega, by omega⟩, _, rfl, _, _, rfl, rfl, (by show (0 : Int) < 2147483629; decide), _, _, rfl, rfl, _, _, rfl, rfl, (by show (0 : Int) < 2147483647; decide), ?_⟩
        refine ⟨_, _, rfl, Int.emod_nonneg _ (by decide), ?_, rfl⟩
        have := Int.emod_lt_of_pos (t * 69621 + z % 2147483629) (show (0 : Int) < 2147483647 by decide)
        omega
      · rintro σ H2 ⟨v, t, rfl, t0, t1, rfl⟩
        -- the dict
        intro d hd
        have nDd : D ≠ d := ne_of_none h2 hd
        refine ⟨_, rfl, ?_⟩
        refine ⟨_, rfl, D, rfl, ⟨_, SqL.of (by rw [upd_ne nDd]; exact h2)⟩, fun L hL => ?_⟩
        have nLd : d ≠ L := fun e => by rw [e, upd_same] at hL; cases hL
        have hL0 : H2 L = none := by rw [← upd_ne (H := H2) (Ne.symm nLd)]; exact hL
        have nDL : D ≠ L := ne_of_none h2 hL0
        refine lc_list (K := K) (a := D) (xs := cs.map V.int) (fun i H3 => Same H2 H3 ∧ H3 d = some (.dK []) ∧ ∃ acc : List Int, H3 L = some (.lst (acc.map V.int)) ∧ acc.length ≤ i)
          ⟨fun b o e => by rw [upd_ne (ne_of_none e hL0), upd_ne (ne_of_none e hd)]; exact e, by rw [upd_ne nLd, upd_same], [], upd_same, Nat.le_refl _⟩ (fun i H3 _ ⟨sm3, _, _⟩ => SqL.of (sm3 _ _ h2)) ?_ ?_
        · rintro i x H3 hx ⟨sm3, hd3, acc, h3, hl3⟩
          obtain ⟨z, rfl, hi⟩ := get_int hx
          refine ⟨rfl, ?_⟩
          refine ⟨_, rfl, _, _, rfl, rfl, ⟨by decide, by decide, by decide⟩, _, _, rfl, rfl, _, rfl, ?_⟩
          have go : ∀ (zs : List Int), zs.length ≤ i + 1 → ∀ H4, H4 = upd H3 L (.lst (zs.map V.int)) → Same H2 H4 ∧ H4 d = some (.dK []) ∧ ∃ acc : List Int, H4 L = some (.lst (acc.map V.int)) ∧ acc.length ≤ i + 1 := fun zs hz H4 e4 => by
            subst e4
            refine ⟨fun b o e => ?_, by rw [upd_ne nLd]; exact hd3, zs, upd_same, hz⟩
            rw [upd_ne (ne_of_none e hL0)]
            exact sm3 b o e
          refine ite2 (fun _ => ?_) (fun _ => ?_)
          · refine ⟨_, rfl, acc.map V.int, h3, by rw [List.length_map]; exact small63 (by omega), ?_⟩
            refine go (acc ++ [z]) (by rw [List.length_append]; exact Nat.succ_le_succ hl3) _ ?_
            rw [List.map_append]
            rfl
          · exact ⟨sm3, hd3, acc, h3, Nat.le_succ_of_le hl3⟩
        · rintro H3 ⟨sm3, hd3, acc, h3, hl3⟩
          refine ⟨L, _, rfl, SqL.of h3, fun R hR => ?_⟩
          have nRd : d ≠ R := ne_of_none hd3 hR
          refine ⟨by rw [upd_ne nRd]; exact hd3, dKV t 0 R, rfl, (by show 3 ≤ 15; decide), ?_⟩
          rw [d_merge]
          have hR2 : H2 R = none := sm3.free hR
          refine k d R _ (sm.free hd) (sm.free hR2) (fun b o e => ?_) ⟨⟨t, 0, acc.reverse, upd_same, ?_, t0, t1⟩⟩
          · have e2 := sm b o e
            rw [upd_ne (ne_of_none e2 hd), upd_ne (ne_of_none e2 hR2)]
            exact sm3 b o e2
          · rw [upd_ne (Ne.symm nRd), upd_same, List.map_reverse]
end
end My

set_option Elab.async false
set_option linter.all false
set_option maxRecDepth 100000
set_option maxHeartbeats 1000000
namespace MyN
open PySem PySem.Spec PyProof.Rows PySem.SeqAt
open Builtin
section
variable {M : Model} {prog : Program} {w : World} {A : Around} {E : Value → Shared → Prop} {s : Shared} {K : PySem.W.Frag} {x y C D f L : Addr} {ox : Obj} {od : Option Obj} {tb : Value} {h₀ : Heap} {m : Str → Option Value}
theorem ifBound_objNe {args : List Value} {Q : Option Value → Shared → Prop} (X : K.In s.heap) (I : PySem.W.InstAt s.heap x ox C od) (hs : PySem.W.findIn K (.ref C) "__ne__" = some (some (.builtin "object.__ne__")))
    (h : wpAny M A (call (.builtin "object.__ne__") (.ref x :: args)) (fun v => Q (some v)) E s) : wpAny M A (callSpecialIfBound? (.ref x) "__ne__" args) Q E s := by
  simp only [callSpecialIfBound?, bindSpecialIfBound?]
  refine wpAny_holding (wpAny_bind (wpAny_bind (wpAny_bind (I.type.here ((PySem.W.looks_findIn X hs).here ?_)))))
  refine wpAny_bind (wpAny_askSetting (wpAny_ite ?_))
  have fin : wpAny M A (call (.builtin "object.__ne__") ([.ref x] ++ args) >>= fun v => pure (some v)) Q E s := wpAny_bind (wpAny_mono h (fun v s' h' => wpAny_pure h') fun _ _ h' => h')
  split
  · exact wpAny_bind (wpAny_of_eq (F.cmp_object.ne.bind _) (wpAny_pure (by exact fin)))
  · exact wpAny_tryCatch (wpAny_bind (wpAny_of_eq (F.cmp_object.ne.bind _) (wpAny_pure (by exact fin))))
theorem objNe_entry {Q : Fin → Shared → Prop} (hu : A.units < cLine) (X : K.In s.heap) (I : PySem.W.InstAt s.heap x ox C od) (hs : PySem.W.findIn K (.ref C) "__eq__" = some (some (.ref f))) (hf : PySem.W.isFn K (.ref f) = true)
    (hcall : wpAny (model prog w) A (call (.ref f) [.ref x, .ref y]) (fun v s' => ∃ b, v = .bool b ∧ Q (.done (.ret (.bool (!b)))) s') E s) :
    wpAny (model prog w) A (Builtin.«object.__ne__» ⟨[.ref x, .ref y], []⟩) Q E s := by
  obtain ⟨h, g, d, t, os⟩ := s
  unfold Builtin.«object.__ne__»
  repeat (first
    | with_reducible refine wpAny_cRoomFor hu ?_
    | (refine wpAny_bind (m := callSpecialIfBound? (.ref x) (Str.ofString "__eq__") [.ref y])
        (PySem.W.ifBound_K X I hs hf (wpAny_mono hcall (fun r s' hr => by
          obtain ⟨b, rfl, hq⟩ := hr
          repeat (first | exact hq | exact wpAny_pure hq | exact wpAny_truthy_bool hq | (refine wpAny_bind (m := truthy (.bool _)) (wpAny_truthy_bool ?_)) | wp_step)) fun _ _ e => e)))
    | wp_step)
theorem call_objNe {Q : Value → Shared → Prop} (hu : A.units + 1 < cLine) (X : K.In s.heap) (I : PySem.W.InstAt s.heap x ox C od) (hm : PySem.W.mroIn K C (.type "object") = some true) (hs : PySem.W.findIn K (.ref C) "__eq__" = some (some (.ref f))) (hf : PySem.W.isFn K (.ref f) = true)
    (hcall : wpAny (model prog w) A.in1 (call (.ref f) [.ref x, .ref y]) (fun v s' => ∃ b, v = .bool b ∧ Q (.bool (!b)) s') E s) :
    wpAny (model prog w) A (call (.builtin "object.__ne__") [.ref x, .ref y]) Q E s :=
  wpAny_call (codeAny_call_builtin F.cmp_object.ne.plain F.cmpEntry_ne (PySem.W.check_slot F.cmpKind_ne F.cmpSplit_ne (I.type.andThen (PySem.W.looks_mroIn X hm)) (F.cmpArgs_ne _ _)
    (objNe_entry (A := A.in1) hu X I hs hf hcall)))
theorem ne_K {Q : Value → Shared → Prop} (hu : A.units + 1 < cLine) (X : K.In s.heap) (I : PySem.W.InstAt s.heap x ox C od) (hb : PySem.W.Looks (model prog w) s.heap (typeOf (.ref y)) tb) (hn : PySem.W.notFirst K C tb = true)
    (hne : PySem.W.findIn K (.ref C) "__ne__" = some (some (.builtin "object.__ne__"))) (hm : PySem.W.mroIn K C (.type "object") = some true) (hs : PySem.W.findIn K (.ref C) "__eq__" = some (some (.ref f))) (hf : PySem.W.isFn K (.ref f) = true)
    (hcall : wpAny (model prog w) A.in1 (call (.ref f) [.ref x, .ref y]) (fun v s' => ∃ b, v = .bool b ∧ Q (.bool (!b)) s') E s) :
    wpAny (model prog w) A (richCompare .NotEq (.ref x) (.ref y)) Q E s := by
  have one : wpAny (model prog w) A (tryCompare (.ref x) (cmpInfo .NotEq).2.1 (.ref y)) (fun r s' => ∃ v, r = some v ∧ Q v s') E s := by
    unfold tryCompare
    refine wpAny_bind (ifBound_objNe X I hne (call_objNe hu X I hm hs hf (wpAny_mono hcall (fun v s' hv => ?_) fun _ _ e => e)))
    obtain ⟨b, rfl, hq⟩ := hv
    exact ⟨b, rfl, wpAny_pure ⟨_, rfl, hq⟩⟩
  unfold richCompare
  simp only [oneThing_ref]
  refine wpAny_holding (wpAny_bind (wpAny_cRoomFor (Nat.lt_of_succ_lt hu) ?_))
  refine wpAny_bind (I.type.here (wpAny_bind (hb.here ?_)))
  split
  · rename_i q
    have e : PySem.W.subIn K tb (.ref C) = some false := by
      rcases Bool.or_eq_true_iff.mp hn with e | e
      · rw [beq_iff_eq.mp e] at q; simp at q
      · exact beq_iff_eq.mp e
    refine wpAny_bind ((PySem.W.looks_subIn X e).here ?_)
    simp only [Bool.false_eq_true, if_false]
    refine wpAny_bind (wpAny_mono one (fun r s' z => ?_) fun _ _ e => e)
    obtain ⟨v, rfl, hq⟩ := z
    exact wpAny_pure hq
  · refine wpAny_bind (wpAny_pure ?_)
    simp only [Bool.false_eq_true, if_false]
    refine wpAny_bind (wpAny_mono one (fun r s' z => ?_) fun _ _ e => e)
    obtain ⟨v, rfl, hq⟩ := z
    exact wpAny_pure hq
end
end MyN

set_option Elab.async false
set_option linter.all false
set_option maxRecDepth 100000
set_option maxHeartbeats 1000000
namespace MyR
open PySem PySem.Spec PyProof.Rows L2
/-- the class at C has its == at f, and no != of its own -/
structure EqC (K : PySem.W.Frag) (C f : Addr) : Prop where
  eq : PySem.W.findIn K (.ref C) "__eq__" = some (some (.ref f))
  ne : PySem.W.findIn K (.ref C) "__ne__" = some (some (.builtin "object.__ne__"))
  fn : PySem.W.isFn K (.ref f) = true
  mo : PySem.W.mroIn K C (.type "object") = some true
def rEqF (X : Cx) (neg : Bool) : R2 := fun x y H Q => ∃ (a b C dx dy : Addr) (fs gs : List (Str × V)) (f : Addr) (fd : FuncData) (ps : List Str) (sp : Sp) (k : Nat) (CX : CXT) (E : XK), x = .ref a ∧ y = .ref b ∧ H a = some (.ins C dx fs) ∧ H b = some (.ins C dy gs) ∧ EqC X.K C f ∧
  FnOk X.prog X.w X.K X.mg X.base CX k f fd ps sp ∧ Room (k + 1) X.A ∧ Binds X.K fd ps [] ∧ Passes CX X E ∧ sp [.ref a, .ref b] H (fun v H' => ∃ t : Bool, v = .bl t ∧ Q (.bl (if neg = true then !t else t)) H') E
section
variable {X : Cx}
theorem op_eqF : OpR X (compareOp .Eq) (rEqF X false) := by
  intro pins s σ H x y u v Q I rx ry h
  obtain ⟨a, b, C, dx, dy, fs, gs, f, fd, ps, sp, k, CX, E, rfl, rfl, ha, hb', c, F, hr, hb, hx, hsp⟩ := h
  cases rx
  cases ry
  obtain ⟨mA, J, _⟩ := ins_get I.hok ha
  obtain ⟨mB, J', _⟩ := ins_get I.hok hb'
  obtain ⟨od, J, _⟩ := J.look
  obtain ⟨od', J', _⟩ := J'.look
  obtain ⟨m, hF⟩ := I.fr
  show wpAny (model X.prog X.w) X.A (richCompare .Eq (.ref a) (.ref b)) (EP X pins σ Q) X.xe s
  refine PySem.W.cmp_K (op := .Eq) (tb := .ref C) hr.units0 hF I.ok.mod.kin J J'.type (by simp [PySem.W.notFirst]) c.eq c.fn ?_
  have e0 := I.env0
  have hl := F.len _ _ _ _ hsp
  have r2 : Vals [V.ref a, V.ref b] [Value.ref a, Value.ref b] := .cons rfl (.cons rfl .nil)
  refine wpAny_call (codeAny_mono (F.run X.A X.stack s H ⟨[.ref a, .ref b], []⟩ [.ref a, .ref b] [.ref a, .ref b] _ E (hr.mono (Nat.le_succ _)) e0 (by
    have := hb s [.ref a, .ref b] I.kIn (by simpa using hl)
    simpa using this) r2 hsp) fun r s' hq => ?_)
  cases r with
  | error e => exact hx pins σ H s e s' I hq
  | ok fl =>
    cases fl with
    | ret w =>
      obtain ⟨z, H', I', rz, t, ez, q⟩ := I.after hq
      subst ez
      cases rz
      exact ⟨.bl t, H', I', rfl, q⟩
    | next => exact False.elim hq
    | brk => exact False.elim hq
    | cont => exact False.elim hq
theorem op_neF : OpR X (compareOp .NotEq) (rEqF X true) := by
  intro pins s σ H x y u v Q I rx ry h
  obtain ⟨a, b, C, dx, dy, fs, gs, f, fd, ps, sp, k, CX, E, rfl, rfl, ha, hb', c, F, hr, hb, hx, hsp⟩ := h
  cases rx
  cases ry
  obtain ⟨mA, J, _⟩ := ins_get I.hok ha
  obtain ⟨mB, J', _⟩ := ins_get I.hok hb'
  obtain ⟨od, J, _⟩ := J.look
  obtain ⟨od', J', _⟩ := J'.look
  show wpAny (model X.prog X.w) X.A (richCompare .NotEq (.ref a) (.ref b)) (EP X pins σ Q) X.xe s
  refine MyN.ne_K (tb := .ref C) (hu_of hr) I.kIn J J'.type (by simp [PySem.W.notFirst]) c.ne c.mo c.eq c.fn ?_
  have e0 := I.env0
  have hl := F.len _ _ _ _ hsp
  have r2 : Vals [V.ref a, V.ref b] [Value.ref a, Value.ref b] := .cons rfl (.cons rfl .nil)
  refine wpAny_call (codeAny_mono (F.run X.A.in1 X.stack s H ⟨[.ref a, .ref b], []⟩ [.ref a, .ref b] [.ref a, .ref b] _ E hr.in1 e0.in1 (by
    have := hb s [.ref a, .ref b] I.kIn (by simpa using hl)
    simpa using this) r2 hsp) fun r s' hq => ?_)
  cases r with
  | error e => exact hx pins σ H s e s' I hq
  | ok fl =>
    cases fl with
    | ret w =>
      obtain ⟨z, H', I', rz, t, ez, q⟩ := I.after hq
      subst ez
      cases rz
      exact ⟨t, rfl, .bl (!t), H', I', rfl, q⟩
    | next => exact False.elim hq
    | brk => exact False.elim hq
    | cont => exact False.elim hq
end
end MyR

set_option Elab.async false
set_option linter.all false
set_option maxRecDepth 100000
set_option maxHeartbeats 1000000
namespace MyR
open PySem PySem.Spec PyProof.Rows L2
/-- len of an object whose class has its own -/
def rLenF (X : Cx) : List V → Hp → VK → Prop := fun xs H Q => ∃ (a C dx : Addr) (fs : List (Str × V)) (f : Addr) (fd : FuncData) (ps : List Str) (sp : Sp) (k : Nat) (CX : CXT) (E : XK), xs = [.ref a] ∧ H a = some (.ins C dx fs) ∧
  PySem.W.findIn X.K (.ref C) "__len__" = some (some (.ref f)) ∧ PySem.W.isFn X.K (.ref f) = true ∧ FnOk X.prog X.w X.K X.mg X.base CX k f fd ps sp ∧ Room (k + 1) X.A ∧ Binds X.K fd ps [] ∧ Passes CX X E ∧
  sp [.ref a] H (fun v H' => ∃ n : Int, v = .int n ∧ 0 ≤ n ∧ n < 9223372036854775808 ∧ Q (.int n) H') E
theorem call_lenF {X : Cx} : CallR X (.builtin "len") (rLenF X) := by
  intro pins s σ H xs us Q I r h
  obtain ⟨a, C, dx, fs, f, fd, ps, sp, k, CX, E, rfl, ha, hfi, hfn, F, hr, hb, hx, hsp⟩ := h
  obtain ⟨u, rfl, ru⟩ := vals1 r
  obtain rfl : u = Value.ref a := ru
  obtain ⟨mA, J, _⟩ := ins_get I.hok ha
  obtain ⟨od, J, _⟩ := J.look
  obtain ⟨m, hF⟩ := I.fr
  refine PySem.W.len_K hF I.ok.mod.kin J hfi hfn ?_
  have e0 := I.env0
  have hl := F.len _ _ _ _ hsp
  have r2 : Vals [V.ref a] [Value.ref a] := .cons rfl .nil
  refine wpAny_call (codeAny_mono (F.run X.A.in1 X.stack s H ⟨[.ref a], []⟩ [.ref a] [.ref a] _ E hr.in1 e0.in1 (by
    have := hb s [.ref a] I.kIn (by simpa using hl)
    simpa using this) r2 hsp) fun r s' hq => ?_)
  cases r with
  | error e => exact hx pins σ H s e s' I hq
  | ok fl =>
    cases fl with
    | ret w =>
      obtain ⟨z, H', I', rz, n, ez, n0, n1, q⟩ := I.after hq
      subst ez
      obtain ⟨t, rfl⟩ := rz
      exact ⟨⟨n0, by omega⟩, ⟨.int n, H', I'.tok _, ⟨_, rfl⟩, q⟩⟩
    | next => exact False.elim hq
    | brk => exact False.elim hq
    | cont => exact False.elim hq
end MyR

set_option Elab.async false
set_option linter.all false
set_option maxRecDepth 100000
set_option maxHeartbeats 1000000
namespace My
open PySem L2 MyR
structure Df (P : Program) (w : World) (K : PySem.W.Frag) (mg : Str → Option Value) (base : Heap) (k : Nat) (x : Str) (ps : List Str) (sp : Sp) where
  f : Addr
  fd : FuncData
  ok : FnOk P w K mg base CX0 k f fd ps sp
  g : mg x = some (.ref f)
  kp : PySem.W.keepIn K (.ref f) = true
  b : Binds K fd ps []
theorem Deal.new {H : Hp} {d l p : Addr} {o : HO} (D : Deal H d l) (h : H p = none) : Deal (upd H p o) d l := by
  obtain ⟨s, n, ns, hd, hl, r⟩ := D.ex
  exact ⟨⟨s, n, ns, by rw [upd_ne (ne_of_none hd h)]; exact hd, by rw [upd_ne (ne_of_none hl h)]; exact hl, r⟩⟩
theorem Deal.other {H : Hp} {d l p : Addr} {o : HO} (D : Deal H d l) (h1 : p ≠ d) (h2 : p ≠ l) : Deal (upd H p o) d l := by
  obtain ⟨s, n, ns, hd, hl, r⟩ := D.ex
  exact ⟨⟨s, n, ns, by rw [upd_ne (Ne.symm h1)]; exact hd, by rw [upd_ne (Ne.symm h2)]; exact hl, r⟩⟩
theorem Deal.free {H : Hp} {d l p : Addr} (D : Deal H d l) (h : H p = none) : p ≠ d ∧ p ≠ l := by
  obtain ⟨s, n, ns, hd, hl, r⟩ := D.ex
  exact ⟨Ne.symm (ne_of_none hd h), Ne.symm (ne_of_none hl h)⟩
theorem Deal.same {H H' : Hp} {d l : Addr} (D : Deal H d l) (s : Same H H') : Deal H' d l := by
  obtain ⟨z, n, ns, hd, hl, r⟩ := D.ex
  exact ⟨z, n, ns, s _ _ hd, s _ _ hl, r⟩
theorem Deal.nt {H : Hp} {d l p : Addr} {xs : List V} (D : Deal H d l) (h : H p = some (.tup xs)) : p ≠ d ∧ p ≠ l := by
  obtain ⟨z, n, ns, hd, hl, r⟩ := D.ex
  exact ⟨ne_of h hd (by intro z; cases z), ne_of h hl (by intro z; cases z)⟩
theorem Deal.ni {H : Hp} {d l p C dx : Addr} {fs : List (Str × V)} (D : Deal H d l) (h : H p = some (.ins C dx fs)) : p ≠ d ∧ p ≠ l := by
  obtain ⟨z, n, ns, hd, hl, r⟩ := D.ex
  exact ⟨ne_of h hd (by intro z; cases z), ne_of h hl (by intro z; cases z)⟩
theorem Kept.new {d l p : Addr} {H H1 : Hp} {o : HO} (a : Kept d l H H1) (h : H p = none) : Kept d l H (upd H1 p o) := fun c u e h1 h2 => by rw [upd_ne (ne_of_none e h)]; exact a c u e h1 h2
theorem Kept.of {d l : Addr} {H H' : Hp} (s : Same H H') : Kept d l H H' := fun b o e _ _ => s b o e
theorem Kept.free {d l p : Addr} {H H1 : Hp} (k : Kept d l H H1) (D : Deal H1 d l) (h : H1 p = none) : H p = none := by
  obtain ⟨n1, n2⟩ := D.free h
  cases e : H p with
  | none => rfl
  | some o => rw [k p o e n1 n2] at h; cases h
theorem new_same {H : Hp} {p : Addr} {o : HO} (h : H p = none) : Same H (upd H p o) := fun b q e => by rw [upd_ne (ne_of_none e h)]; exact e
theorem Same.tr {H H1 H2 : Hp} (a : Same H H1) (b : Same H1 H2) : Same H H2 := fun c o e => b c o (a c o e)
theorem same_free {H H1 : Hp} {p : Addr} (s : Same H H1) (h : H1 p = none) : H p = none := by
  cases e : H p with
  | none => rfl
  | some o => rw [s p o e] at h; cases h

/-! ### rows of code -/
structure Rw where
  w : Str
  xs : List Int
def Rw.vs (r : Rw) : List V := .str r.w :: r.xs.map V.int
def forms : List (Str × Str) := [("set", "WI"), ("copy", "WR"), ("add", "WRR"), ("sub", "WRR"), ("mul", "WRR"), ("left", "WR"), ("right", "WR"), ("load", "WS"), ("store", "SR"), ("skip", "RMCN")]
def mods : List Int := [1, 2, 4, 8, 16, 32, 64]
/-- a number that may stand behind a letter -/
def itOk (c : Nat) (z : Int) : Prop :=
  (c = 73 ∧ -18446744073709551616 < z ∧ z < 18446744073709551616) ∨ ((c = 87 ∨ c = 82) ∧ 0 ≤ z ∧ z ≤ 7) ∨ (c = 83 ∧ 0 ≤ z ∧ z ≤ 999) ∨ (c = 77 ∧ z ∈ mods) ∨ ((c = 67 ∨ c = 78) ∧ 0 ≤ z ∧ z ≤ 1000)
/-- a row that may stand -/
def Rw.ok (r : Rw) : Prop := (∃ f, (r.w, f) ∈ forms ∧ r.xs.length = f.cps.size ∧ ∀ (i c : Nat) (z : Int), f.cps[i]? = some c → r.xs[i]? = some z → itOk c z) ∧
  (r.w = ("skip" : Str) → ∃ a m c n : Int, r.xs = [a, m, c, n] ∧ c < m)
/-- it skips no rows that are not there: left rows stand behind it -/
def Rw.fits (r : Rw) (left : Int) : Prop := r.w = ("skip" : Str) → ∃ a m c n : Int, r.xs = [a, m, c, n] ∧ n ≤ left
def RowAt (H : Hp) (r : Rw) (p : Addr) : Prop := H p = some (.tup r.vs)
theorem RowAt.same {H H' : Hp} {r : Rw} {p : Addr} (h : RowAt H r p) (s : Same H H') : RowAt H' r p := s _ _ h
theorem RowAt.kept {H H' : Hp} {r : Rw} {p d l : Addr} (h : RowAt H r p) (D : Deal H d l) (k : Kept d l H H') : RowAt H' r p := k _ _ h (D.nt h).1 (D.nt h).2
/-- the tables of the program -/
structure Tabs (w : World) (K : PySem.W.Frag) (mg : Str → Option Value) : Prop where
  limit : ∃ t, mg "LIMIT" = some (.int 18446744073709551616 t)
  rows : ∃ t, mg "MOST_ROWS" = some (.int 1000 t)
  regs : ∃ t, mg "MOST_REGISTERS" = some (.int 8 t)
  slots : ∃ t, mg "SLOTS" = some (.int 1000 t)
  moduli : ∃ a, mg "MODULI" = some (.ref a) ∧ ∀ H, SqT K H a (mods.map V.int)
  forms : ∃ a, mg "FORMS" = some (.ref a) ∧ (∃ es n, KDict K w a es n) ∧ ∀ x f, (x, f) ∈ forms → KDct K w a x (.str f)
def sg (c : Nat) : Str := ⟨#[c]⟩
theorem sg_inj {a b : Nat} : sg a = sg b ↔ a = b := by
  constructor
  · intro h
    have h1 : (sg a).cps = (sg b).cps := congrArg Str.cps h
    have h2 : (#[a] : Array Nat) = #[b] := h1
    simpa using h2
  · intro h; rw [h]
theorem sg_eq (c b : Nat) (x : Str) (hx : x = sg b) : decide (V.str (sg c) = V.str x) = decide (c = b) := by
  subst hx
  refine decide_eq_decide.mpr ⟨fun h => ?_, fun h => by rw [h]⟩
  exact sg_inj.mp (V.str.inj h)
theorem sg_I : ("I" : Str) = sg 73 := by decide +kernel
theorem sg_S : ("S" : Str) = sg 83 := by decide +kernel
theorem sg_M : ("M" : Str) = sg 77 := by decide +kernel
theorem wr_cps : ("WR" : Str).cps.toList = [87, 82] := by decide +kernel

def spInt : Sp := fun vs H Q _ => ∃ i : Int, vs = [.int i] ∧ Q (.bl true) H
def spBtw : Sp := fun vs H Q _ => ∃ i lo hi : Int, vs = [.int i, .int lo, .int hi] ∧ lo ≤ i ∧ i ≤ hi ∧ Q (.bl true) H
def spSmall : Sp := fun vs H Q _ => ∃ i : Int, vs = [.int i] ∧ -18446744073709551616 < i ∧ i < 18446744073709551616 ∧ Q (.bl true) H
def spItem : Sp := fun vs H Q _ => ∃ (c : Nat) (z : Int), vs = [.str (sg c), .int z] ∧ itOk c z ∧ Q (.bl true) H
def spRow : Sp := fun vs H Q _ => ∃ (p : Addr) (r : Rw), vs = [.ref p] ∧ RowAt H r p ∧ r.ok ∧ ∀ H', Same H H' → Q (.bl true) H'
/-- a row as it stands when one row is gone -/
def Rw.short (r : Rw) (at_ gone : Int) : Rw := match r.xs with
  | [a, m, c, n] => if r.w = ("skip" : Str) ∧ at_ < gone ∧ gone ≤ at_ + n then ⟨r.w, [a, m, c, n - 1]⟩ else r
  | _ => r
def spShort : Sp := fun vs H Q _ => ∃ (p : Addr) (r : Rw) (i g : Int), vs = [.ref p, .int i, .int g] ∧ RowAt H r p ∧ r.ok ∧ ∀ (q : Addr) H', Same H H' → RowAt H' (r.short i g) q → Q (.ref q) H'
section
variable {P : Program} {w : World} {K : PySem.W.Frag} {mg : Str → Option Value} {base : Heap}
abbrev s_is_integer : Stmt := top 8
abbrev N_is_integer : List Str := ["value"]
theorem sc_is_integer : FnScope N_is_integer ["value"] (defScope s_is_integer) := ⟨rfl, rfl, rfl, by decide +kernel, rfl, by decide +kernel, by decide +kernel⟩
theorem ok_is_integer {f : Addr} {fd : FuncData} (F : Fun K "is_integer" "is_integer" s_is_integer f fd) (T : Glob mg) : FnOk P w K mg base CX0 1 f fd ["value"] spInt := by
  refine F.ok sc_is_integer (fun vs H Q E h => ?_) (fun cdv A outer s H vs Q E hr h => ?_)
  · obtain ⟨i, rfl, _⟩ := h
    rfl
  · obtain ⟨i, rfl, k⟩ := h
    refine ⟨_, (pss_one (ps_ret (pe_and (pe_callB call_isi (by rfl) T.g_isinstance (by decide +kernel) (pa_cons (pv 0) (pa_cons (pe_bltn (v := .ty "int") (by rfl) T.g_int (by decide +kernel) rfl) pa_nil))) (pe_one (pe_not (pe_callB call_isi (by rfl) T.g_isinstance (by decide +kernel) (pa_cons (pv 0) (pa_cons (pe_bltn (v := .ty "bool") (by rfl) T.g_bool (by decide +kernel) rfl) pa_nil)))))))), ?_⟩
    refine ⟨_, rfl, _, _, _, _, true, rfl, .ty "int", .base (.int i), kit_ty (a := "int") (b := "int") (r := true) (by decide +kernel), _, rfl, ?_⟩
    exact ⟨_, rfl, _, _, _, _, false, rfl, .ty "bool", .base (.int i), kit_ty (a := "int") (b := "bool") (r := false) (by decide +kernel), _, rfl, k⟩
abbrev s_is_between : Stmt := top 9
abbrev N_is_between : List Str := ["value", "least", "most"]
theorem sc_is_between : FnScope N_is_between ["value", "least", "most"] (defScope s_is_between) := ⟨rfl, rfl, rfl, by decide +kernel, rfl, by decide +kernel, by decide +kernel⟩
theorem ok_is_between {f : Addr} {fd : FuncData} (F : Fun K "is_between" "is_between" s_is_between f fd) (D_is_integer : Df P w K mg base 1 "is_integer" ["value"] spInt) : FnOk P w K mg base CX0 2 f fd ["value", "least", "most"] spBtw := by
  refine F.ok sc_is_between (fun vs H Q E h => ?_) (fun cdv A outer s H vs Q E hr h => ?_)
  · obtain ⟨v, lo, hi, rfl, _⟩ := h
    rfl
  · obtain ⟨i, lo, hi, rfl, h1, h2, k⟩ := h
    refine ⟨_, (pss_one (ps_ret (pe_and (pe_call D_is_integer.ok (hr.mono (by decide)) (by rfl) D_is_integer.g D_is_integer.kp D_is_integer.b .nil pass0 (pa_cons (pv 0) pa_nil)) (pe_one (pe_chain op_le op_le (pv 1) (pv 0) (pv 2)))))), ?_⟩
    refine ⟨_, rfl, i, rfl, _, rfl, ?_⟩
    refine ⟨_, rfl, _, rfl, _, _, rfl, rfl, _, rfl, ?_⟩
    rw [decide_eq_true h1]
    refine ⟨_, rfl, _, _, rfl, rfl, ?_⟩
    show Q (.bl (decide (i ≤ hi))) H
    rw [decide_eq_true h2]
    exact k
abbrev s_is_small : Stmt := top 10
abbrev N_is_small : List Str := ["value"]
theorem sc_is_small : FnScope N_is_small ["value"] (defScope s_is_small) := ⟨rfl, rfl, rfl, by decide +kernel, rfl, by decide +kernel, by decide +kernel⟩
theorem ok_is_small {f : Addr} {fd : FuncData} (F : Fun K "is_small" "is_small" s_is_small f fd) (T2 : Tabs w K mg) (D_is_integer : Df P w K mg base 1 "is_integer" ["value"] spInt) : FnOk P w K mg base CX0 2 f fd ["value"] spSmall := by
  obtain ⟨tL, hL⟩ := T2.limit
  refine F.ok sc_is_small (fun vs H Q E h => ?_) (fun cdv A outer s H vs Q E hr h => ?_)
  · obtain ⟨v, rfl, _⟩ := h
    rfl
  · obtain ⟨i, rfl, h1, h2, k⟩ := h
    refine ⟨_, (pss_one (ps_ret (pe_and (pe_call D_is_integer.ok (hr.mono (by decide)) (by rfl) D_is_integer.g D_is_integer.kp D_is_integer.b .nil pass0 (pa_cons (pv 0) pa_nil)) (pe_one (pe_chain op_lt op_lt (pe_un un_neg (pe_glob (v := .int 18446744073709551616) rfl hL ⟨_, rfl⟩)) (pv 0) (pe_glob (v := .int 18446744073709551616) rfl hL ⟨_, rfl⟩)))))), ?_⟩
    refine ⟨_, rfl, i, rfl, _, rfl, ?_⟩
    refine ⟨_, rfl, _, rfl, _, _, rfl, rfl, _, rfl, ?_⟩
    rw [decide_eq_true (show -18446744073709551616 < i by omega)]
    refine ⟨_, _, rfl, rfl, ?_⟩
    show Q (.bl (decide (i < 18446744073709551616))) H
    rw [decide_eq_true h2]
    exact k
abbrev s_is_item : Stmt := top 20
abbrev N_is_item : List Str := ["letter", "value"]
theorem sc_is_item : FnScope N_is_item ["letter", "value"] (defScope s_is_item) := ⟨rfl, rfl, rfl, by decide +kernel, rfl, by decide +kernel, by decide +kernel⟩
theorem in_mods {z : Int} (h : z ∈ mods) : inV (.int z) (mods.map V.int) = true := by
  unfold inV
  rw [List.any_map]
  exact List.any_eq_true.mpr ⟨z, h, by show (z == z) = true; exact beq_self_eq_true z⟩
theorem mods_bound : ∀ z ∈ mods, (1 : Int) ≤ z ∧ z ≤ 64 := by decide
theorem mods_flat : (mods.map V.int).all flatV = true := by decide
theorem ok_is_item {f : Addr} {fd : FuncData} (F : Fun K "is_item" "is_item" s_is_item f fd) (T2 : Tabs w K mg) (D_is_between : Df P w K mg base 2 "is_between" ["value", "least", "most"] spBtw) (D_is_small : Df P w K mg base 2 "is_small" ["value"] spSmall) : FnOk P w K mg base CX0 3 f fd ["letter", "value"] spItem := by
  obtain ⟨tR, hMR⟩ := T2.rows
  obtain ⟨tG, hMG⟩ := T2.regs
  obtain ⟨tS, hSL⟩ := T2.slots
  obtain ⟨aM, hM, hMs⟩ := T2.moduli
  refine F.ok sc_is_item (fun vs H Q E h => ?_) (fun cdv A outer s H vs Q E hr h => ?_)
  · obtain ⟨c, z, rfl, _⟩ := h
    rfl
  · obtain ⟨c, z, rfl, hok, k⟩ := h
    refine ⟨_, (pss_cons (ps_if (pt_cmpR op_eq (pv 0) pe_str (nomark _))
    (pss_one (ps_ret (pe_call D_is_small.ok (hr.mono (by decide)) (by rfl) D_is_small.g D_is_small.kp D_is_small.b .nil pass0 (pa_cons (pv 1) pa_nil))))
    pss_nil)
    (pss_cons (ps_if (pt_cmpR op_in_sign (pv 0) pe_str (by rfl))
    (pss_one (ps_ret (pe_call D_is_between.ok (hr.mono (by decide)) (by rfl) D_is_between.g D_is_between.kp D_is_between.b .nil pass0 (pa_cons (pv 1) (pa_cons pe_int (pa_cons (pe_op op_sub (pe_glob (v := .int 8) rfl hMG ⟨_, rfl⟩) pe_int) pa_nil))))))
    pss_nil)
    (pss_cons (ps_if (pt_cmpR op_eq (pv 0) pe_str (nomark _))
    (pss_one (ps_ret (pe_call D_is_between.ok (hr.mono (by decide)) (by rfl) D_is_between.g D_is_between.kp D_is_between.b .nil pass0 (pa_cons (pv 1) (pa_cons pe_int (pa_cons (pe_op op_sub (pe_glob (v := .int 1000) rfl hSL ⟨_, rfl⟩) pe_int) pa_nil))))))
    pss_nil)
    (pss_cons (ps_if (pt_cmpR op_eq (pv 0) pe_str (nomark _))
    (pss_one (ps_ret (pe_and (pe_call D_is_between.ok (hr.mono (by decide)) (by rfl) D_is_between.g D_is_between.kp D_is_between.b .nil pass0 (pa_cons (pv 1) (pa_cons pe_int (pa_cons (pe_ix ix_tup (pe_glob (v := .ref aM) rfl hM rfl) (pe_un un_neg pe_int) (fun _ _ => rfl)) pa_nil)))) (pe_one (pe_cmpR op_in_seq (pv 1) (pe_glob (v := .ref aM) rfl hM rfl) (by rfl))))))
    pss_nil)
    (pss_one (ps_ret (pe_call D_is_between.ok (hr.mono (by decide)) (by rfl) D_is_between.g D_is_between.kp D_is_between.b .nil pass0 (pa_cons (pv 1) (pa_cons pe_int (pa_cons (pe_glob (v := .int 1000) rfl hMR ⟨_, rfl⟩) pa_nil)))))))))), ?_⟩
    refine ⟨_, rfl, rfl, _, rfl, ?_⟩
    rw [sg_eq c 73 _ sg_I]
    refine ite2 (fun h1 => ?_) (fun h1 => ?_)
    · have h1 := of_decide_eq_true h1
      subst h1
      refine ⟨_, rfl, z, rfl, ?_, ?_, k⟩ <;> (unfold itOk at hok; omega)
    have h1 : ¬ c = 73 := fun e => h1 (decide_eq_true e)
    refine ⟨_, rfl, c, _, rfl, rfl, _, rfl, ?_⟩
    rw [wr_cps]
    refine ite2 (fun h2 => ?_) (fun h2 => ?_)
    · have h2 := of_decide_eq_true h2
      have h2 : c = 87 ∨ c = 82 := by simpa using h2
      refine ⟨_, rfl, _, _, rfl, rfl, z, 0, 7, rfl, ?_, ?_, k⟩ <;> (unfold itOk at hok; omega)
    have h2 : ¬ (c = 87 ∨ c = 82) := fun e => h2 (decide_eq_true (by simpa using e))
    refine ⟨_, rfl, rfl, _, rfl, ?_⟩
    rw [sg_eq c 83 _ sg_S]
    refine ite2 (fun h3 => ?_) (fun h3 => ?_)
    · have h3 := of_decide_eq_true h3
      refine ⟨_, rfl, _, _, rfl, rfl, z, 0, 999, rfl, ?_, ?_, k⟩ <;> (unfold itOk at hok; omega)
    have h3 : ¬ c = 83 := fun e => h3 (decide_eq_true e)
    refine ⟨_, rfl, rfl, _, rfl, ?_⟩
    rw [sg_eq c 77 _ sg_M]
    refine ite2 (fun h4 => ?_) (fun h4 => ?_)
    · have h4 := of_decide_eq_true h4
      have hz : z ∈ mods := by
        rcases hok with h | h | h | h | h
        · omega
        · omega
        · omega
        · exact h.2
        · omega
      have hb := mods_bound z hz
      refine ⟨_, rfl, _, rfl, aM, _, _, .int 64, rfl, rfl, hMs _, by rfl, z, 1, 64, rfl, hb.1, hb.2, _, rfl, ?_⟩
      refine ⟨_, rfl, aM, _, rfl, .inr (hMs _), rfl, mods_flat, ?_⟩
      rw [in_mods hz]
      exact k
    have h4 : ¬ c = 77 := fun e => h4 (decide_eq_true e)
    refine ⟨_, rfl, z, 0, 1000, rfl, ?_, ?_, k⟩ <;> (unfold itOk at hok; omega)
end
end My

set_option Elab.async false
set_option linter.all false
set_option maxRecDepth 100000
set_option maxHeartbeats 1000000
namespace My
open PySem L2 MyR
theorem cut_tail (x : V) (ys : List V) : cutV (x :: ys) (some 1) none = ys := by
  unfold cutV
  have e1 : HT.sIx (x :: ys).length 0 (some 1) = 1 := by
    show (if (1 : Int) < 0 then ((1 : Int) + ((x :: ys).length : Int)).toNat else min (1 : Int).toNat (x :: ys).length) = 1
    rw [if_neg (by decide), List.length_cons]
    show min 1 (ys.length + 1) = 1
    omega
  have e2 : HT.sIx (x :: ys).length (x :: ys).length none = (x :: ys).length := rfl
  rw [e1, e2, List.length_cons]
  show (ys.take (ys.length + 1 - 1)) = ys
  rw [Nat.add_sub_cancel, List.take_length]
theorem not_whole_tail (x : V) (ys : List V) : ¬ (HT.sIx (x :: ys).length 0 (some 1) = 0 ∧ HT.sIx (x :: ys).length (x :: ys).length none = (x :: ys).length) := by
  rintro ⟨h, _⟩
  have e1 : HT.sIx (x :: ys).length 0 (some 1) = 1 := by
    show (if (1 : Int) < 0 then ((1 : Int) + ((x :: ys).length : Int)).toNat else min (1 : Int).toNat (x :: ys).length) = 1
    rw [if_neg (by decide), List.length_cons]
    show min 1 (ys.length + 1) = 1
    omega
  omega
theorem all_true (n : Nat) : (List.replicate n true).all id = true := by
  rw [List.all_eq_true]
  intro b hb
  rw [List.eq_of_mem_replicate hb]
  rfl
theorem form_small : ∀ p ∈ forms, p.2.cps.size ≤ 4 := by decide +kernel
theorem vs_len (r : Rw) : r.vs.length = r.xs.length + 1 := by
  unfold Rw.vs
  rw [List.length_cons, List.length_map]
theorem Rw.ok.small {r : Rw} (h : r.ok) : r.xs.length ≤ 4 := by
  obtain ⟨⟨f, hf, hl, _⟩, _⟩ := h
  rw [hl]
  exact form_small _ hf
section
variable {P : Program} {w : World} {K : PySem.W.Frag} {mg : Str → Option Value} {base : Heap}
abbrev s_is_row : Stmt := top 21
abbrev N_is_row : List Str := ["row", "form", "letter", "value"]
theorem sc_is_row : FnScope N_is_row ["row"] (defScope s_is_row) := ⟨rfl, rfl, rfl, by decide +kernel, rfl, by decide +kernel, by decide +kernel⟩
theorem ok_is_row {f : Addr} {fd : FuncData} (F : Fun K "is_row" "is_row" s_is_row f fd) (T : Glob mg) (T2 : Tabs w K mg) (D_is_item : Df P w K mg base 3 "is_item" ["letter", "value"] spItem) : FnOk P w K mg base CX0 4 f fd ["row"] spRow := by
  obtain ⟨aF, hF, ⟨es, n0, DF⟩, hFs⟩ := T2.forms
  refine F.ok sc_is_row (fun vs H Q E h => ?_) (fun cdv A outer s H vs Q E hr h => ?_)
  · obtain ⟨p, r, rfl, _⟩ := h
    rfl
  · obtain ⟨p, r, rfl, hp, hok, k⟩ := h
    have hu := hu_of hr
    have nd := sc_is_row.nd
    refine ⟨_, (pss_cons (ps_if (PW.pt (pw_or (pt_not (pt_val (pe_callB call_isi (by rfl) T.g_isinstance (by decide +kernel) (pa_cons (pv 0) (pa_cons (pe_bltn (v := .ty "tuple") (by rfl) T.g_tuple (by decide +kernel) rfl) pa_nil))))) (pw_or (pt_cmpR op_eq (pe_callB call_len_seq (by rfl) T.g_len PySem.boot_len (pa_cons (pv 0) pa_nil)) pe_int (nomark _)) (pw_or (pt_not (pt_val (pe_callB call_isi (by rfl) T.g_isinstance (by decide +kernel) (pa_cons (pe_ix ix_tup (pv 0) pe_int (fun _ _ => rfl)) (pa_cons (pe_bltn (v := .ty "str") (by rfl) T.g_str (by decide +kernel) rfl) pa_nil))))) (pw_or1 (pt_cmpR (op_notIn_kd DF) (pe_ix ix_tup (pv 0) pe_int (fun _ _ => rfl)) (pe_glob (v := .ref aF) rfl hF rfl) (by rfl)))))))
    (pss_one (ps_ret pe_bl))
    pss_nil)
    (pss_cons (ps_set (i := 1) nd rfl (Or.inl rfl) (pe_ix ix_kdict (pe_glob (v := .ref aF) rfl hF rfl) (pe_ix ix_tup (pv 0) pe_int (fun _ _ => rfl)) (fun _ _ => rfl)))
    (pss_cons (ps_if (PW.pt (pw_or (pt_cmpR op_ne (pe_callB call_len_seq (by rfl) T.g_len PySem.boot_len (pa_cons (pv 0) pa_nil)) (pe_op op_add (pe_callB call_len_str (by rfl) T.g_len PySem.boot_len (pa_cons (pv 1) pa_nil)) pe_int) (nomark _)) (pw_or1 (pt_not (pt_val (pe_callB (cr_all rfl) (by rfl) T.g_all (by decide +kernel) (pa_cons (pe_lc (own := [("letter", 2), ("value", 3)]) (g := gTup K 2 (gCons (gName 2) (gCons (gName 3) gNil))) (tt := tYes) rfl nd (pi_zipST (by rfl) T.g_zip (pa_cons (pv 1) (pa_cons (pe_slice sl_tup (pv 0) (po_some pe_int) po_none) pa_nil))) (blkOk_by (N := N_is_row) (sc := defScope s_is_row) (by decide +kernel)) (fun _ _ _ _ _ => pg_tup (by rfl) (pgs_cons (pg_name (i := 2) nd rfl (Or.inl rfl)) (pgs_cons (pg_name (i := 3) nd rfl (Or.inl rfl)) pgs_nil))) (fun _ _ _ _ _ => pts_nil) (fun _ _ _ _ _ => (pe_call D_is_item.ok (hr.mono (by decide)) (by rfl) D_is_item.g D_is_item.kp D_is_item.b .nil pass0 (pa_cons (pv 2) (pa_cons (pv 3) pa_nil))))) pa_nil)))))))
    (pss_one (ps_ret pe_bl))
    pss_nil)
    (pss_one (ps_ret (pe_or (pe_cmpR op_ne (pe_ix ix_tup (pv 0) pe_int (fun _ _ => rfl)) pe_str (nomark _)) (pe_one (pe_cmpR op_lt (pe_ix ix_tup (pv 0) pe_int (fun _ _ => rfl)) (pe_ix ix_tup (pv 0) pe_int (fun _ _ => rfl)) (nomark _))))))))), ?_⟩
    obtain ⟨⟨fm, hfm, hlen, hit⟩, hskip⟩ := id hok
    obtain ⟨es', n', u, hl', _, hu', ru⟩ := hFs _ _ hfm
    have hsq : ∀ H', Same H H' → SqT K H' p r.vs := fun H' sm => SqT.of (sm _ _ hp)
    have sq0 := hsq H (Same.refl H)
    have h4 := hok.small
    have hvl := vs_len r
    -- the tests
    refine ⟨_, rfl, _, _, _, _, true, rfl, .ty "tuple", .base (.tup hp), kit_ty (a := "tuple") (b := "tuple") (r := true) (by decide +kernel), _, rfl, ?_⟩
    refine ⟨_, rfl, p, _, rfl, .inr sq0, rfl, _, rfl, ?_⟩
    refine ite2 (fun h0 => ?_) (fun _ => ?_)
    · have h0 := V.int.inj (of_decide_eq_true h0)
      omega
    refine ⟨_, rfl, p, _, _, .str r.w, rfl, rfl, sq0, atI_nat (j := 0) rfl, ?_⟩
    refine ⟨_, _, _, _, true, rfl, .ty "str", .base (.str r.w), kit_ty (a := "str") (b := "str") (r := true) (by decide +kernel), _, rfl, ?_⟩
    refine ⟨_, rfl, p, _, _, .str r.w, rfl, rfl, sq0, atI_nat (j := 0) rfl, ?_⟩
    refine ⟨r.w, some u, rfl, rfl, hu', _, rfl, ?_⟩
    -- the form
    refine ⟨_, rfl, p, _, _, .str r.w, rfl, rfl, sq0, atI_nat (j := 0) rfl, aF, r.w, .str fm, rfl, rfl, hFs _ _ hfm, ?_⟩
    have hfl : fm.length = fm.cps.size := rfl
    refine ⟨_, rfl, p, _, rfl, .inr sq0, _, rfl, fm, rfl, Nat.le_of_lt (small1000 (by rw [hfl, ← hlen]; omega)), _, _, rfl, rfl, rfl, _, rfl, ?_⟩
    refine iteNS (by rw [hfl, ← hlen, hvl]; simp) ?_
    -- the items
    refine ⟨_, rfl, _, rfl, _, rfl, p, _, rfl, sq0, not_whole_tail _ _, fun q hq => ?_⟩
    rw [show cutV r.vs (some 1) none = r.xs.map V.int from cut_tail _ _]
    refine ⟨fm, q, _, rfl, SqT.of upd_same, fun D hD => ?_⟩
    have hqH : H q = none := hq
    have hDq : q ≠ D := fun e => by rw [e, upd_same] at hD; cases hD
    have hDH : H D = none := by rw [← upd_ne (H := H) (Ne.symm hDq)]; exact hD
    refine lc_it (walk_zipST (by rw [List.length_map, hlen])) (fun i H1 => Same H H1 ∧ H1 q = some (.tup (r.xs.map V.int)) ∧ H1 D = some (.lst ((List.replicate i true).map V.bl))) ⟨fun b o e => by rw [upd_ne (ne_of_none e hDH), upd_ne (ne_of_none e hqH)]; exact e, by rw [upd_ne hDq, upd_same], upd_same⟩ (fun i H1 _ h1 => SqT.of h1.2.1) ?_ ?_
    · rintro i v H1 H2 hi ⟨sm, h1, h2⟩ ⟨Tt, x, y, rfl, hT, rfl, hx, hy⟩
      rw [List.length_map] at hi
      replace hx : (fm.cps[i]?).map (fun c => V.str ⟨#[c]⟩) = some x := hx
      replace hy : (r.xs.map V.int)[i]? = some y := hy
      obtain ⟨c, hc, rfl⟩ : ∃ c, fm.cps[i]? = some c ∧ x = V.str (sg c) := by
        cases e : fm.cps[i]? with
        | none => rw [e] at hx; cases hx
        | some c => rw [e] at hx; exact ⟨c, rfl, (Option.some.inj hx).symm⟩
      obtain ⟨z, hz, rfl⟩ : ∃ z, r.xs[i]? = some z ∧ y = V.int z := by
        rw [List.getElem?_map] at hy
        cases e : r.xs[i]? with
        | none => rw [e] at hy; cases hy
        | some z => rw [e] at hy; exact ⟨z, rfl, (Option.some.inj hy).symm⟩
      have nqT : q ≠ Tt := ne_of_none h1 hT
      have nDT : D ≠ Tt := ne_of_none h2 hT
      refine ⟨Tt, _, rfl, SqT.of upd_same, rfl, _, _, rfl, _, _, rfl, rfl, rfl, ?_⟩
      refine ⟨_, rfl, _, rfl, c, z, rfl, hit i c z hc hz, ?_⟩
      refine ⟨(List.replicate i true).map V.bl, by rw [upd_ne nDT]; exact h2, by rw [List.length_map, List.length_replicate]; exact small1000 (by omega), fun b o e => ?_, ?_, ?_⟩
      · rw [upd_ne (ne_of_none e hDH), upd_ne (ne_of_none (sm _ _ e) hT)]
        exact sm _ _ e
      · rw [upd_ne hDq, upd_ne nqT]
        exact h1
      · rw [upd_same, List.replicate_succ', List.map_append]
        rfl
    · rintro H1 ⟨sm, h1, h2⟩
      refine ⟨D, List.replicate _ true, rfl, SqL.of h2, ?_⟩
      rw [all_true]
      refine ⟨_, rfl, ?_⟩
      -- what is returned
      have sq1 := hsq H1 sm
      refine ⟨_, rfl, p, _, _, .str r.w, rfl, rfl, sq1, atI_nat (j := 0) rfl, rfl, _, rfl, ?_⟩
      by_cases hs : r.w = ("skip" : Str)
      · obtain ⟨a, m, c, n, ex, hcm⟩ := hskip hs
        have evs : r.vs = [.str r.w, .int a, .int m, .int c, .int n] := by unfold Rw.vs; rw [ex]; rfl
        rw [decide_eq_true (show V.str r.w = V.str "skip" by rw [hs])]
        rw [evs] at sq1
        refine ⟨_, rfl, p, _, _, .int c, rfl, rfl, sq1, atI_nat (j := 3) rfl, _, rfl, p, _, _, .int m, rfl, rfl, sq1, atI_nat (j := 2) rfl, _, _, rfl, rfl, ?_⟩
        show Q (.bl (decide (c < m))) H1
        rw [decide_eq_true hcm]
        exact k H1 sm
      · rw [decide_eq_false (show ¬ V.str r.w = V.str "skip" from fun e => hs (V.str.inj e))]
        exact k H1 sm
abbrev s_shortened : Stmt := top 23
abbrev N_shortened : List Str := ["row", "at", "gone"]
theorem sc_shortened : FnScope N_shortened ["row", "at", "gone"] (defScope s_shortened) := ⟨rfl, rfl, rfl, by decide +kernel, rfl, by decide +kernel, by decide +kernel⟩
theorem short_other {r : Rw} {i g : Int} (h : ¬ r.w = ("skip" : Str)) : r.short i g = r := by
  unfold Rw.short
  split
  · rw [if_neg (fun z => h z.1)]
  · rfl
theorem short_skip {r : Rw} {i g a m c n : Int} (hx : r.xs = [a, m, c, n]) (h : r.w = ("skip" : Str)) (h1 : i < g) (h2 : g ≤ i + n) : r.short i g = ⟨r.w, [a, m, c, n - 1]⟩ := by
  unfold Rw.short
  rw [hx]
  exact if_pos ⟨h, h1, h2⟩
theorem short_far {r : Rw} {i g a m c n : Int} (hx : r.xs = [a, m, c, n]) (h : ¬ (i < g ∧ g ≤ i + n)) : r.short i g = r := by
  unfold Rw.short
  rw [hx]
  exact if_neg (fun z => h z.2)
theorem ok_shortened {f : Addr} {fd : FuncData} (F : Fun K "shortened" "shortened" s_shortened f fd) : FnOk P w K mg base CX0 1 f fd ["row", "at", "gone"] spShort := by
  refine F.ok sc_shortened (fun vs H Q E h => ?_) (fun cdv A outer s H vs Q E hr h => ?_)
  · obtain ⟨p, r, i, g, rfl, _⟩ := h
    rfl
  · obtain ⟨p, r, i, g, rfl, hp, hok, k⟩ := h
    refine ⟨_, (pss_cons (ps_if (PW.pt (pw_and (pt_cmpR op_eq (pe_ix ix_tup (pv 0) pe_int (fun _ _ => rfl)) pe_str (nomark _)) (pw_and1 (pt_chain op_lt op_le (pv 1) (pv 2) (pe_op op_add (pv 1) (pe_ix ix_tup (pv 0) pe_int (fun _ _ => rfl)))))))
    (pss_one (ps_ret (pe_tup (pa_cons pe_str (pa_cons (pe_ix ix_tup (pv 0) pe_int (fun _ _ => rfl)) (pa_cons (pe_ix ix_tup (pv 0) pe_int (fun _ _ => rfl)) (pa_cons (pe_ix ix_tup (pv 0) pe_int (fun _ _ => rfl)) (pa_cons (pe_op op_sub (pe_ix ix_tup (pv 0) pe_int (fun _ _ => rfl)) pe_int) pa_nil))))))))
    pss_nil)
    (pss_one (ps_ret (pv 0)))), ?_⟩
    have sq0 : SqT K H p r.vs := SqT.of hp
    refine ⟨_, rfl, p, _, _, .str r.w, rfl, rfl, sq0, atI_nat (j := 0) rfl, rfl, _, rfl, ?_⟩
    refine ite2 (fun hs => ?_) (fun hs => ?_)
    · have hs := V.str.inj (of_decide_eq_true hs)
      obtain ⟨a, m, c, n, ex, hcm⟩ := hok.2 hs
      have evs : r.vs = [.str r.w, .int a, .int m, .int c, .int n] := by unfold Rw.vs; rw [ex]; rfl
      rw [evs] at sq0
      refine ⟨_, rfl, _, rfl, _, _, rfl, rfl, _, rfl, ?_⟩
      refine ite2 (fun h1 => ?_) (fun h1 => ?_)
      · have h1 := of_decide_eq_true h1
        refine ⟨_, rfl, _, rfl, p, _, _, .int n, rfl, rfl, sq0, atI_nat (j := 4) rfl, _, _, rfl, rfl, _, _, rfl, rfl, _, rfl, ?_⟩
        refine ite2 (fun h2 => ?_) (fun h2 => ?_)
        · have h2 := of_decide_eq_true h2
          refine ⟨_, rfl, p, _, _, .int a, rfl, rfl, sq0, atI_nat (j := 1) rfl, ?_⟩
          refine ⟨_, rfl, p, _, _, .int m, rfl, rfl, sq0, atI_nat (j := 2) rfl, ?_⟩
          refine ⟨_, rfl, p, _, _, .int c, rfl, rfl, sq0, atI_nat (j := 3) rfl, ?_⟩
          refine ⟨_, rfl, p, _, _, .int n, rfl, rfl, sq0, atI_nat (j := 4) rfl, _, _, rfl, rfl, ?_⟩
          refine ⟨(by show 5 ≤ sizeLine; decide), fun q hq => k q _ (new_same hq) ?_⟩
          rw [short_skip ex hs h1 h2]
          show upd H q _ q = some (.tup (Rw.vs ⟨r.w, [a, m, c, n - 1]⟩))
          rw [upd_same, hs]
          rfl
        · refine ⟨_, rfl, k p H (Same.refl H) ?_⟩
          rw [short_far ex (fun z => h2 (decide_eq_true z.2))]
          exact hp
      · refine ⟨_, rfl, ?_⟩
        refine ⟨_, rfl, k p H (Same.refl H) ?_⟩
        rw [short_far ex (fun z => h1 (decide_eq_true z.1))]
        exact hp
    · refine ⟨_, rfl, k p H (Same.refl H) ?_⟩
      rw [short_other (fun e => hs (decide_eq_true (by rw [e])))]
      exact hp
end
end My

set_option Elab.async false
set_option linter.all false
set_option maxRecDepth 100000
set_option maxHeartbeats 1000000
namespace My
open PySem L2 MyR
/-! ### rows in the heap -/
structure RowsAt (H : Hp) (rs : List Rw) (as : List Addr) : Prop where
  len : as.length = rs.length
  at_ : ∀ (i : Nat) r, rs[i]? = some r → ∃ p, as[i]? = some p ∧ RowAt H r p
theorem RowsAt.nil {H : Hp} : RowsAt H [] [] := ⟨rfl, fun i r h => by simp at h⟩
theorem RowsAt.same {H H' : Hp} {rs : List Rw} {as : List Addr} (h : RowsAt H rs as) (s : Same H H') : RowsAt H' rs as := ⟨h.len, fun i r e => let ⟨p, e1, e2⟩ := h.at_ i r e; ⟨p, e1, e2.same s⟩⟩
theorem RowsAt.kept {H H' : Hp} {rs : List Rw} {as : List Addr} {d l : Addr} (h : RowsAt H rs as) (D : Deal H d l) (k : Kept d l H H') : RowsAt H' rs as := ⟨h.len, fun i r e => let ⟨p, e1, e2⟩ := h.at_ i r e; ⟨p, e1, e2.kept D k⟩⟩
theorem RowsAt.upd {H : Hp} {rs : List Rw} {as : List Addr} {D : Addr} {xs : List V} {o : HO} (h : RowsAt H rs as) (hD : H D = some (.lst xs)) : RowsAt (upd H D o) rs as :=
  ⟨h.len, fun i r e => let ⟨p, e1, e2⟩ := h.at_ i r e; ⟨p, e1, by unfold RowAt; rw [upd_ne (ne_of e2 hD (by intro z; cases z))]; exact e2⟩⟩
theorem RowsAt.updN {H : Hp} {rs : List Rw} {as : List Addr} {D : Addr} {o : HO} (h : RowsAt H rs as) (hD : H D = none) : RowsAt (L2.upd H D o) rs as := h.same (new_same hD)
theorem RowsAt.snoc {H : Hp} {rs : List Rw} {as : List Addr} {r : Rw} {p : Addr} (h : RowsAt H rs as) (hp : RowAt H r p) : RowsAt H (rs ++ [r]) (as ++ [p]) := by
  refine ⟨by rw [List.length_append, List.length_append, h.len]; rfl, fun i r' e => ?_⟩
  by_cases hi : i < rs.length
  · rw [List.getElem?_append_left hi] at e
    obtain ⟨q, e1, e2⟩ := h.at_ i r' e
    exact ⟨q, by rw [List.getElem?_append_left (by rw [h.len]; exact hi)]; exact e1, e2⟩
  · rw [List.getElem?_append_right (by omega)] at e
    have h0 : i - rs.length = 0 := by
      by_cases h1 : i - rs.length = 0
      · exact h1
      · rw [List.getElem?_eq_none (by simp only [List.length_cons, List.length_nil]; omega)] at e
        cases e
    rw [h0] at e
    have e' : r = r' := Option.some.inj e
    refine ⟨p, ?_, by rw [← e']; exact hp⟩
    rw [List.getElem?_append_right (by rw [h.len]; omega), h.len, h0]
    rfl
def refs (as : List Addr) : List V := as.map V.ref
theorem refs_len (as : List Addr) : (refs as).length = as.length := List.length_map ..
theorem refs_at {as : List Addr} {i : Nat} {p : Addr} (h : as[i]? = some p) : (refs as)[i]? = some (.ref p) := by unfold refs; rw [List.getElem?_map, h]; rfl
/-- rows that a Code may have -/
def RsOk (rs : List Rw) : Prop := ∀ (i : Nat) r, rs[i]? = some r → r.ok ∧ r.fits ((rs.length : Int) - 1 - (i : Int))
/-- a code with these rows -/
def CodeAt (C : Addr) (H : Hp) (rs : List Rw) (c : Addr) : Prop := ∃ (dx t : Addr) (as : List Addr), H c = some (.ins C dx [("rows", .ref t)]) ∧ H t = some (.tup (refs as)) ∧ RowsAt H rs as
def LstAt (H : Hp) (rs : List Rw) (a : Addr) : Prop := ∃ as : List Addr, H a = some (.lst (refs as)) ∧ RowsAt H rs as
theorem CodeAt.same {C : Addr} {H H' : Hp} {rs : List Rw} {c : Addr} (h : CodeAt C H rs c) (s : Same H H') : CodeAt C H' rs c := let ⟨dx, t, as, e1, e2, e3⟩ := h; ⟨dx, t, as, s _ _ e1, s _ _ e2, e3.same s⟩
theorem CodeAt.kept {C : Addr} {H H' : Hp} {rs : List Rw} {c d l : Addr} (h : CodeAt C H rs c) (D : Deal H d l) (k : Kept d l H H') : CodeAt C H' rs c :=
  let ⟨dx, t, as, e1, e2, e3⟩ := h; ⟨dx, t, as, k _ _ e1 (D.ni e1).1 (D.ni e1).2, k _ _ e2 (D.nt e2).1 (D.nt e2).2, e3.kept D k⟩
theorem LstAt.same {H H' : Hp} {rs : List Rw} {a : Addr} (h : LstAt H rs a) (s : Same H H') : LstAt H' rs a := let ⟨as, e1, e2⟩ := h; ⟨as, s _ _ e1, e2.same s⟩
/-! ### rows without one of them -/
def outAt (rs : List Rw) (g : Nat) (j : Nat) : Rw := let i := if j < g then j else j + 1; (rs.getD i ⟨"", []⟩).short (i : Int) (g : Int)
def outTo (rs : List Rw) (g i : Nat) : List Rw := (List.range (if i ≤ g then i else i - 1)).map (outAt rs g)
theorem outTo_gone (rs : List Rw) (g : Nat) : outTo rs g (g + 1) = outTo rs g g := by
  unfold outTo
  rw [if_neg (by omega), if_pos (Nat.le_refl _)]
  rfl
theorem outTo_step {rs : List Rw} {g i : Nat} {r : Rw} (h : i ≠ g) (hr : rs[i]? = some r) : outTo rs g (i + 1) = outTo rs g i ++ [r.short (i : Int) (g : Int)] := by
  unfold outTo
  have hg : ∀ j, rs.getD j ⟨"", []⟩ = (rs[j]?).getD ⟨"", []⟩ := fun j => List.getD_eq_getElem?_getD ..
  by_cases hi : i < g
  · rw [if_pos (by omega), if_pos (by omega), List.range_succ, List.map_append]
    congr 1
    show [outAt rs g i] = _
    unfold outAt
    simp only [if_pos hi]
    rw [hg, hr]
    rfl
  · rw [if_neg (by omega), if_neg (by omega)]
    have e : i + 1 - 1 = (i - 1) + 1 := by omega
    rw [e, List.range_succ, List.map_append]
    congr 1
    show [outAt rs g (i - 1)] = _
    unfold outAt
    have e2 : i - 1 + 1 = i := by omega
    simp only [if_neg (show ¬ i - 1 < g by omega), e2]
    rw [hg, hr]
    rfl
def out (rs : List Rw) (g : Nat) : List Rw := outTo rs g rs.length
theorem out_len {rs : List Rw} {g : Nat} (h : g < rs.length) : (out rs g).length = rs.length - 1 := by
  unfold out outTo
  rw [List.length_map, List.length_range, if_neg (by omega)]
theorem out_at {rs : List Rw} {g j : Nat} (h : g < rs.length) (hj : j < rs.length - 1) : ∃ i r, rs[i]? = some r ∧ i ≠ g ∧ i = (if j < g then j else j + 1) ∧ (out rs g)[j]? = some (r.short (i : Int) (g : Int)) := by
  have hi : (if j < g then j else j + 1) < rs.length := by split <;> omega
  refine ⟨if j < g then j else j + 1, rs[if j < g then j else j + 1], List.getElem?_eq_getElem hi, by split <;> omega, rfl, ?_⟩
  unfold out outTo
  rw [if_neg (by omega), List.getElem?_map, List.getElem?_range hj]
  show some (outAt rs g j) = _
  unfold outAt
  simp only [List.getD_eq_getElem?_getD, List.getElem?_eq_getElem hi]
  rfl
theorem skip_form : ∀ f, (("skip" : Str), f) ∈ forms → f = ("RMCN" : Str) := by
  intro f h
  have q : ∀ p ∈ forms, p.1 = ("skip" : Str) → p.2 = ("RMCN" : Str) := by decide +kernel
  exact q _ h rfl
theorem rmcn (i c : Nat) (h : ("RMCN" : Str).cps[i]? = some c) : i < 4 := by
  have : ("RMCN" : Str).cps.size = 4 := by decide +kernel
  have := (Array.getElem?_eq_some_iff.mp h).1
  omega
theorem short_ok {r : Rw} {i g : Int} (h : r.ok) : (r.short i g).ok := by
  by_cases hs : r.w = ("skip" : Str)
  · obtain ⟨a, m, c, n, ex, hcm⟩ := h.2 hs
    by_cases h1 : i < g ∧ g ≤ i + n
    · rw [short_skip ex hs h1.1 h1.2]
      obtain ⟨⟨f, hf, hl, hit⟩, _⟩ := h
      refine ⟨⟨f, hf, ?_, fun j cc z hc hz => ?_⟩, fun _ => ⟨a, m, c, n - 1, rfl, hcm⟩⟩
      · rw [← hl, ex]
        rfl
      · rw [ex] at hit
        rw [hs] at hf
        have ef := skip_form f hf
        subst ef
        have hj := rmcn j cc hc
        have hj' : j = 0 ∨ j = 1 ∨ j = 2 ∨ j = 3 := by omega
        rcases hj' with rfl | rfl | rfl | rfl
        · exact hit 0 cc z hc hz
        · exact hit 1 cc z hc hz
        · exact hit 2 cc z hc hz
        · have q := hit 3 cc n hc rfl
          have ec : cc = 78 := by
            have e0 : ("RMCN" : Str).cps[3]? = some 78 := by decide +kernel
            rw [e0] at hc
            exact (Option.some.inj hc).symm
          have ez : n - 1 = z := Option.some.inj hz
          subst ez
          unfold itOk at q ⊢
          omega
    · rw [short_far ex h1]
      exact h
  · rw [short_other hs]
    exact h
theorem short_fits {r : Rw} {i g left : Int} (h : r.ok) (hf : r.fits left) (hn : i < g → g ≤ i + left) (hi : i ≠ g) : (r.short i g).fits (if i < g then left - 1 else left) := by
  intro hs
  have hs' : r.w = ("skip" : Str) := by
    by_cases e : r.w = ("skip" : Str)
    · exact e
    · rw [short_other e] at hs
      exact hs
  obtain ⟨a, m, c, n, ex, hl⟩ := hf hs'
  by_cases h1 : i < g ∧ g ≤ i + n
  · rw [short_skip ex hs' h1.1 h1.2]
    refine ⟨a, m, c, n - 1, rfl, ?_⟩
    rw [if_pos h1.1]
    omega
  · rw [short_far ex h1]
    refine ⟨a, m, c, n, ex, ?_⟩
    by_cases h2 : i < g
    · rw [if_pos h2]
      have := hn h2
      omega
    · rw [if_neg h2]
      exact hl
theorem out_ok {rs : List Rw} {g : Nat} (h : RsOk rs) (hg : g < rs.length) : RsOk (out rs g) := by
  intro j r' hj
  have hlen := out_len hg
  have hjl : j < rs.length - 1 := by
    have := (List.getElem?_eq_some_iff.mp hj).1
    omega
  obtain ⟨i, r, hr, hig, hi, ho⟩ := out_at hg hjl
  rw [hj] at ho
  obtain rfl := Option.some.inj ho
  obtain ⟨h1, h2⟩ := h i r hr
  refine ⟨short_ok h1, ?_⟩
  have q := short_fits (left := (rs.length : Int) - 1 - (i : Int)) h1 h2 (g := (g : Int)) (fun _ => by omega) (fun e => hig (Int.ofNat_inj.mp e))
  rw [hlen]
  have e : ((rs.length - 1 : Nat) : Int) - 1 - (j : Int) = if (i : Int) < (g : Int) then (rs.length : Int) - 1 - (i : Int) - 1 else (rs.length : Int) - 1 - (i : Int) := by
    by_cases hjg : j < g
    · rw [if_pos hjg] at hi
      rw [if_pos (by omega)]
      omega
    · rw [if_neg hjg] at hi
      rw [if_neg (by omega)]
      omega
  rw [e]
  exact q
/-! ### the class Code -/
/-- the new object at p gets its rows -/
def IniC (H : Hp) (p C dx t : Addr) (H' : Hp) : Prop := H' p = some (.ins C dx [("rows", .ref t)]) ∧ ∀ b o, H b = some o → b ≠ p → H' b = some o
def spCode (C : Addr) : Sp := fun vs H Q _ => ∃ (p dx a : Addr) (as : List Addr) (rs : List Rw), vs = [.ref p, .ref a] ∧ H p = some (.ins C dx []) ∧ (H a = some (.lst (refs as)) ∨ H a = some (.tup (refs as))) ∧ RowsAt H rs as ∧ RsOk rs ∧ rs.length ≤ 900 ∧
  ∀ (t : Addr) H', IniC H p C dx t H' → H' t = some (.tup (refs as)) → Q .non H'
def spLenC (C : Addr) : Sp := fun vs H Q _ => ∃ (c : Addr) (rs : List Rw), vs = [.ref c] ∧ CodeAt C H rs c ∧ Q (.int rs.length) H
def spOut (C : Addr) : Sp := fun vs H Q _ => ∃ (c : Addr) (rs : List Rw) (g : Nat), vs = [.ref c, .int (g : Int)] ∧ CodeAt C H rs c ∧ RsOk rs ∧ rs.length ≤ 900 ∧ g < rs.length ∧ ∀ (x : Addr) H', Same H H' → CodeAt C H' (out rs g) x → Q (.ref x) H'
def rowD (r : Rw) : PyData := .tuple (.str r.w :: r.xs.map .int)
def spEqC (C : Addr) : Sp := fun vs H Q _ => ∃ (a b : Addr) (rs : List Rw), vs = [.ref a, .ref b] ∧ CodeAt C H rs a ∧ CodeAt C H rs b ∧ RsOk rs ∧ Q (.bl true) H
end My

set_option Elab.async false
set_option linter.all false
set_option maxRecDepth 100000
set_option maxHeartbeats 1000000
namespace My
open PySem L2 MyR
theorem forms_ok : ∀ p ∈ forms, PyData.strOk p.1 = true := by decide +kernel
theorem ints_lay : ∀ xs : List Int, PyData.canLayAll0 (xs.map PyData.int) = true
  | [] => by simp [PyData.canLayAll0]
  | x :: xs => by
    rw [List.map_cons, PyData.canLayAll0, PyData.canLay0, ints_lay xs]
    rfl
theorem ints_depth : ∀ xs : List Int, PyData.depthAll (xs.map PyData.int) = 0
  | [] => by simp [PyData.depthAll]
  | x :: xs => by
    rw [List.map_cons, PyData.depthAll, PyData.depth, ints_depth xs]
    rfl
theorem rowD_lay {r : Rw} (h : r.ok) : (rowD r).canLay0 = true := by
  obtain ⟨⟨f, hf, _⟩, _⟩ := h
  unfold rowD
  rw [PyData.canLay0, PyData.canLayAll0, PyData.canLay0, ints_lay, forms_ok _ hf]
  rfl
theorem rowD_depth (r : Rw) : (rowD r).depth = 1 := by
  unfold rowD
  rw [PyData.depth, PyData.depthAll, PyData.depth, ints_depth]
  rfl
theorem rowsD_lay : ∀ {rs : List Rw}, (∀ r ∈ rs, r.ok) → PyData.canLayAll0 (rs.map rowD) = true
  | [], _ => by simp [PyData.canLayAll0]
  | r :: rs, h => by
    rw [List.map_cons, PyData.canLayAll0, rowD_lay (h r List.mem_cons_self), rowsD_lay fun x hx => h x (List.mem_cons_of_mem _ hx)]
    rfl
theorem rowsD_depth : ∀ rs : List Rw, PyData.depthAll (rs.map rowD) ≤ 1
  | [] => by simp [PyData.depthAll]
  | r :: rs => by
    rw [List.map_cons, PyData.depthAll, rowD_depth]
    have := rowsD_depth rs
    omega
theorem RsOk.all {rs : List Rw} (h : RsOk rs) : ∀ r ∈ rs, r.ok := fun r hr => by
  obtain ⟨i, hi⟩ := List.mem_iff_getElem?.mp hr
  exact (h i r hi).1
theorem tupD_lay {rs : List Rw} (h : RsOk rs) : (PyData.tuple (rs.map rowD)).canLay0 = true := by
  rw [PyData.canLay0]
  exact rowsD_lay h.all
theorem tupD_shaped {rs : List Rw} (h : RsOk rs) : SeqAt.shaped (.tuple (rs.map rowD)) = true := by
  unfold SeqAt.shaped
  rw [tupD_lay h, Bool.true_and]
  refine decide_eq_true ?_
  rw [PyData.depth]
  have := rowsD_depth rs
  omega
theorem lstD_shaped {rs : List Rw} (h : RsOk rs) : SeqAt.shaped (.list (rs.map rowD)) = true := by
  unfold SeqAt.shaped
  rw [show (PyData.list (rs.map rowD)).canLay0 = true from by rw [PyData.canLay0]; exact rowsD_lay h.all, Bool.true_and]
  refine decide_eq_true ?_
  rw [PyData.depth]
  have := rowsD_depth rs
  omega
theorem ints_dp {K : PySem.W.Frag} {H : Hp} : ∀ xs : List Int, DpAll K H (xs.map V.int) (xs.map PyData.int)
  | [] => .nil
  | x :: xs => .cons (.int x) (ints_dp xs)
theorem row_dp {K : PySem.W.Frag} {H : Hp} {r : Rw} {p : Addr} (h : RowAt H r p) : Dp K H (.ref p) (rowD r) := .tup (SqT.of h) (.cons (.str r.w) (ints_dp r.xs))
theorem rows_dp {K : PySem.W.Frag} {H : Hp} : ∀ {rs : List Rw} {as : List Addr}, RowsAt H rs as → DpAll K H (refs as) (rs.map rowD)
  | [], [], _ => .nil
  | [], a :: as, h => absurd h.len (by simp)
  | r :: rs, [], h => absurd h.len (by simp)
  | r :: rs, a :: as, h => by
    obtain ⟨p, e1, e2⟩ := h.at_ 0 r rfl
    obtain rfl := Option.some.inj e1
    exact .cons (row_dp e2) (rows_dp ⟨by have := h.len; simpa using this, fun i r' e => h.at_ (i + 1) r' e⟩)
theorem tup_dp {K : PySem.W.Frag} {H : Hp} {rs : List Rw} {as : List Addr} {t : Addr} (h : RowsAt H rs as) (ht : H t = some (.tup (refs as))) : Dp K H (.ref t) (.tuple (rs.map rowD)) := .tup (SqT.of ht) (rows_dp h)
theorem tup_eqv {rs : List Rw} (h : RsOk rs) : PyData.eqv (.tuple (rs.map rowD)) (.tuple (rs.map rowD)) = true := SeqAt.eqv_refl _ (tupD_lay h)
section
variable {P : Program} {w : World} {K : PySem.W.Frag} {mg : Str → Option Value} {base : Heap}
abbrev s_Code_init : Stmt := inClass (top 25) 0
abbrev N_Code_init : List Str := ["self", "rows", "at", "row"]
theorem sc_Code_init : FnScope N_Code_init ["self", "rows"] (defScope s_Code_init) := ⟨rfl, rfl, rfl, by decide +kernel, rfl, by decide +kernel, by decide +kernel⟩
theorem ok_Code_init {f C : Addr} {fd : FuncData} (F : Fun K "__init__" "Code.__init__" s_Code_init f fd) (T : Glob mg) (T2 : Tabs w K mg) (cl : Cls K C) (n1 : NoAttr K C "rows") (D_is_row : Df P w K mg base 4 "is_row" ["row"] spRow) : FnOk P w K mg base CX0 5 f fd ["self", "rows"] (spCode C) := by
  obtain ⟨tR, hMR⟩ := T2.rows
  refine F.ok sc_Code_init (fun vs H Q E h => ?_) (fun cdv A outer s H vs Q E hr h => ?_)
  · obtain ⟨p, dx, a, as, rs, rfl, _⟩ := h
    rfl
  · obtain ⟨p, dx, a, as, rs, rfl, hp, ha, hrs, hok, hlen, k⟩ := h
    have nd := sc_Code_init.nd
    have hu := hu_of hr
    refine ⟨_, (pss_cons (ps_if (pt_cmpR op_gt (pe_callB call_len_seq (by rfl) T.g_len PySem.boot_len (pa_cons (pv 1) pa_nil)) (pe_glob (v := .int 1000) rfl hMR ⟨_, rfl⟩) (nomark _))
    (pss_one ps_never)
    pss_nil)
    (pss_cons (ps_fld (pv 0) (pe_callTy call_tuple_of (by rfl) T.g_tuple (by decide +kernel) (pa_cons (pv 1) pa_nil)) rfl)
    (pss_one (ps_for PassesOwn.never rfl (pi_enumT (by rfl) T.g_enumerate (pa_cons (pe_fld (pv 0) rfl) pa_nil)) (pg_tup (by rfl) (pgs_cons (pg_name (i := 2) nd rfl (Or.inl rfl)) (pgs_cons (pg_name (i := 3) nd rfl (Or.inl rfl)) pgs_nil)))
    (pss_cons (ps_if (pt_not (pt_val (pe_call D_is_row.ok (hr.mono (by decide)) (by rfl) D_is_row.g D_is_row.kp D_is_row.b .nil pass0 (pa_cons (pv 3) pa_nil))))
    (pss_one ps_never)
    pss_nil)
    (pss_one (ps_if (PW.pt (pw_and (pt_cmpR op_eq (pe_ix ix_tup (pv 3) pe_int (fun _ _ => rfl)) pe_str (nomark _)) (pw_and1 (pt_cmpR op_gt (pe_op op_add (pe_op op_add (pv 2) pe_int) (pe_ix ix_tup (pv 3) pe_int (fun _ _ => rfl))) (pe_callB call_len_seq (by rfl) T.g_len PySem.boot_len (pa_cons (pe_fld (pv 0) rfl) pa_nil)) (nomark _)))))
    (pss_one ps_never)
    pss_nil))))))), ?_⟩
    have hrl : (refs as).length = rs.length := by rw [refs_len]; exact hrs.len
    have hsq : SqL K H a (refs as) ∨ SqT K H a (refs as) := by
      rcases ha with h | h
      · exact .inl (SqL.of h)
      · exact .inr (SqT.of h)
    refine seq_by (fun σ H1 => σ = [some (.ref p), some (.ref a), none, none] ∧ H = H1) (fun D' hD' => ?_) ?_
    · refine ⟨_, rfl, a, _, rfl, hsq, _, _, rfl, rfl, _, rfl, ?_⟩
      refine ite2 (fun h0 => ?_) (fun _ => hD' _ _ ⟨rfl, rfl⟩)
      have h0 := of_decide_eq_true h0
      omega
    rintro σ0 H0 ⟨rfl, rfl⟩
    refine seq_by (fun σ H1 => ∃ t, σ = [some (.ref p), some (.ref a), none, none] ∧ IniC H p C dx t H1 ∧ H1 t = some (.tup (refs as)) ∧ RowsAt H1 rs as) (fun D' hD' => ?_) ?_
    · have fin : ∀ (t : Addr) (H1 : Hp), H1 p = some (.ins C dx []) → Same H H1 → H1 t = some (.tup (refs as)) → RowsAt H1 rs as → t ≠ p → D'.nx [some (.ref p), some (.ref a), none, none] (upd H1 p (.ins C dx [("rows", .ref t)])) := fun t H1 h1 sm h2 h3 ne => by
        refine hD' _ _ ⟨t, rfl, ⟨upd_same, fun b o e hb => by rw [upd_ne hb]; exact sm b o e⟩, by rw [upd_ne ne]; exact h2, h3.len, fun i r e => ?_⟩
        obtain ⟨q, e1, e2⟩ := h3.at_ i r e
        refine ⟨q, e1, ?_⟩
        unfold RowAt
        rw [upd_ne (ne_of e2 h1 (by intro z; cases z))]
        exact e2
      rcases ha with ha | ha
      · refine ⟨_, rfl, a, _, rfl, .inl ⟨SqL.of ha, fun t ht => ?_⟩⟩
        have np : p ≠ t := ne_of_none hp ht
        refine ⟨_, rfl, p, C, dx, _, rfl, by rw [upd_ne np]; exact hp, cl, n1, (by show 0 < 1000; decide), ?_⟩
        exact fin t _ (by rw [upd_ne np]; exact hp) (new_same ht) upd_same (hrs.updN ht) (Ne.symm np)
      · refine ⟨_, rfl, a, _, rfl, .inr ⟨SqT.of ha, ?_⟩⟩
        refine ⟨_, rfl, p, C, dx, _, rfl, hp, cl, n1, (by show 0 < 1000; decide), ?_⟩
        exact fin a H hp (Same.refl H) ha hrs (ne_of ha hp (by intro z; cases z))
    · rintro σ H1 ⟨t, rfl, ini, ht, hr1⟩
      refine ⟨_, rfl, p, C, dx, _, _, rfl, ini.1, cl, n1, rfl, t, _, rfl, SqT.of ht, ?_⟩
      refine for_it walk_enumT (fun i σ H2 => ∃ b c : Option V, σ = [some (.ref p), some (.ref a), b, c] ∧ Same H1 H2) ⟨none, none, rfl, Same.refl _⟩ (fun i σ H2 _ ⟨_, _, _, sm⟩ => SqT.of (sm _ _ ht)) ?_ ?_
      · rintro i x σ H2 H3 hi ⟨b, c, rfl, sm⟩ ⟨Tt, y, z, rfl, hT, rfl, hy, hz⟩
        have ey := Option.some.inj hy
        subst ey
        have hil : i < rs.length := by rw [← hrl]; exact hi
        obtain ⟨q, e1, e2⟩ := hr1.at_ i rs[i] (List.getElem?_eq_getElem hil)
        have ez : z = .ref q := by
          have := refs_at e1
          have hz' : (refs as)[i]? = some z := hz
          rw [this] at hz'
          exact (Option.some.inj hz').symm
        subst ez
        obtain ⟨hok1, hfit⟩ := hok i rs[i] (List.getElem?_eq_getElem hil)
        have sm3 : Same H1 (upd H2 Tt (.tup [.int (i : Nat), .ref q])) := sm.trans (new_same hT)
        have hq3 : RowAt (upd H2 Tt (.tup [.int (i : Nat), .ref q])) rs[i] q := e2.same sm3
        refine ⟨Tt, _, rfl, SqT.of upd_same, rfl, _, _, rfl, _, _, rfl, rfl, ?_⟩
        refine ⟨_, rfl, q, rs[i], rfl, hq3, hok1, fun H4 sm4 => ?_⟩
        have hq4 : RowAt H4 rs[i] q := hq3.same sm4
        refine ⟨_, rfl, ?_⟩
        refine ⟨_, rfl, q, _, _, .str rs[i].w, rfl, rfl, SqT.of hq4, atI_nat (j := 0) rfl, rfl, _, rfl, ?_⟩
        refine ite2 (fun hs => ?_) (fun hs => ?_)
        · have hs := V.str.inj (of_decide_eq_true hs)
          obtain ⟨a1, m, c1, n, ex, hn⟩ := hfit hs
          have evs : rs[i].vs = [.str rs[i].w, .int a1, .int m, .int c1, .int n] := by unfold Rw.vs; rw [ex]; rfl
          have sq4 : SqT K H4 q rs[i].vs := SqT.of hq4
          rw [evs] at sq4
          have hp4 : H4 p = some (.ins C dx [("rows", .ref t)]) := (sm3.trans sm4) _ _ ini.1
          refine ⟨_, rfl, _, _, rfl, rfl, _, rfl, q, _, _, .int n, rfl, rfl, sq4, atI_nat (j := 4) rfl, _, _, rfl, rfl, ?_⟩
          refine ⟨_, rfl, p, C, dx, _, _, rfl, hp4, cl, n1, rfl, t, _, rfl, .inr (SqT.of ((sm3.trans sm4) _ _ ht)), _, _, rfl, rfl, _, rfl, ?_⟩
          refine ite2 (fun h0 => ?_) (fun _ => ?_)
          · have h0 := of_decide_eq_true h0
            rw [hrl] at h0
            omega
          · exact ⟨_, _, rfl, sm3.trans sm4⟩
        · refine iteF ?_
          exact ⟨_, _, rfl, sm3.trans sm4⟩
      · rintro σ H2 ⟨b, c, rfl, sm⟩
        exact k t H2 ⟨sm _ _ ini.1, fun b o e hb => sm _ _ (ini.2 b o e hb)⟩ (sm _ _ ht)
end
end My

set_option Elab.async false
set_option linter.all false
set_option maxRecDepth 100000
set_option maxHeartbeats 1000000
namespace My
open PySem L2 MyR
/-! ### rows by what they do -/
inductive Op
  | set (a : Nat) (n : Int)
  | copy (a b : Nat)
  | add (a b c : Nat)
  | sub (a b c : Nat)
  | mul (a b c : Nat)
  | left (a b : Nat)
  | right (a b : Nat)
  | load (a : Nat) (s : Int)
  | store (s : Int) (a : Nat)
  | skip (a : Nat) (m c : Int) (n : Nat)
def Op.rw : Op → Rw
  | .set a n => ⟨"set", [(a : Int), n]⟩
  | .copy a b => ⟨"copy", [(a : Int), (b : Int)]⟩
  | .add a b c => ⟨"add", [(a : Int), (b : Int), (c : Int)]⟩
  | .sub a b c => ⟨"sub", [(a : Int), (b : Int), (c : Int)]⟩
  | .mul a b c => ⟨"mul", [(a : Int), (b : Int), (c : Int)]⟩
  | .left a b => ⟨"left", [(a : Int), (b : Int)]⟩
  | .right a b => ⟨"right", [(a : Int), (b : Int)]⟩
  | .load a s => ⟨"load", [(a : Int), s]⟩
  | .store s a => ⟨"store", [s, (a : Int)]⟩
  | .skip a m c n => ⟨"skip", [(a : Int), m, c, (n : Int)]⟩
/-- it may stand in code for m registers -/
def Op.ok (m : Nat) : Op → Prop
  | .set a n => a < m ∧ -18446744073709551616 < n ∧ n < 18446744073709551616
  | .copy a b => a < m ∧ b < m
  | .add a b c => a < m ∧ b < m ∧ c < m
  | .sub a b c => a < m ∧ b < m ∧ c < m
  | .mul a b c => a < m ∧ b < m ∧ c < m
  | .left a b => a < m ∧ b < m
  | .right a b => a < m ∧ b < m
  | .load a s => a < m ∧ 0 ≤ s ∧ s ≤ 999
  | .store s a => a < m ∧ 0 ≤ s ∧ s ≤ 999
  | .skip a md c n => a < m ∧ md ∈ mods ∧ 0 ≤ c ∧ c < md ∧ n ≤ 1000
def Op.far : Op → Nat
  | .skip _ _ _ n => n
  | _ => 0
theorem Op.ok.mono {m k : Nat} (h : m ≤ k) {o : Op} (ho : o.ok m) : o.ok k := by
  cases o with
  | set a n => exact ⟨by have := ho.1; omega, ho.2⟩
  | copy a b => exact ⟨by have := ho.1; omega, by have := ho.2; omega⟩
  | left a b => exact ⟨by have := ho.1; omega, by have := ho.2; omega⟩
  | right a b => exact ⟨by have := ho.1; omega, by have := ho.2; omega⟩
  | add a b c => exact ⟨by have := ho.1; omega, by have := ho.2.1; omega, by have := ho.2.2; omega⟩
  | sub a b c => exact ⟨by have := ho.1; omega, by have := ho.2.1; omega, by have := ho.2.2; omega⟩
  | mul a b c => exact ⟨by have := ho.1; omega, by have := ho.2.1; omega, by have := ho.2.2; omega⟩
  | load a s => exact ⟨by have := ho.1; omega, ho.2⟩
  | store s a => exact ⟨by have := ho.1; omega, ho.2⟩
  | skip a md c n => exact ⟨by have := ho.1; omega, ho.2⟩
theorem itWR {c a : Nat} (h : c = 87 ∨ c = 82) (h0 : a < 8) : itOk c (a : Int) := .inr (.inl ⟨h, by omega, by omega⟩)
theorem itS0 {z : Int} (h0 : 0 ≤ z) (h1 : z ≤ 999) : itOk 83 z := .inr (.inr (.inl ⟨rfl, h0, h1⟩))
theorem okOf {w f : Str} {xs : List Int} {cs : List Nat} (hm : (w, f) ∈ forms) (hf : f.cps = cs.toArray) (hl : xs.length = cs.length) (hit : ∀ (i c : Nat) (z : Int), cs[i]? = some c → xs[i]? = some z → itOk c z) (hs : w = ("skip" : Str) → ∃ a m c n : Int, xs = [a, m, c, n] ∧ c < m) : Rw.ok ⟨w, xs⟩ :=
  ⟨⟨f, hm, by rw [hf]; exact hl, fun i c z hc hz => hit i c z (by rw [hf] at hc; simpa using hc) hz⟩, hs⟩
theorem okA {w f : Str} {a b : Int} {c0 c1 : Nat} (hm : (w, f) ∈ forms) (hf : f.cps = #[c0, c1]) (ns : w ≠ ("skip" : Str)) (h0 : itOk c0 a) (h1 : itOk c1 b) : Rw.ok ⟨w, [a, b]⟩ :=
  okOf (cs := [c0, c1]) hm hf rfl (fun i c z hc hz => by
    match i, hc, hz with
    | 0, hc, hz => cases hc; cases hz; exact h0
    | 1, hc, hz => cases hc; cases hz; exact h1
    | i + 2, hc, _ => simp at hc) fun e => absurd e ns
theorem okB {w f : Str} {a b c : Int} {c0 c1 c2 : Nat} (hm : (w, f) ∈ forms) (hf : f.cps = #[c0, c1, c2]) (ns : w ≠ ("skip" : Str)) (h0 : itOk c0 a) (h1 : itOk c1 b) (h2 : itOk c2 c) : Rw.ok ⟨w, [a, b, c]⟩ :=
  okOf (cs := [c0, c1, c2]) hm hf rfl (fun i c z hc hz => by
    match i, hc, hz with
    | 0, hc, hz => cases hc; cases hz; exact h0
    | 1, hc, hz => cases hc; cases hz; exact h1
    | 2, hc, hz => cases hc; cases hz; exact h2
    | i + 3, hc, _ => simp at hc) fun e => absurd e ns
theorem okC {a m c n : Int} (h0 : itOk 82 a) (h1 : m ∈ mods) (h2 : 0 ≤ c) (h2' : c < m) (h3 : 0 ≤ n) (h3' : n ≤ 1000) : Rw.ok ⟨"skip", [a, m, c, n]⟩ := by
  have hb := mods_bound _ h1
  exact okOf (f := "RMCN") (cs := [82, 77, 67, 78]) (by decide +kernel) (by decide +kernel) rfl (fun i cc z hc hz => by
    match i, hc, hz with
    | 0, hc, hz => cases hc; cases hz; exact h0
    | 1, hc, hz => cases hc; cases hz; exact .inr (.inr (.inr (.inl ⟨rfl, h1⟩)))
    | 2, hc, hz => cases hc; cases hz; exact .inr (.inr (.inr (.inr ⟨.inl rfl, h2, by omega⟩)))
    | 3, hc, hz => cases hc; cases hz; exact .inr (.inr (.inr (.inr ⟨.inr rfl, h3, h3'⟩)))
    | i + 4, hc, _ => simp at hc) fun _ => ⟨a, m, c, n, rfl, h2'⟩
theorem Op.rw_ok {m : Nat} (h8 : m ≤ 8) {o : Op} (h : o.ok m) : o.rw.ok := by
  cases o with
  | set a n => obtain ⟨h0, h1, h2⟩ := h; exact okA (f := "WI") (c0 := 87) (c1 := 73) (by decide +kernel) (by decide +kernel) (by decide +kernel) (itWR (.inl rfl) (by omega)) (.inl ⟨rfl, h1, h2⟩)
  | copy a b => obtain ⟨h0, h1⟩ := h; exact okA (f := "WR") (c0 := 87) (c1 := 82) (by decide +kernel) (by decide +kernel) (by decide +kernel) (itWR (.inl rfl) (by omega)) (itWR (.inr rfl) (by omega))
  | left a b => obtain ⟨h0, h1⟩ := h; exact okA (f := "WR") (c0 := 87) (c1 := 82) (by decide +kernel) (by decide +kernel) (by decide +kernel) (itWR (.inl rfl) (by omega)) (itWR (.inr rfl) (by omega))
  | right a b => obtain ⟨h0, h1⟩ := h; exact okA (f := "WR") (c0 := 87) (c1 := 82) (by decide +kernel) (by decide +kernel) (by decide +kernel) (itWR (.inl rfl) (by omega)) (itWR (.inr rfl) (by omega))
  | add a b c => obtain ⟨h0, h1, h2⟩ := h; exact okB (f := "WRR") (c0 := 87) (c1 := 82) (c2 := 82) (by decide +kernel) (by decide +kernel) (by decide +kernel) (itWR (.inl rfl) (by omega)) (itWR (.inr rfl) (by omega)) (itWR (.inr rfl) (by omega))
  | sub a b c => obtain ⟨h0, h1, h2⟩ := h; exact okB (f := "WRR") (c0 := 87) (c1 := 82) (c2 := 82) (by decide +kernel) (by decide +kernel) (by decide +kernel) (itWR (.inl rfl) (by omega)) (itWR (.inr rfl) (by omega)) (itWR (.inr rfl) (by omega))
  | mul a b c => obtain ⟨h0, h1, h2⟩ := h; exact okB (f := "WRR") (c0 := 87) (c1 := 82) (c2 := 82) (by decide +kernel) (by decide +kernel) (by decide +kernel) (itWR (.inl rfl) (by omega)) (itWR (.inr rfl) (by omega)) (itWR (.inr rfl) (by omega))
  | load a s => obtain ⟨h0, h1, h2⟩ := h; exact okA (f := "WS") (c0 := 87) (c1 := 83) (by decide +kernel) (by decide +kernel) (by decide +kernel) (itWR (.inl rfl) (by omega)) (itS0 h1 h2)
  | store s a => obtain ⟨h0, h1, h2⟩ := h; exact okA (f := "SR") (c0 := 83) (c1 := 82) (by decide +kernel) (by decide +kernel) (by decide +kernel) (itS0 h1 h2) (itWR (.inr rfl) (by omega))
  | skip a md c n => obtain ⟨h0, h1, h2, h3, h4⟩ := h; exact okC (itWR (.inr rfl) (by omega)) h1 h2 h3 (by omega) (by omega)
theorem Op.rw_fits {o : Op} {left : Int} (h : (o.far : Int) ≤ left) : o.rw.fits left := by
  intro hs
  cases o with
  | skip a md c n => exact ⟨_, _, _, _, rfl, h⟩
  | set a n => exact absurd hs (show ¬ ("set" : Str) = ("skip" : Str) by decide +kernel)
  | copy a b => exact absurd hs (show ¬ ("copy" : Str) = ("skip" : Str) by decide +kernel)
  | add a b c => exact absurd hs (show ¬ ("add" : Str) = ("skip" : Str) by decide +kernel)
  | sub a b c => exact absurd hs (show ¬ ("sub" : Str) = ("skip" : Str) by decide +kernel)
  | mul a b c => exact absurd hs (show ¬ ("mul" : Str) = ("skip" : Str) by decide +kernel)
  | left a b => exact absurd hs (show ¬ ("left" : Str) = ("skip" : Str) by decide +kernel)
  | right a b => exact absurd hs (show ¬ ("right" : Str) = ("skip" : Str) by decide +kernel)
  | load a s => exact absurd hs (show ¬ ("load" : Str) = ("skip" : Str) by decide +kernel)
  | store s a => exact absurd hs (show ¬ ("store" : Str) = ("skip" : Str) by decide +kernel)
/-! ### what rows do -/
structure Ms where
  rg : List Int
  sl : Int → Int
  rt : Nat
def Ms.get (s : Ms) (a : Nat) : Int := s.rg.getD a 0
def Ms.put (s : Ms) (a : Nat) (v : Int) : Ms := ⟨s.rg.set a v, s.sl, s.rt⟩
def Op.run (wd : Nat) (fl : Nat → Int) (s : Ms) : Op → Ms
  | .set a n => s.put a (n % 2 ^ wd)
  | .copy a b => s.put a (s.get b)
  | .add a b c => s.put a ((s.get b + s.get c) % 2 ^ wd)
  | .sub a b c => s.put a ((s.get b - s.get c) % 2 ^ wd)
  | .mul a b c => s.put a (s.get b * s.get c % 2 ^ wd)
  | .left a b => s.put a (2 * s.get b % 2 ^ wd)
  | .right a b => ⟨s.rg.set a (s.get b / 2 + fl s.rt * 2 ^ (wd - 1)), s.sl, s.rt + 1⟩
  | .load a n => s.put a (s.sl n)
  | .store n a => ⟨s.rg, fun k => if k = n then s.get a else s.sl k, s.rt⟩
  | .skip _ _ _ _ => s
def Op.jump (s : Ms) : Op → Nat
  | .skip a m c n => if s.get a % m = c then n else 0
  | _ => 0
def goM (wd : Nat) (fl : Nat → Int) : Nat → List Op → Ms → Ms
  | _, [], s => s
  | k + 1, _ :: os, s => goM wd fl k os s
  | 0, o :: os, s => goM wd fl (o.jump s) os (o.run wd fl s)
theorem goM_skip (wd : Nat) (fl : Nat → Int) : ∀ (k : Nat) (os : List Op) (s : Ms), goM wd fl k os s = goM wd fl 0 (os.drop k) s
  | 0, os, s => by rw [List.drop_zero]
  | k + 1, [], s => by rw [List.drop_nil]; unfold goM; rfl
  | k + 1, o :: os, s => by rw [List.drop_succ_cons, ← goM_skip wd fl k os s]; rfl
structure Ms.Ok (wd m : Nat) (s : Ms) : Prop where
  len : s.rg.length = m
  rg : ∀ i, 0 ≤ s.rg.getD i 0 ∧ s.rg.getD i 0 < 2 ^ wd
  sl : ∀ n, 0 ≤ s.sl n ∧ s.sl n < 2 ^ wd
theorem p2_pos (n : Nat) : (0 : Int) < 2 ^ n := Int.pow_pos (by decide)
theorem getD_set (l : List Int) (a i : Nat) (v : Int) : (l.set a v).getD i 0 = if a = i ∧ i < l.length then v else l.getD i 0 := by
  rw [List.getD_eq_getElem?_getD, List.getD_eq_getElem?_getD, List.getElem?_set]
  by_cases h : a = i
  · subst h
    by_cases h2 : a < l.length
    · simp [h2]
    · simp [h2]
  · simp [h]
theorem Ms.Ok.put {wd m : Nat} {s : Ms} (h : s.Ok wd m) {a : Nat} {v : Int} (h0 : 0 ≤ v) (h1 : v < 2 ^ wd) : (s.put a v).Ok wd m := by
  refine ⟨by show (s.rg.set a v).length = m; rw [List.length_set]; exact h.len, fun i => ?_, h.sl⟩
  show 0 ≤ (s.rg.set a v).getD i 0 ∧ (s.rg.set a v).getD i 0 < 2 ^ wd
  rw [getD_set]
  split
  · exact ⟨h0, h1⟩
  · exact h.rg i
theorem Ms.Ok.run {wd m : Nat} {s : Ms} {fl : Nat → Int} (hw : 1 ≤ wd) (hf : ∀ n, fl n = 0 ∨ fl n = 1) (h : s.Ok wd m) (o : Op) : (o.run wd fl s).Ok wd m := by
  have p0 := p2_pos wd
  have em : ∀ x : Int, 0 ≤ x % 2 ^ wd ∧ x % 2 ^ wd < 2 ^ wd := fun x => ⟨Int.emod_nonneg _ (by omega), Int.emod_lt_of_pos _ p0⟩
  cases o with
  | set a n => exact h.put (em _).1 (em _).2
  | copy a b => exact h.put (h.rg b).1 (h.rg b).2
  | add a b c => exact h.put (em _).1 (em _).2
  | sub a b c => exact h.put (em _).1 (em _).2
  | mul a b c => exact h.put (em _).1 (em _).2
  | left a b => exact h.put (em _).1 (em _).2
  | right a b =>
    have e : (2 : Int) ^ wd = 2 * 2 ^ (wd - 1) := by
      obtain ⟨k, rfl⟩ : ∃ k, wd = k + 1 := ⟨wd - 1, by omega⟩
      rw [Nat.add_sub_cancel, Int.pow_succ, Int.mul_comm]
    have q : (s.put a (s.get b / 2 + fl s.rt * 2 ^ (wd - 1))).Ok wd m := by
      have hb := h.rg b
      have p1 := p2_pos (wd - 1)
      have eg : s.get b = s.rg.getD b 0 := rfl
      rcases hf s.rt with z | z <;> rw [z]
      · exact h.put (by omega) (by omega)
      · exact h.put (by omega) (by omega)
    exact ⟨q.len, q.rg, q.sl⟩
  | load a n => exact h.put (h.sl n).1 (h.sl n).2
  | store n a =>
    refine ⟨h.len, h.rg, fun k => ?_⟩
    show 0 ≤ (if k = n then s.get a else s.sl k) ∧ (if k = n then s.get a else s.sl k) < 2 ^ wd
    split
    · exact h.rg a
    · exact h.sl k
  | skip a md c n => exact h
/-! ### masks -/
theorem mask_at (x : Int) (k : Nat) : Builtin.bitAnd x (2 ^ k - 1) = x % 2 ^ k := by
  by_cases hx : 0 ≤ x
  · exact Bits.bitAnd_mask k hx
  · have p0 := p2_pos k
    rw [PyProof.Rows.bitAnd_np hx (by omega)]
    have eb : Builtin.bitNot x = -x - 1 := rfl
    have hm : 0 ≤ -x - 1 := by omega
    have e1 := Bits.bitAnd_mask (x := -x - 1) k hm
    rw [PyProof.Rows.bitAnd_pp hm (by omega)] at e1
    rw [eb, Nat.and_comm, e1]
    have h1 := Int.mul_ediv_add_emod (-x - 1) (2 ^ k)
    have h2 := Int.emod_nonneg (-x - 1) (show (2 : Int) ^ k ≠ 0 by omega)
    have h3 := Int.emod_lt_of_pos (-x - 1) p0
    generalize hq : (-x - 1) / 2 ^ k = q at h1
    have h4 : x % 2 ^ k = (2 ^ k - 1 - (-x - 1) % 2 ^ k) := by
      have e4 : x = (2 ^ k - 1 - (-x - 1) % 2 ^ k) + 2 ^ k * (-q - 1) := by
        have : (2 : Int) ^ k * (-q - 1) = -(2 ^ k * q) - 2 ^ k := by
          rw [Int.mul_sub, Int.mul_one, Int.mul_neg]
        omega
      have e5 := Int.add_mul_emod_self_left (2 ^ k - 1 - (-x - 1) % 2 ^ k) (2 ^ k) (-q - 1)
      rw [← e4] at e5
      rw [e5]
      exact Int.emod_eq_of_lt (by omega) (by omega)
    omega
theorem mods_pow : ∀ m ∈ mods, ∃ k : Nat, k < 7 ∧ m = 2 ^ k := by
  intro m h
  have q : m = 2 ^ 0 ∨ m = 2 ^ 1 ∨ m = 2 ^ 2 ∨ m = 2 ^ 3 ∨ m = 2 ^ 4 ∨ m = 2 ^ 5 ∨ m = 2 ^ 6 := by
    unfold mods at h
    simp only [List.mem_cons, List.not_mem_nil, or_false] at h
    exact h
  rcases q with h | h | h | h | h | h | h
  · exact ⟨0, by omega, h⟩
  · exact ⟨1, by omega, h⟩
  · exact ⟨2, by omega, h⟩
  · exact ⟨3, by omega, h⟩
  · exact ⟨4, by omega, h⟩
  · exact ⟨5, by omega, h⟩
  · exact ⟨6, by omega, h⟩
theorem mod_mask {m : Int} (h : m ∈ mods) (x : Int) : Builtin.bitAnd x (m - 1) = x % m := by
  obtain ⟨k, _, rfl⟩ := mods_pow m h
  exact mask_at x k
end My

set_option pp.maxSteps 400
set_option Elab.async false
set_option linter.all false
set_option maxRecDepth 100000
set_option maxHeartbeats 1000000
namespace My
open PySem L2 MyR
/-! ### the working state in the heap -/
theorem putK_le {κ : Type} [DecidableEq κ] (c : List (κ × V)) (k : κ) (x : V) : (putK c k x).length ≤ c.length + 1 := by
  unfold putK
  split
  · rw [List.length_map]
    omega
  · rw [List.length_append]
    exact Nat.le_refl _
inductive Cl
  | rg (i : Nat)
  | sl (n : Int)
  | rt
  | bz
  | wa
  deriving DecidableEq
structure Wst where
  m : Ms
  at_ : Int
  bs : Bool
  ws : Option Int
def Wst.con (s : Wst) : Cl → List V
  | .rg i => [.int (s.m.rg.getD i 0)]
  | .sl n => [.int (s.m.sl n)]
  | .rt => [.int (s.m.rt : Int)]
  | .bz => if s.bs then [.int 0] else []
  | .wa => [.int 0]
theorem con_ints (s : Wst) (c : Cl) : s.con c = [] ∨ ∃ z, s.con c = [.int z] := by
  cases c with
  | bz =>
    show (if s.bs then [V.int 0] else []) = [] ∨ ∃ z, (if s.bs then [V.int 0] else []) = [.int z]
    split
    · exact .inr ⟨0, rfl⟩
    · exact .inl rfl
  | rg i => exact .inr ⟨_, rfl⟩
  | sl i => exact .inr ⟨_, rfl⟩
  | rt => exact .inr ⟨_, rfl⟩
  | wa => exact .inr ⟨_, rfl⟩
/-- where its parts are -/
structure Ad where
  dx : Addr
  rga : Addr
  sd : Addr
  fs : Addr
  fa : Addr
  wt : Addr
  rt : Addr
  bz : Addr
  ra : List Addr
  cell : Cl → Option Addr
def wkF (wd : Nat) (A : Ad) (a : Int) : List (Str × V) := [("mask", .int (2 ^ wd - 1)), ("top", .int ((wd : Int) - 1)), ("many", .int 1), ("registers", .ref A.rga), ("slots", .ref A.sd), ("fills", .ref A.fs), ("rights", .ref A.rt), ("at", .int a), ("busy", .ref A.bz), ("waiting", .ref A.wt)]
def wsD (s : Wst) (wa : Addr) : List (Key × V) := match s.ws with
  | none => []
  | some t => [(.inl t, .ref wa)]
structure WkD (W : Addr) (wd m : Nat) (H0 H : Hp) (s : Wst) (cnt : Nat) (p : Addr) (A : Ad) (kvs : List (Key × V)) : Prop where
  same : Same H0 H
  p0 : H0 p = none
  pp : H p = some (.ins W A.dx (wkF wd A s.at_))
  rg : H A.rga = some (.lst (refs A.ra))
  rl : A.ra.length = m
  rc : ∀ i, A.cell (.rg i) = A.ra[i]?
  sd : H A.sd = some (.dK kvs)
  sk : kvs.length ≤ cnt
  sv : ∀ n : Int, valV kvs (Sum.inl n : Key) = (A.cell (.sl n)).map V.ref
  sz : ∀ n, A.cell (.sl n) = none → s.m.sl n = 0
  fs : H A.fs = some (.lst [.ref A.fa])
  rt : A.cell .rt = some A.rt
  bz : A.cell .bz = some A.bz
  wt : ∃ wa, H A.wt = some (.dK (wsD s wa)) ∧ (s.ws ≠ none → A.cell .wa = some wa)
  ne : A.sd ≠ A.wt
  inj : ∀ c c' a, A.cell c = some a → A.cell c' = some a → c = c'
  cl : ∀ c a, A.cell c = some a → H a = some (.lst (s.con c)) ∧ H0 a = none
  n0 : H0 A.rga = none ∧ H0 A.sd = none ∧ H0 A.fs = none ∧ H0 A.wt = none
  m3 : 3 ≤ m
section
variable {W : Addr} {wd m cnt : Nat} {H0 H : Hp} {s : Wst} {p : Addr} {A : Ad} {kvs : List (Key × V)}
theorem WkD.stay (h : WkD W wd m H0 H s cnt p A kvs) {H' : Hp} (sm : Same H H') : WkD W wd m H0 H' s cnt p A kvs where
  same := h.same.trans sm
  p0 := h.p0
  pp := sm _ _ h.pp
  rg := sm _ _ h.rg
  rl := h.rl
  rc := h.rc
  sd := sm _ _ h.sd
  sk := h.sk
  sv := h.sv
  sz := h.sz
  fs := sm _ _ h.fs
  rt := h.rt
  bz := h.bz
  wt := let ⟨wa, e, c⟩ := h.wt; ⟨wa, sm _ _ e, c⟩
  ne := h.ne
  inj := h.inj
  cl := fun c a e => ⟨sm _ _ (h.cl c a e).1, (h.cl c a e).2⟩
  n0 := h.n0
  m3 := h.m3
theorem WkD.more (h : WkD W wd m H0 H s cnt p A kvs) {k : Nat} (hk : cnt ≤ k) : WkD W wd m H0 H s k p A kvs := { h with sk := Nat.le_trans h.sk hk }
/-- a cell is none of the other parts -/
theorem WkD.apart (h : WkD W wd m H0 H s cnt p A kvs) {c : Cl} {a : Addr} (e : A.cell c = some a) : a ≠ p ∧ a ≠ A.rga ∧ a ≠ A.sd ∧ a ≠ A.fs ∧ a ≠ A.wt := by
  obtain ⟨e1, _⟩ := h.cl c a e
  obtain ⟨wa, e2, _⟩ := h.wt
  refine ⟨ne_of e1 h.pp (by intro z; cases z), ne_of e1 h.rg ?_, ne_of e1 h.sd (by intro z; cases z), ne_of e1 h.fs ?_, ne_of e1 e2 (by intro z; cases z)⟩
  · intro z
    have z := HO.lst.inj z
    have l1 : (refs A.ra).length = m := by rw [refs_len]; exact h.rl
    have l2 := h.m3
    rcases con_ints s c with q | ⟨n, q⟩ <;> rw [q] at z <;> rw [← z] at l1 <;> simp at l1 <;> omega
  · intro z
    have z := HO.lst.inj z
    rcases con_ints s c with q | ⟨n, q⟩ <;> rw [q] at z <;> cases z
theorem WkD.gone (h : WkD W wd m H0 H s cnt p A kvs) {c : Cl} {a q : Addr} (e : A.cell c = some a) (hq : H q = none) : a ≠ q := ne_of_none (h.cl c a e).1 hq
theorem WkD.old (h : WkD W wd m H0 H s cnt p A kvs) {q : Addr} (hq : H q = none) : H0 q = none := same_free h.same hq
theorem same_upd {H0 H : Hp} {a : Addr} {o : HO} (s : Same H0 H) (h : H0 a = none) : Same H0 (upd H a o) := fun b u e => by
  rw [upd_ne (ne_of_none e h)]
  exact s b u e
/-- a cell gets what it shall hold -/
theorem WkD.put (h : WkD W wd m H0 H s cnt p A kvs) {c : Cl} {a : Addr} {t : Wst} (e : A.cell c = some a) (ha : t.at_ = s.at_) (hw : t.ws = s.ws) (ho : ∀ c', c' ≠ c → t.con c' = s.con c')
    (hz : ∀ n, A.cell (.sl n) = none → t.m.sl n = s.m.sl n) : WkD W wd m H0 (upd H a (.lst (t.con c))) t cnt p A kvs := by
  obtain ⟨n1, n2, n3, n4, n5⟩ := h.apart e
  have h0 := (h.cl c a e).2
  exact {
    same := same_upd h.same h0
    p0 := h.p0
    pp := by rw [upd_ne (Ne.symm n1), ha]; exact h.pp
    rg := by rw [upd_ne (Ne.symm n2)]; exact h.rg
    rl := h.rl
    rc := h.rc
    sd := by rw [upd_ne (Ne.symm n3)]; exact h.sd
    sk := h.sk
    sv := h.sv
    sz := fun n hn => by rw [hz n hn]; exact h.sz n hn
    fs := by rw [upd_ne (Ne.symm n4)]; exact h.fs
    rt := h.rt
    bz := h.bz
    wt := by
      obtain ⟨wa, e1, c1⟩ := h.wt
      refine ⟨wa, ?_, fun z => c1 (by rw [← hw]; exact z)⟩
      rw [upd_ne (Ne.symm n5), e1]
      unfold wsD
      rw [hw]
    ne := h.ne
    inj := h.inj
    cl := fun c' b hb => by
      refine ⟨?_, (h.cl c' b hb).2⟩
      by_cases hc : c' = c
      · subst hc
        obtain rfl : b = a := by
          rw [e] at hb
          exact (Option.some.inj hb).symm
        exact upd_same
      · have hab : b ≠ a := fun z => hc (h.inj c' c a (by rw [← z]; exact hb) e)
        rw [upd_ne hab, ho c' hc]
        exact (h.cl c' b hb).1
    n0 := h.n0
    m3 := h.m3 }
/-- a field of the object itself: where it is -/
theorem WkD.setAt (h : WkD W wd m H0 H s cnt p A kvs) (z : Int) : WkD W wd m H0 (upd H p (.ins W A.dx (wkF wd A z))) ⟨s.m, z, s.bs, s.ws⟩ cnt p A kvs := by
  have np : ∀ {x : Addr} {o : HO}, H x = some o → o ≠ .ins W A.dx (wkF wd A s.at_) → x ≠ p := fun h1 hn => ne_of h1 h.pp hn
  exact {
    same := same_upd h.same h.p0
    p0 := h.p0
    pp := upd_same
    rg := by rw [upd_ne (np h.rg (by intro z; cases z))]; exact h.rg
    rl := h.rl
    rc := h.rc
    sd := by rw [upd_ne (np h.sd (by intro z; cases z))]; exact h.sd
    sk := h.sk
    sv := h.sv
    sz := h.sz
    fs := by rw [upd_ne (np h.fs (by intro z; cases z))]; exact h.fs
    rt := h.rt
    bz := h.bz
    wt := by
      obtain ⟨wa, e1, c1⟩ := h.wt
      exact ⟨wa, by rw [upd_ne (np e1 (by intro z; cases z))]; exact e1, c1⟩
    ne := h.ne
    inj := h.inj
    cl := fun c b hb => ⟨by rw [upd_ne (np (h.cl c b hb).1 (by intro z; cases z))]; exact (h.cl c b hb).1, (h.cl c b hb).2⟩
    n0 := h.n0
    m3 := h.m3 }
def Ad.cut (A : Ad) (c : Cl) (q : Addr) : Cl → Option Addr := fun x => if x = c then some q else A.cell x
/-- another list of the busy ones -/
theorem WkD.setBz (h : WkD W wd m H0 H s cnt p A kvs) {q : Addr} {b : Bool} (hq : H q = some (.lst (if b then [.int 0] else []))) (q0 : H0 q = none) (qn : ∀ c a, A.cell c = some a → a ≠ q) :
    WkD W wd m H0 (upd H p (.ins W A.dx (wkF wd { A with bz := q } s.at_))) ⟨s.m, s.at_, b, s.ws⟩ cnt p { A with bz := q, cell := A.cut .bz q } kvs := by
  have np : ∀ {x : Addr} {o : HO}, H x = some o → o ≠ .ins W A.dx (wkF wd A s.at_) → x ≠ p := fun h1 hn => ne_of h1 h.pp hn
  have ct : ∀ {c : Cl}, c ≠ .bz → A.cut .bz q c = A.cell c := fun hc => if_neg hc
  have cb : A.cut .bz q .bz = some q := if_pos rfl
  exact {
    same := same_upd h.same h.p0
    p0 := h.p0
    pp := upd_same
    rg := by show upd H p _ A.rga = _; rw [upd_ne (np h.rg (by intro z; cases z))]; exact h.rg
    rl := h.rl
    rc := fun i => by show A.cut .bz q (.rg i) = _; rw [ct (by intro z; cases z)]; exact h.rc i
    sd := by show upd H p _ A.sd = _; rw [upd_ne (np h.sd (by intro z; cases z))]; exact h.sd
    sk := h.sk
    sv := fun n => by show _ = (A.cut .bz q (.sl n)).map V.ref; rw [ct (by intro z; cases z)]; exact h.sv n
    sz := fun n hn => by
      have hn : A.cut .bz q (.sl n) = none := hn
      rw [ct (by intro z; cases z)] at hn
      exact h.sz n hn
    fs := by show upd H p _ A.fs = _; rw [upd_ne (np h.fs (by intro z; cases z))]; exact h.fs
    rt := by show A.cut .bz q .rt = _; rw [ct (by intro z; cases z)]; exact h.rt
    bz := cb
    wt := by
      obtain ⟨wa, e1, c1⟩ := h.wt
      refine ⟨wa, ?_, fun z => ?_⟩
      · show upd H p _ A.wt = _
        rw [upd_ne (np e1 (by intro z; cases z))]
        exact e1
      · show A.cut .bz q .wa = _
        rw [ct (by intro z; cases z)]
        exact c1 z
    ne := h.ne
    inj := fun c c' a e e' => by
      have e : A.cut .bz q c = some a := e
      have e' : A.cut .bz q c' = some a := e'
      by_cases hc : c = .bz
      · by_cases hc' : c' = .bz
        · rw [hc, hc']
        · subst hc
          rw [cb] at e
          rw [ct hc'] at e'
          exact absurd (Option.some.inj e).symm (qn _ _ e')
      · rw [ct hc] at e
        by_cases hc' : c' = .bz
        · subst hc'
          rw [cb] at e'
          exact absurd (Option.some.inj e').symm (qn _ _ e)
        · rw [ct hc'] at e'
          exact h.inj _ _ _ e e'
    cl := fun c a e => by
      have e : A.cut .bz q c = some a := e
      by_cases hc : c = .bz
      · subst hc
        rw [cb] at e
        obtain rfl := Option.some.inj e
        exact ⟨by rw [upd_ne (np hq (by intro z; cases z))]; exact hq, q0⟩
      · rw [ct hc] at e
        obtain ⟨e1, e2⟩ := h.cl c a e
        refine ⟨?_, e2⟩
        rw [upd_ne (np e1 (by intro z; cases z)), e1]
        cases c <;> first | rfl | exact absurd rfl hc
    n0 := h.n0
    m3 := h.m3 }
/-- none waits any more -/
theorem WkD.popW (h : WkD W wd m H0 H s cnt p A kvs) : WkD W wd m H0 (upd H A.wt (.dK [])) ⟨s.m, s.at_, s.bs, none⟩ cnt p A kvs := by
  obtain ⟨wa0, e0, c0⟩ := h.wt
  have np : ∀ {x : Addr} {o : HO}, H x = some o → (∀ z, o ≠ .dK z) → x ≠ A.wt := fun h1 hn => ne_of h1 e0 (hn _)
  exact {
    same := same_upd h.same h.n0.2.2.2
    p0 := h.p0
    pp := by rw [upd_ne (np h.pp (by intro _ z; cases z))]; exact h.pp
    rg := by rw [upd_ne (np h.rg (by intro _ z; cases z))]; exact h.rg
    rl := h.rl
    rc := h.rc
    sd := by rw [upd_ne h.ne]; exact h.sd
    sk := h.sk
    sv := h.sv
    sz := h.sz
    fs := by rw [upd_ne (np h.fs (by intro _ z; cases z))]; exact h.fs
    rt := h.rt
    bz := h.bz
    wt := ⟨wa0, upd_same, fun z => absurd rfl z⟩
    ne := h.ne
    inj := h.inj
    cl := fun c b hb => ⟨by rw [upd_ne (np (h.cl c b hb).1 (by intro _ z; cases z))]; exact (h.cl c b hb).1, (h.cl c b hb).2⟩
    n0 := h.n0
    m3 := h.m3 }
/-- one waits for a row -/
theorem WkD.putW (h : WkD W wd m H0 H s cnt p A kvs) {wa : Addr} (t : Int) (hq : H wa = some (.lst [.int 0])) (q0 : H0 wa = none) (qn : ∀ c a, A.cell c = some a → a ≠ wa) :
    WkD W wd m H0 (upd H A.wt (.dK [(.inl t, .ref wa)])) ⟨s.m, s.at_, s.bs, some t⟩ cnt p { A with cell := A.cut .wa wa } kvs := by
  obtain ⟨wa0, e0, c0⟩ := h.wt
  have np : ∀ {x : Addr} {o : HO}, H x = some o → (∀ z, o ≠ .dK z) → x ≠ A.wt := fun h1 hn => ne_of h1 e0 (hn _)
  have ct : ∀ {c : Cl}, c ≠ .wa → A.cut .wa wa c = A.cell c := fun hc => if_neg hc
  have cb : A.cut .wa wa .wa = some wa := if_pos rfl
  exact {
    same := same_upd h.same h.n0.2.2.2
    p0 := h.p0
    pp := by rw [upd_ne (np h.pp (by intro _ z; cases z))]; exact h.pp
    rg := by show upd H A.wt _ A.rga = _; rw [upd_ne (np h.rg (by intro _ z; cases z))]; exact h.rg
    rl := h.rl
    rc := fun i => by show A.cut .wa wa (.rg i) = _; rw [ct (by intro z; cases z)]; exact h.rc i
    sd := by show upd H A.wt _ A.sd = _; rw [upd_ne h.ne]; exact h.sd
    sk := h.sk
    sv := fun n => by show _ = (A.cut .wa wa (.sl n)).map V.ref; rw [ct (by intro z; cases z)]; exact h.sv n
    sz := fun n hn => by
      have hn : A.cut .wa wa (.sl n) = none := hn
      rw [ct (by intro z; cases z)] at hn
      exact h.sz n hn
    fs := by show upd H A.wt _ A.fs = _; rw [upd_ne (np h.fs (by intro _ z; cases z))]; exact h.fs
    rt := by show A.cut .wa wa .rt = _; rw [ct (by intro z; cases z)]; exact h.rt
    bz := by show A.cut .wa wa .bz = _; rw [ct (by intro z; cases z)]; exact h.bz
    wt := ⟨wa, upd_same, fun _ => cb⟩
    ne := h.ne
    inj := fun c c' a e e' => by
      have e : A.cut .wa wa c = some a := e
      have e' : A.cut .wa wa c' = some a := e'
      by_cases hc : c = .wa
      · by_cases hc' : c' = .wa
        · rw [hc, hc']
        · subst hc
          rw [cb] at e
          rw [ct hc'] at e'
          exact absurd (Option.some.inj e).symm (qn _ _ e')
      · rw [ct hc] at e
        by_cases hc' : c' = .wa
        · subst hc'
          rw [cb] at e'
          exact absurd (Option.some.inj e').symm (qn _ _ e)
        · rw [ct hc'] at e'
          exact h.inj _ _ _ e e'
    cl := fun c a e => by
      have e : A.cut .wa wa c = some a := e
      by_cases hc : c = .wa
      · subst hc
        rw [cb] at e
        obtain rfl := Option.some.inj e
        exact ⟨by rw [upd_ne (np hq (by intro _ z; cases z))]; exact hq, q0⟩
      · rw [ct hc] at e
        obtain ⟨e1, e2⟩ := h.cl c a e
        refine ⟨?_, e2⟩
        rw [upd_ne (np e1 (by intro _ z; cases z)), e1]
        cases c <;> first | rfl | exact absurd rfl hc
    n0 := h.n0
    m3 := h.m3 }
/-- a slot that was not used yet -/
theorem WkD.putS (h : WkD W wd m H0 H s cnt p A kvs) {q : Addr} (n : Int) (hn : A.cell (.sl n) = none) (hq : H q = some (.lst [.int 0])) (q0 : H0 q = none) (qn : ∀ c a, A.cell c = some a → a ≠ q) :
    WkD W wd m H0 (upd H A.sd (.dK (putK kvs (.inl n) (.ref q)))) s (cnt + 1) p { A with cell := A.cut (.sl n) q } (putK kvs (.inl n) (.ref q)) := by
  have np : ∀ {x : Addr} {o : HO}, H x = some o → (∀ z, o ≠ .dK z) → x ≠ A.sd := fun h1 hn => ne_of h1 h.sd (hn _)
  have ct : ∀ {c : Cl}, c ≠ .sl n → A.cut (.sl n) q c = A.cell c := fun hc => if_neg hc
  have cb : A.cut (.sl n) q (.sl n) = some q := if_pos rfl
  have hz := h.sz n hn
  exact {
    same := same_upd h.same h.n0.2.1
    p0 := h.p0
    pp := by rw [upd_ne (np h.pp (by intro _ z; cases z))]; exact h.pp
    rg := by show upd H A.sd _ A.rga = _; rw [upd_ne (np h.rg (by intro _ z; cases z))]; exact h.rg
    rl := h.rl
    rc := fun i => by show A.cut (.sl n) q (.rg i) = _; rw [ct (by intro z; cases z)]; exact h.rc i
    sd := upd_same
    sk := by
      have h1 := putK_le kvs (Sum.inl n : Key) (.ref q)
      have h2 := h.sk
      omega
    sv := fun k => by
      show _ = (A.cut (.sl n) q (.sl k)).map V.ref
      rw [valV_put]
      by_cases hk : k = n
      · subst hk
        rw [if_pos rfl, cb]
        rfl
      · rw [if_neg (fun z => hk (Sum.inl.inj z)), ct (fun z => hk (Cl.sl.inj z))]
        exact h.sv k
    sz := fun k hk => by
      have hk : A.cut (.sl n) q (.sl k) = none := hk
      by_cases e : k = n
      · subst e
        rw [cb] at hk
        cases hk
      · rw [ct (fun z => e (Cl.sl.inj z))] at hk
        exact h.sz k hk
    fs := by show upd H A.sd _ A.fs = _; rw [upd_ne (np h.fs (by intro _ z; cases z))]; exact h.fs
    rt := by show A.cut (.sl n) q .rt = _; rw [ct (by intro z; cases z)]; exact h.rt
    bz := by show A.cut (.sl n) q .bz = _; rw [ct (by intro z; cases z)]; exact h.bz
    wt := by
      obtain ⟨wa, e1, c1⟩ := h.wt
      refine ⟨wa, ?_, fun z => ?_⟩
      · show upd H A.sd _ A.wt = _
        rw [upd_ne (Ne.symm h.ne)]
        exact e1
      · show A.cut (.sl n) q .wa = _
        rw [ct (by intro z; cases z)]
        exact c1 z
    ne := h.ne
    inj := fun c c' a e e' => by
      have e : A.cut (.sl n) q c = some a := e
      have e' : A.cut (.sl n) q c' = some a := e'
      by_cases hc : c = .sl n
      · by_cases hc' : c' = .sl n
        · rw [hc, hc']
        · subst hc
          rw [cb] at e
          rw [ct hc'] at e'
          exact absurd (Option.some.inj e).symm (qn _ _ e')
      · rw [ct hc] at e
        by_cases hc' : c' = .sl n
        · subst hc'
          rw [cb] at e'
          exact absurd (Option.some.inj e').symm (qn _ _ e)
        · rw [ct hc'] at e'
          exact h.inj _ _ _ e e'
    cl := fun c a e => by
      have e : A.cut (.sl n) q c = some a := e
      by_cases hc : c = .sl n
      · subst hc
        rw [cb] at e
        obtain rfl := Option.some.inj e
        refine ⟨?_, q0⟩
        show upd H A.sd _ q = some (.lst [.int (s.m.sl n)])
        rw [upd_ne (np hq (by intro _ z; cases z)), hz]
        exact hq
      · rw [ct hc] at e
        obtain ⟨e1, e2⟩ := h.cl c a e
        refine ⟨?_, e2⟩
        rw [upd_ne (np e1 (by intro _ z; cases z))]
        exact e1
    n0 := h.n0
    m3 := h.m3 }
end
end My

set_option pp.maxSteps 400
set_option Elab.async false
set_option linter.all false
set_option maxRecDepth 100000
set_option maxHeartbeats 1000000
namespace My
open PySem L2 MyR

theorem ix_tupN {X : Cx} {K : PySem.W.Frag} (h : X.K = K) : IxR X (rIxT K) := h ▸ ix_tup
theorem ix_listN {X : Cx} {K : PySem.W.Frag} (h : X.K = K) : IxR X (rIxL K) := h ▸ ix_list
theorem pe_fldN {X : Cx} {K : PySem.W.Frag} {e : Expr} {f : Str} {pos : Pos} {ta : TE} (h : X.K = K) (he : PE X e ta) (hb : attributeBase e f X.env (eval e X.env) = eval e X.env) : PE X (.Attribute e f pos) (tFld K ta f) := by
  subst h
  exact pe_fld he hb
/-- a loop over the busy ones: once or never -/
theorem for_bz {K : PySem.W.Frag} {a : Addr} {b : Bool} {g : TG} {tb : TS} {D : Ends} {σ : L2.St} {H : Hp} (hz : H a = some (.lst (if b = true then [.int 0] else []))) (G : L2.St → Hp → Prop) (hG : ∀ σ' H', G σ' H' → H' a = some (.lst [.int 0]))
    (hs : b = true → g (.int 0) σ H fun σ2 H2 => tb { D with nx := G, ct := G, bk := D.nx } σ2 H2) (h1 : b = true → ∀ σ' H', G σ' H' → D.nx σ' H') (h0 : b = false → D.nx σ H) :
    ∃ W : Nat → Nat → L2.St → Hp → Prop, (∃ m, W 0 m σ H) ∧ ∀ i m σ H, W i m σ H →
      ((Itl K a).stop i H ∧ D.nx σ H) ∨ ((Itl K a).go i H ∧ ∃ N : L2.St → Hp → Prop, (∀ σ' H', N σ' H' → ∃ m', m' < m ∧ W (i + 1) m' σ' H') ∧ ∀ x H', (Itl K a).yld i H x H' → g x σ H' fun σ2 H2 => tb { D with nx := N, ct := N, bk := D.nx } σ2 H2) := by
  cases b with
  | false => exact for_list (xs := []) (fun i σ' H' => σ' = σ ∧ H' = H) ⟨rfl, rfl⟩ (fun _ _ _ _ h => by obtain ⟨_, rfl⟩ := h; exact SqL.of hz) (fun i x σ' H' hx => by simp at hx) (fun σ' H' h => by obtain ⟨rfl, rfl⟩ := h; exact h0 rfl)
  | true =>
    refine for_list (xs := [.int 0]) (fun i => match i with | 0 => fun σ' H' => σ' = σ ∧ H' = H | _ + 1 => G) ⟨rfl, rfl⟩ (fun i σ' H' hi h => ?_) (fun i x σ' H' hx h => ?_) (fun σ' H' h => h1 rfl σ' H' h)
    · match i, h with
      | 0, h => obtain ⟨_, rfl⟩ := h; exact SqL.of hz
      | _ + 1, h => exact SqL.of (hG _ _ h)
    · match i, hx, h with
      | 0, hx, h =>
        obtain ⟨rfl, rfl⟩ := h
        obtain rfl := Option.some.inj hx
        exact hs rfl
      | i + 1, hx, _ => simp at hx
/-! ### the class Work -/
structure WkC (K : PySem.W.Frag) (W : Addr) : Prop where
  cl : Cls K W
  mask : NoAttr K W "mask"
  top : NoAttr K W "top"
  many : NoAttr K W "many"
  registers : NoAttr K W "registers"
  slots : NoAttr K W "slots"
  fills : NoAttr K W "fills"
  rights : NoAttr K W "rights"
  at_ : NoAttr K W "at"
  busy : NoAttr K W "busy"
  waiting : NoAttr K W "waiting"
/-- a method as its callers know it -/
structure Mt (P : Program) (w : World) (K : PySem.W.Frag) (mg : Str → Option Value) (base : Heap) (C : Addr) (k : Nat) (name : Str) (ps : List Str) (sp : Sp) where
  f : Addr
  fd : FuncData
  m : Meth K C name f
  ok : FnOk P w K mg base CX0 k f fd ps sp
  b : Binds K fd ps []
/-- the fills that are given -/
def FlAt (K : PySem.W.Frag) (H : Hp) (fa : Addr) (fl : Nat → Int) : Prop := ∃ xs : List Int, (SqL K H fa (xs.map V.int) ∨ SqT K H fa (xs.map V.int)) ∧ xs.length ≤ 1000 ∧ (∀ n, fl n = xs.getD n 0) ∧ ∀ x ∈ xs, x = 0 ∨ x = 1
theorem FlAt.same {K : PySem.W.Frag} {H H' : Hp} {fa : Addr} {fl : Nat → Int} (h : FlAt K H fa fl) (s : Same H H') : FlAt K H' fa fl := by
  obtain ⟨xs, h1, h2⟩ := h
  refine ⟨xs, ?_, h2⟩
  rcases h1 with h | h
  · exact .inl (h.ext s)
  · exact .inr (h.ext s)
theorem FlAt.bit {K : PySem.W.Frag} {H : Hp} {fa : Addr} {fl : Nat → Int} (h : FlAt K H fa fl) (n : Nat) : fl n = 0 ∨ fl n = 1 := by
  obtain ⟨xs, _, _, h1, h2⟩ := h
  rw [h1, List.getD_eq_getElem?_getD]
  cases e : xs[n]? with
  | none => exact .inl rfl
  | some x => exact h2 x (List.mem_of_getElem? e)
def Op.hit (s : Ms) : Op → Option Nat
  | .skip a m c n => if s.get a % m = c then some n else none
  | _ => none
def Wst.exec (wd : Nat) (fl : Nat → Int) (s : Wst) (o : Op) : Wst := if s.bs = true then (match o.hit s.m with
  | none => ⟨o.run wd fl s.m, s.at_, true, s.ws⟩
  | some n => ⟨s.m, s.at_, false, some (s.at_ + 1 + (n : Int))⟩) else s
theorem exec_no (wd : Nat) (fl : Nat → Int) {s : Wst} (o : Op) (h : s.bs = false) : s.exec wd fl o = s := by unfold Wst.exec; rw [h]; rfl
theorem exec_yes (wd : Nat) (fl : Nat → Int) {s : Wst} {o : Op} (h : s.bs = true) (hn : o.hit s.m = none) : s.exec wd fl o = ⟨o.run wd fl s.m, s.at_, s.bs, s.ws⟩ := by unfold Wst.exec; rw [h, hn]; rfl
section
variable {W : Addr} {wd m cnt : Nat} {H0 H : Hp} {s : Wst} {p : Addr} {A : Ad} {kvs : List (Key × V)}
theorem WkD.reg (h : WkD W wd m H0 H s cnt p A kvs) {a : Nat} {t : Addr} (e : A.ra[a]? = some t) : H t = some (.lst [.int (s.m.get a)]) := (h.cl (.rg a) t (by rw [h.rc]; exact e)).1
theorem WkD.ix (h : WkD W wd m H0 H s cnt p A kvs) {a : Nat} (ha : a < m) : ∃ t, A.ra[a]? = some t := ⟨A.ra[a]'(by rw [h.rl]; exact ha), List.getElem?_eq_getElem _⟩
theorem WkD.bzAt (h : WkD W wd m H0 H s cnt p A kvs) : H A.bz = some (.lst (if s.bs = true then [.int 0] else [])) := (h.cl .bz A.bz h.bz).1
theorem WkD.putR (h : WkD W wd m H0 H s cnt p A kvs) (hok : s.m.Ok wd m) {a : Nat} {t : Addr} (ha : a < m) (e : A.ra[a]? = some t) (v : Int) : WkD W wd m H0 (upd H t (.lst [.int v])) ⟨s.m.put a v, s.at_, s.bs, s.ws⟩ cnt p A kvs := by
  have q := h.put (c := .rg a) (a := t) (t := ⟨s.m.put a v, s.at_, s.bs, s.ws⟩) (by rw [h.rc]; exact e) rfl rfl (fun c' hc => ?_) (fun n _ => rfl)
  · have e2 : (⟨s.m.put a v, s.at_, s.bs, s.ws⟩ : Wst).con (.rg a) = [.int v] := by
      show [V.int ((s.m.rg.set a v).getD a 0)] = _
      rw [getD_set, if_pos ⟨rfl, by rw [hok.len]; exact ha⟩]
    rw [e2] at q
    exact q
  · cases c' with
    | rg i =>
      show [V.int ((s.m.rg.set a v).getD i 0)] = [V.int (s.m.rg.getD i 0)]
      rw [getD_set, if_neg (fun z => hc (by rw [z.1]))]
    | _ => rfl
theorem WkD.putRE (h : WkD W wd m H0 H s cnt p A kvs) (hok : s.m.Ok wd m) {a : Nat} {t : Addr} (ha : a < m) (e : A.ra[a]? = some t) {v v' : Int} (ev : v' = v) : WkD W wd m H0 (upd H t (.lst [.int v'])) ⟨s.m.put a v, s.at_, s.bs, s.ws⟩ cnt p A kvs := by
  subst ev
  exact h.putR hok ha e v'
end
theorem p2_le {n k : Nat} (h : n ≤ k) : (2 : Int) ^ n ≤ 2 ^ k := by
  obtain ⟨d, rfl⟩ := Nat.le.dest h
  induction d with
  | zero => exact Int.le_refl _
  | succ d ih =>
    have p0 := p2_pos (n + d)
    rw [← Nat.add_assoc, Int.pow_succ]
    have := ih (Nat.le_add_right _ _)
    omega
def spDo (K : PySem.W.Frag) (W : Addr) (S : Op → Prop) : Sp := fun vs H Q _ => ∃ (p q : Addr) (wd m cnt : Nat) (fl : Nat → Int) (H0 : Hp) (s : Wst) (A : Ad) (kvs : List (Key × V)) (o : Op), vs = [.ref p, .ref q] ∧ S o ∧ RowAt H0 o.rw q ∧ o.ok m ∧ 1 ≤ wd ∧ wd ≤ 64 ∧ FlAt K H0 A.fa fl ∧ s.m.Ok wd m ∧
  WkD W wd m H0 H s cnt p A kvs ∧ cnt < 1000 ∧ (s.bs = true → s.ws = none) ∧ ∀ H' A' kvs', A'.fa = A.fa → WkD W wd m H0 H' (s.exec wd fl o) (cnt + 1) p A' kvs' → Q .non H'
def spZeros (W : Addr) : Sp := fun vs H Q _ => ∃ (p dx : Addr) (fs : List (Str × V)), vs = [.ref p] ∧ H p = some (.ins W dx fs) ∧ fs.lookup ("many" : Str) = some (V.int 1) ∧ ∀ q H', H q = none → Same H H' → H' q = some (.lst [.int 0]) → Q (.ref q) H'
def spNext (K : PySem.W.Frag) (W : Addr) : Sp := fun vs H Q _ => ∃ (p : Addr) (wd m cnt : Nat) (fl : Nat → Int) (H0 : Hp) (s : Wst) (A : Ad) (kvs : List (Key × V)), vs = [.ref p, .int 0] ∧ WkD W wd m H0 H s cnt p A kvs ∧ FlAt K H0 A.fa fl ∧
  ∀ H', WkD W wd m H0 H' ⟨⟨s.m.rg, s.m.sl, s.m.rt + 1⟩, s.at_, s.bs, s.ws⟩ cnt p A kvs → Q (.int (fl s.m.rt)) H'
def spSlot (W : Addr) : Sp := fun vs H Q _ => ∃ (p : Addr) (wd m cnt : Nat) (H0 : Hp) (s : Wst) (A : Ad) (kvs : List (Key × V)) (n : Int), vs = [.ref p, .int n] ∧ WkD W wd m H0 H s cnt p A kvs ∧ cnt < 1000 ∧
  ∀ H' A' kvs' t, A'.fa = A.fa → A'.ra = A.ra → A'.cell (.sl n) = some t → WkD W wd m H0 H' s (cnt + 1) p A' kvs' → Q (.ref t) H'
def spWait (W : Addr) : Sp := fun vs H Q _ => ∃ (p g : Addr) (wd m cnt : Nat) (H0 : Hp) (s : Wst) (A : Ad) (kvs : List (Key × V)) (n : Nat), vs = [.ref p, .ref g, .int n] ∧ WkD W wd m H0 H s cnt p A kvs ∧ s.ws = none ∧ H g = some (.lst [.int 0]) ∧
  ∀ H' A' kvs', A'.fa = A.fa → WkD W wd m H0 H' ⟨s.m, s.at_, s.bs, some (s.at_ + 1 + (n : Int))⟩ cnt p A' kvs' → Q .non H'
section
variable {P : Program} {w : World} {K : PySem.W.Frag} {mg : Str → Option Value} {base : Heap} {W : Addr}
abbrev s_Work_zeros : Stmt := inClass (top 38) 1
abbrev N_Work_zeros : List Str := ["self", "_"]
theorem sc_Work_zeros : FnScope N_Work_zeros ["self"] (defScope s_Work_zeros) := ⟨rfl, rfl, rfl, by decide +kernel, rfl, by decide +kernel, by decide +kernel⟩
theorem ok_Work_zeros {f : Addr} {fd : FuncData} (F : Fun K "zeros" "Work.zeros" s_Work_zeros f fd) (T : Glob mg) (C : WkC K W) : FnOk P w K mg base CX0 1 f fd ["self"] (spZeros W) := by
  refine F.ok sc_Work_zeros (fun vs H Q E h => ?_) (fun cdv A outer s H vs Q E hr h => ?_)
  · obtain ⟨p, dx, fs, rfl, _⟩ := h
    rfl
  · obtain ⟨p, dx, fs, rfl, hp, hm, k⟩ := h
    have nd := sc_Work_zeros.nd
    refine ⟨_, (pss_one (ps_ret (pe_lc (own := [("_", 1)]) (g := gName 1) (tt := tYes) rfl nd (pi_range1 (by rfl) T.g_range (pa_cons (pe_fld (pv 0) rfl) pa_nil)) (blkOk_by (N := N_Work_zeros) (sc := defScope s_Work_zeros) (by decide +kernel)) (fun _ _ _ _ _ => pg_name (i := 1) nd rfl (Or.inl rfl)) (fun _ _ _ _ _ => pts_nil) (fun _ _ _ _ _ => pe_int)))), ?_⟩
    refine ⟨_, rfl, p, W, dx, _, _, rfl, hp, C.cl, C.many, hm, 1, rfl, by decide, by decide, fun D hD => ?_⟩
    refine lc_range (lo := 0) (n := 1) (fun i H2 => Same H H2 ∧ H2 D = some (.lst (List.replicate i (.int 0)))) ⟨new_same hD, upd_same⟩ ?_ ?_
    · rintro i H2 hi ⟨sm, h2⟩
      refine ⟨rfl, List.replicate i (.int 0), h2, by rw [List.length_replicate]; exact small1000 (by omega), fun b o e => ?_, ?_⟩
      · rw [upd_ne (ne_of_none e hD)]
        exact sm b o e
      · rw [upd_same, List.replicate_succ']
    · rintro H2 ⟨sm, h2⟩
      exact k D H2 hD sm h2
abbrev s_Work_next_fill : Stmt := inClass (top 38) 5
abbrev N_Work_next_fill : List Str := ["self", "at", "fills", "done"]
theorem sc_Work_next_fill : FnScope N_Work_next_fill ["self", "at"] (defScope s_Work_next_fill) := ⟨rfl, rfl, rfl, by decide +kernel, rfl, by decide +kernel, by decide +kernel⟩
theorem ok_Work_next_fill {f : Addr} {fd : FuncData} (F : Fun K "next_fill" "Work.next_fill" s_Work_next_fill f fd) (T : Glob mg) (C : WkC K W) : FnOk P w K mg base CX0 1 f fd ["self", "at"] (spNext K W) := by
  refine F.ok sc_Work_next_fill (fun vs H Q E h => ?_) (fun cdv A outer s H vs Q E hr h => ?_)
  · obtain ⟨p, wd, m, cnt, fl, H0, s, A, kvs, rfl, _⟩ := h
    rfl
  · obtain ⟨p, wd, m, cnt, fl, H0, s, A, kvs, rfl, D, hfl, k⟩ := h
    have nd := sc_Work_next_fill.nd
    refine ⟨_, (pss_cons (ps_set (i := 2) nd rfl (Or.inl rfl) (pe_ix ix_list (pe_fld (pv 0) rfl) (pv 1) (fun _ _ => rfl)))
    (pss_cons (ps_set (i := 3) nd rfl (Or.inl rfl) (pe_ix ix_list (pe_fld (pv 0) rfl) (pv 1) (fun _ _ => rfl)))
    (pss_cons (ps_asg (pe_op op_add (pv 3) pe_int) (pg_sub (pe_fld (pv 0) rfl) (pv 1) set_list))
    (pss_one (ps_ret (pe_ifExp (pt_cmpR op_lt (pv 3) (pe_callB call_len_seq (by rfl) T.g_len PySem.boot_len (pa_cons (pv 2) pa_nil)) (nomark _)) (pe_ix ix_seq (pv 2) (pv 3) (fun _ _ => rfl)) pe_int)))))), ?_⟩
    have hrt : H A.rt = some (.lst [.int (s.m.rt : Int)]) := (D.cl .rt A.rt D.rt).1
    refine ⟨_, rfl, p, W, _, _, _, rfl, D.pp, C.cl, C.fills, rfl, _, rfl, A.fs, _, _, .ref A.fa, rfl, rfl, SqL.of D.fs, atI_nat (j := 0) rfl, ?_⟩
    refine ⟨_, rfl, p, W, _, _, _, rfl, D.pp, C.cl, C.rights, rfl, _, rfl, A.rt, _, _, .int (s.m.rt : Int), rfl, rfl, SqL.of hrt, atI_nat (j := 0) rfl, ?_⟩
    refine ⟨_, rfl, _, _, rfl, rfl, _, rfl, p, W, _, _, _, rfl, D.pp, C.cl, C.rights, rfl, _, rfl, A.rt, _, _, 0, rfl, rfl, hrt, rfl, ?_⟩
    have D2 := D.put (c := .rt) (a := A.rt) (t := ⟨⟨s.m.rg, s.m.sl, s.m.rt + 1⟩, s.at_, s.bs, s.ws⟩) D.rt rfl rfl (fun c' hc => by cases c' <;> first | rfl | exact absurd rfl hc) (fun n _ => rfl)
    obtain ⟨xs, hxs, hl, he, hb⟩ := hfl.same D2.same
    refine ⟨_, rfl, _, rfl, A.fa, xs.map V.int, rfl, hxs, _, _, rfl, rfl, _, rfl, ?_⟩
    rw [List.length_map]
    refine ite2 (fun h => ?_) (fun h => ?_)
    · have h := of_decide_eq_true h
      have hlt : s.m.rt < xs.length := by omega
      have hx : (xs.map V.int)[s.m.rt]? = some (.int (fl s.m.rt)) := by
        rw [List.getElem?_map, he, List.getD_eq_getElem?_getD, List.getElem?_eq_getElem hlt]
        rfl
      refine ⟨_, rfl, _, rfl, ?_⟩
      rcases hxs with hs | hs
      · exact .inl ⟨A.fa, _, _, _, rfl, rfl, hs, atI_nat hx, k _ D2⟩
      · exact .inr (.inl ⟨A.fa, _, _, _, rfl, rfl, hs, atI_nat hx, k _ D2⟩)
    · have h := of_decide_eq_false (Bool.eq_false_iff.mpr h)
      have e0 : fl s.m.rt = 0 := by
        rw [he, List.getD_eq_getElem?_getD, List.getElem?_eq_none (by omega)]
        rfl
      have q := k _ D2
      rw [e0] at q
      exact q
abbrev s_Work_slot : Stmt := inClass (top 38) 6
abbrev N_Work_slot : List Str := ["self", "number"]
theorem sc_Work_slot : FnScope N_Work_slot ["self", "number"] (defScope s_Work_slot) := ⟨rfl, rfl, rfl, by decide +kernel, rfl, by decide +kernel, by decide +kernel⟩
theorem ok_Work_slot {f : Addr} {fd : FuncData} (F : Fun K "slot" "Work.slot" s_Work_slot f fd) (T : Glob mg) (C : WkC K W) (Mz : Mt P w K mg base W 1 "zeros" ["self"] (spZeros W)) : FnOk P w K mg base CX0 2 f fd ["self", "number"] (spSlot W) := by
  refine F.ok sc_Work_slot (fun vs H Q E h => ?_) (fun cdv A outer s H vs Q E hr h => ?_)
  · obtain ⟨p, wd, m, cnt, H0, s, A, kvs, n, rfl, _⟩ := h
    rfl
  · obtain ⟨p, wd, m, cnt, H0, s, A, kvs, n, rfl, D, hcnt, k⟩ := h
    have nd := sc_Work_slot.nd
    have hu := hu_of hr
    refine ⟨_, (pss_cons (ps_if (pt_cmp (pc_dnotin hu (pv 1) (pe_fld (pv 0) rfl)))
    (pss_one (ps_dput hu (pe_fld (pv 0) rfl) (pv 1) (pe_meth0 (pv 0) C.cl Mz.m Mz.ok (hr.mono (by decide)) Mz.b .nil pass0) rfl))
    pss_nil)
    (pss_one (ps_ret (pe_dget hu (pe_fld (pv 0) rfl) (pv 1) (fun _ _ => rfl))))), ?_⟩
    refine seq_by (fun σ H1 => ∃ A' kvs' t, σ = [some (.ref p), some (.int n)] ∧ A'.fa = A.fa ∧ A'.ra = A.ra ∧ A'.cell (.sl n) = some t ∧ WkD W wd m H0 H1 s (cnt + 1) p A' kvs') (fun D' hD' => ?_) ?_
    · refine ⟨_, rfl, _, rfl, p, W, _, _, _, rfl, D.pp, C.cl, C.slots, rfl, A.sd, _, rfl, DGet.k (k := Sum.inl n) D.sd, _, rfl, ?_⟩
      rw [D.sv n]
      cases e : A.cell (.sl n) with
      | some t => exact iteF (hD' _ _ ⟨A, kvs, t, rfl, rfl, rfl, e, D.more (Nat.le_succ _)⟩)
      | none =>
        refine iteT ?_
        refine ⟨_, rfl, p, A.dx, _, rfl, D.pp, rfl, p, A.dx, _, rfl, D.pp, rfl, fun q H1 hq sm h1 => ?_⟩
        have D1 := D.stay sm
        have qn : ∀ c a, A.cell c = some a → a ≠ q := fun c a e => D.gone e hq
        refine ⟨_, rfl, p, W, _, _, _, rfl, D1.pp, C.cl, C.slots, rfl, _, rfl, A.sd, _, rfl, DPut.k (k := Sum.inl n) D1.sd (Nat.lt_of_le_of_lt D.sk (small1000 (by omega))), ?_⟩
        exact hD' _ _ ⟨{ A with cell := A.cut (.sl n) q }, _, q, rfl, rfl, rfl, (show A.cut (.sl n) q (.sl n) = some q from if_pos rfl), D1.putS n e h1 (D.old hq) qn⟩
    · rintro σ H1 ⟨A', kvs', t, rfl, e1, e2, e3, D1⟩
      have hv := D1.sv n
      rw [e3] at hv
      refine ⟨_, rfl, p, W, _, _, _, rfl, D1.pp, C.cl, C.slots, rfl, _, rfl, A'.sd, .ref t, rfl, by have q := DGet.k (k := Sum.inl n) D1.sd; rw [hv] at q; exact q, ?_⟩
      exact k H1 A' kvs' t e1 e2 e3 D1
abbrev s_Work_wait : Stmt := inClass (top 38) 4
abbrev N_Work_wait : List Str := ["self", "runs", "rows", "to"]
theorem sc_Work_wait : FnScope N_Work_wait ["self", "runs", "rows"] (defScope s_Work_wait) := ⟨rfl, rfl, rfl, by decide +kernel, rfl, by decide +kernel, by decide +kernel⟩
theorem ok_Work_wait {f : Addr} {fd : FuncData} (F : Fun K "wait" "Work.wait" s_Work_wait f fd) (T : Glob mg) (C : WkC K W) : FnOk P w K mg base CX0 1 f fd ["self", "runs", "rows"] (spWait W) := by
  refine F.ok sc_Work_wait (fun vs H Q E h => ?_) (fun cdv A outer s H vs Q E hr h => ?_)
  · obtain ⟨p, g, wd, m, cnt, H0, s, A, kvs, n, rfl, _⟩ := h
    rfl
  · obtain ⟨p, g, wd, m, cnt, H0, s, A, kvs, n, rfl, D, hws, hg, k⟩ := h
    have nd := sc_Work_wait.nd
    have hu := hu_of hr
    refine ⟨_, (pss_cons (ps_set (i := 3) nd rfl (Or.inl rfl) (pe_op op_add (pe_op op_add (pe_fld (pv 0) rfl) pe_int) (pv 2)))
    (pss_one (ps_dput hu (pe_fld (pv 0) rfl) (pv 3) (pe_lst (StX.pa_star (pe_dget2 hu (pe_fld (pv 0) rfl) (pv 3) (pe_lst pa_nil) ⟨rfl, rfl, rfl, rfl⟩) (StX.pa_star (pv 1) pa_nil))) rfl))), ?_⟩
    refine ⟨_, rfl, p, W, _, _, _, rfl, D.pp, C.cl, C.at_, rfl, _, _, rfl, rfl, _, rfl, _, _, rfl, rfl, ?_⟩
    obtain ⟨wa0, hw, _⟩ := id D.wt
    rw [show wsD s wa0 = [] by unfold wsD; rw [hws]] at hw
    refine ⟨_, rfl, p, W, _, _, _, rfl, D.pp, C.cl, C.waiting, rfl, A.wt, rfl, .inl ⟨_, .inl hw⟩, ?_⟩
    refine ⟨_, rfl, (by show 0 ≤ sizeLine; decide), fun q hq => ?_⟩
    have s1 := new_same (o := .lst []) hq
    refine ⟨none, DGet.k (k := Sum.inl (s.at_ + 1 + (n : Int))) (s1 _ _ hw), ?_⟩
    refine ⟨q, [], rfl, .inr (SqL.of upd_same), ?_⟩
    refine ⟨_, rfl, g, [.int 0], rfl, .inr (SqL.of (s1 _ _ hg)), ?_⟩
    refine ⟨(by show 1 ≤ sizeLine; decide), fun u hu2 => ?_⟩
    have s2 := s1.trans (new_same (o := .lst [.int 0]) hu2)
    have D2 := D.stay s2
    have hu0 : H u = none := same_free s1 hu2
    refine ⟨_, rfl, p, W, _, _, _, rfl, D2.pp, C.cl, C.waiting, rfl, _, rfl, A.wt, _, rfl, DPut.k (k := Sum.inl (s.at_ + 1 + (n : Int))) (s2 _ _ hw) (by show 0 < sizeLine; decide), ?_⟩
    exact k _ { A with cell := A.cut .wa u } kvs rfl (D2.putW (s.at_ + 1 + (n : Int)) upd_same (D.old hu0) (fun c a e => D.gone e hu0))
end
end My

set_option pp.maxSteps 400
set_option Elab.async false
set_option linter.all false
set_option maxRecDepth 100000
set_option maxHeartbeats 1000000
namespace My
open PySem L2 MyR
section
variable {P : Program} {w : World} {K : PySem.W.Frag} {mg : Str → Option Value} {base : Heap} {W : Addr}
abbrev s_do_set : Stmt := top 27
abbrev N_do_set : List Str := ["work", "row", "target", "number", "at"]
theorem sc_do_set : FnScope N_do_set ["work", "row"] (defScope s_do_set) := ⟨rfl, rfl, rfl, by decide +kernel, rfl, by decide +kernel, by decide +kernel⟩
theorem ok_do_set {f : Addr} {fd : FuncData} (F : Fun K "do_set" "do_set" s_do_set f fd) (C : WkC K W) : FnOk P w K mg base CX0 1 f fd ["work", "row"] (spDo K W fun o => ∃ a n, o = .set a n) := by
  refine F.ok sc_do_set (fun vs H Q E h => ?_) (fun cdv A0 outer s0 H vs Q E hr h => ?_)
  · obtain ⟨p, q, wd, m, cnt, fl, H0, s, A, kvs, o, rfl, _⟩ := h
    rfl
  · obtain ⟨p, q, wd, m, cnt, fl, H0, s, A, kvs, o, rfl, ⟨a, n, rfl⟩, hq, ho, w1, w64, hfl, hok, D, hcnt, hbw, k⟩ := h
    have nd := sc_do_set.nd
    have hu := hu_of hr
    refine ⟨_, (pss_cons (ps_set (i := 2) nd rfl (Or.inl rfl) (pe_ix ix_list (pe_fld (pv 0) rfl) (pe_ix ix_tup (pv 1) pe_int (fun _ _ => rfl)) (fun _ _ => rfl)))
    (pss_cons (ps_set (i := 3) nd rfl (Or.inl rfl) (pe_op op_and (pe_ix ix_tup (pv 1) pe_int (fun _ _ => rfl)) (pe_fld (pv 0) rfl)))
    (pss_one (ps_for PassesOwn.never rfl (pi_list (pe_fld (pv 0) rfl)) (pg_name (i := 4) nd rfl (Or.inl rfl))
    (pss_one (ps_asg (pv 3) (pg_sub (pv 2) (pv 4) set_list))))))), ?_⟩
    obtain ⟨ha, hn⟩ := ho
    obtain ⟨ta, hta⟩ := D.ix (a := a) ha
    refine ⟨_, rfl, p, W, _, _, _, rfl, D.pp, C.cl, C.registers, rfl, _, rfl, q, _, _, .int a, rfl, rfl, SqT.of (D.same _ _ hq), atI_nat (j := 1) rfl, A.rga, _, _, .ref ta, rfl, rfl, SqL.of D.rg, atI_nat (refs_at hta), ?_⟩
    refine ⟨_, rfl, q, _, _, .int n, rfl, rfl, SqT.of (D.same _ _ hq), atI_nat (j := 2) rfl, _, rfl, p, W, _, _, _, rfl, D.pp, C.cl, C.mask, rfl, _, _, rfl, rfl, ?_⟩
    have ex : s.bs = true → s.exec wd fl (.set a n) = ⟨Op.run wd fl s.m (.set a n), s.at_, s.bs, s.ws⟩ := fun hb => exec_yes wd fl hb rfl
    refine ⟨_, rfl, p, W, _, _, _, rfl, D.pp, C.cl, C.busy, rfl, A.bz, rfl, ⟨_, SqL.of D.bzAt⟩, ?_⟩
    refine for_bz (b := s.bs) D.bzAt (fun _ H' => s.bs = true ∧ WkD W wd m H0 H' (s.exec wd fl (.set a n)) (cnt + 1) p A kvs) (fun _ H' h => ?_) (fun hb => ?_) (fun hb σ' H' h => k H' A kvs rfl h.2) (fun hb => ?_)
    · have q := h.2.bzAt
      rw [ex h.1, h.1] at q
      exact q
    · refine ⟨_, rfl, _, rfl, _, rfl, ta, _, _, 0, rfl, rfl, D.reg hta, rfl, ?_⟩
      have D2 := (D.more (Nat.le_succ cnt)).putRE hok ha hta (mask_at n wd)
      rw [ex hb]
      exact ⟨hb, D2⟩
    · refine k H A kvs rfl ?_
      rw [exec_no wd fl _ hb]
      exact D.more (Nat.le_succ _)
abbrev s_do_copy : Stmt := top 28
abbrev N_do_copy : List Str := ["work", "row", "target", "one", "at"]
theorem sc_do_copy : FnScope N_do_copy ["work", "row"] (defScope s_do_copy) := ⟨rfl, rfl, rfl, by decide +kernel, rfl, by decide +kernel, by decide +kernel⟩
theorem ok_do_copy {f : Addr} {fd : FuncData} (F : Fun K "do_copy" "do_copy" s_do_copy f fd) (C : WkC K W) : FnOk P w K mg base CX0 1 f fd ["work", "row"] (spDo K W fun o => ∃ a b, o = .copy a b) := by
  refine F.ok sc_do_copy (fun vs H Q E h => ?_) (fun cdv A0 outer s0 H vs Q E hr h => ?_)
  · obtain ⟨p, q, wd, m, cnt, fl, H0, s, A, kvs, o, rfl, _⟩ := h
    rfl
  · obtain ⟨p, q, wd, m, cnt, fl, H0, s, A, kvs, o, rfl, ⟨a, b, rfl⟩, hq, ho, w1, w64, hfl, hok, D, hcnt, hbw, k⟩ := h
    have nd := sc_do_copy.nd
    have hu := hu_of hr
    refine ⟨_, (pss_cons (ps_set (i := 2) nd rfl (Or.inl rfl) (pe_ix ix_list (pe_fld (pv 0) rfl) (pe_ix ix_tup (pv 1) pe_int (fun _ _ => rfl)) (fun _ _ => rfl)))
    (pss_cons (ps_set (i := 3) nd rfl (Or.inl rfl) (pe_ix ix_list (pe_fld (pv 0) rfl) (pe_ix ix_tup (pv 1) pe_int (fun _ _ => rfl)) (fun _ _ => rfl)))
    (pss_one (ps_for PassesOwn.never rfl (pi_list (pe_fld (pv 0) rfl)) (pg_name (i := 4) nd rfl (Or.inl rfl))
    (pss_one (ps_asg (pe_ix ix_list (pv 3) (pv 4) (fun _ _ => rfl)) (pg_sub (pv 2) (pv 4) set_list))))))), ?_⟩
    obtain ⟨ha, hb⟩ := ho
    obtain ⟨ta, hta⟩ := D.ix (a := a) ha
    obtain ⟨tb, htb⟩ := D.ix (a := b) hb
    refine ⟨_, rfl, p, W, _, _, _, rfl, D.pp, C.cl, C.registers, rfl, _, rfl, q, _, _, .int a, rfl, rfl, SqT.of (D.same _ _ hq), atI_nat (j := 1) rfl, A.rga, _, _, .ref ta, rfl, rfl, SqL.of D.rg, atI_nat (refs_at hta), ?_⟩
    refine ⟨_, rfl, p, W, _, _, _, rfl, D.pp, C.cl, C.registers, rfl, _, rfl, q, _, _, .int b, rfl, rfl, SqT.of (D.same _ _ hq), atI_nat (j := 2) rfl, A.rga, _, _, .ref tb, rfl, rfl, SqL.of D.rg, atI_nat (refs_at htb), ?_⟩
    have ex : s.bs = true → s.exec wd fl (.copy a b) = ⟨Op.run wd fl s.m (.copy a b), s.at_, s.bs, s.ws⟩ := fun hb => exec_yes wd fl hb rfl
    refine ⟨_, rfl, p, W, _, _, _, rfl, D.pp, C.cl, C.busy, rfl, A.bz, rfl, ⟨_, SqL.of D.bzAt⟩, ?_⟩
    refine for_bz (b := s.bs) D.bzAt (fun _ H' => s.bs = true ∧ WkD W wd m H0 H' (s.exec wd fl (.copy a b)) (cnt + 1) p A kvs) (fun _ H' h => ?_) (fun hb => ?_) (fun hb σ' H' h => k H' A kvs rfl h.2) (fun hb => ?_)
    · have q := h.2.bzAt
      rw [ex h.1, h.1] at q
      exact q
    · refine ⟨_, rfl, _, rfl, tb, _, _, .int (s.m.get b), rfl, rfl, SqL.of (D.reg htb), atI_nat (j := 0) rfl, _, rfl, _, rfl, ta, _, _, 0, rfl, rfl, D.reg hta, rfl, ?_⟩
      have D2 := (D.more (Nat.le_succ cnt)).putRE hok ha hta (Eq.refl (s.m.get b))
      rw [ex hb]
      exact ⟨hb, D2⟩
    · refine k H A kvs rfl ?_
      rw [exec_no wd fl _ hb]
      exact D.more (Nat.le_succ _)
abbrev s_do_add : Stmt := top 29
abbrev N_do_add : List Str := ["work", "row", "target", "one", "other", "mask", "at"]
theorem sc_do_add : FnScope N_do_add ["work", "row"] (defScope s_do_add) := ⟨rfl, rfl, rfl, by decide +kernel, rfl, by decide +kernel, by decide +kernel⟩
theorem ok_do_add {f : Addr} {fd : FuncData} (F : Fun K "do_add" "do_add" s_do_add f fd) (C : WkC K W) : FnOk P w K mg base CX0 1 f fd ["work", "row"] (spDo K W fun o => ∃ a b c, o = .add a b c) := by
  refine F.ok sc_do_add (fun vs H Q E h => ?_) (fun cdv A0 outer s0 H vs Q E hr h => ?_)
  · obtain ⟨p, q, wd, m, cnt, fl, H0, s, A, kvs, o, rfl, _⟩ := h
    rfl
  · obtain ⟨p, q, wd, m, cnt, fl, H0, s, A, kvs, o, rfl, ⟨a, b, c, rfl⟩, hq, ho, w1, w64, hfl, hok, D, hcnt, hbw, k⟩ := h
    have nd := sc_do_add.nd
    have hu := hu_of hr
    refine ⟨_, (pss_cons (ps_set (i := 2) nd rfl (Or.inl rfl) (pe_ix ix_list (pe_fld (pv 0) rfl) (pe_ix ix_tup (pv 1) pe_int (fun _ _ => rfl)) (fun _ _ => rfl)))
    (pss_cons (ps_set (i := 3) nd rfl (Or.inl rfl) (pe_ix ix_list (pe_fld (pv 0) rfl) (pe_ix ix_tup (pv 1) pe_int (fun _ _ => rfl)) (fun _ _ => rfl)))
    (pss_cons (ps_set (i := 4) nd rfl (Or.inl rfl) (pe_ix ix_list (pe_fld (pv 0) rfl) (pe_ix ix_tup (pv 1) pe_int (fun _ _ => rfl)) (fun _ _ => rfl)))
    (pss_cons (ps_set (i := 5) nd rfl (Or.inl rfl) (pe_fld (pv 0) rfl))
    (pss_one (ps_for PassesOwn.never rfl (pi_list (pe_fld (pv 0) rfl)) (pg_name (i := 6) nd rfl (Or.inl rfl))
    (pss_one (ps_asg (pe_op op_and (pe_op op_add (pe_ix ix_list (pv 3) (pv 6) (fun _ _ => rfl)) (pe_ix ix_list (pv 4) (pv 6) (fun _ _ => rfl))) (pv 5)) (pg_sub (pv 2) (pv 6) set_list))))))))), ?_⟩
    obtain ⟨ha, hb, hc⟩ := ho
    obtain ⟨ta, hta⟩ := D.ix (a := a) ha
    obtain ⟨tb, htb⟩ := D.ix (a := b) hb
    obtain ⟨tc, htc⟩ := D.ix (a := c) hc
    refine ⟨_, rfl, p, W, _, _, _, rfl, D.pp, C.cl, C.registers, rfl, _, rfl, q, _, _, .int a, rfl, rfl, SqT.of (D.same _ _ hq), atI_nat (j := 1) rfl, A.rga, _, _, .ref ta, rfl, rfl, SqL.of D.rg, atI_nat (refs_at hta), ?_⟩
    refine ⟨_, rfl, p, W, _, _, _, rfl, D.pp, C.cl, C.registers, rfl, _, rfl, q, _, _, .int b, rfl, rfl, SqT.of (D.same _ _ hq), atI_nat (j := 2) rfl, A.rga, _, _, .ref tb, rfl, rfl, SqL.of D.rg, atI_nat (refs_at htb), ?_⟩
    refine ⟨_, rfl, p, W, _, _, _, rfl, D.pp, C.cl, C.registers, rfl, _, rfl, q, _, _, .int c, rfl, rfl, SqT.of (D.same _ _ hq), atI_nat (j := 3) rfl, A.rga, _, _, .ref tc, rfl, rfl, SqL.of D.rg, atI_nat (refs_at htc), ?_⟩
    refine ⟨_, rfl, p, W, _, _, _, rfl, D.pp, C.cl, C.mask, rfl, ?_⟩
    have ex : s.bs = true → s.exec wd fl (.add a b c) = ⟨Op.run wd fl s.m (.add a b c), s.at_, s.bs, s.ws⟩ := fun hb => exec_yes wd fl hb rfl
    refine ⟨_, rfl, p, W, _, _, _, rfl, D.pp, C.cl, C.busy, rfl, A.bz, rfl, ⟨_, SqL.of D.bzAt⟩, ?_⟩
    refine for_bz (b := s.bs) D.bzAt (fun _ H' => s.bs = true ∧ WkD W wd m H0 H' (s.exec wd fl (.add a b c)) (cnt + 1) p A kvs) (fun _ H' h => ?_) (fun hb => ?_) (fun hb σ' H' h => k H' A kvs rfl h.2) (fun hb => ?_)
    · have q := h.2.bzAt
      rw [ex h.1, h.1] at q
      exact q
    · refine ⟨_, rfl, _, rfl, tb, _, _, .int (s.m.get b), rfl, rfl, SqL.of (D.reg htb), atI_nat (j := 0) rfl, _, rfl, _, rfl, tc, _, _, .int (s.m.get c), rfl, rfl, SqL.of (D.reg htc), atI_nat (j := 0) rfl, _, _, rfl, rfl, _, rfl, _, _, rfl, rfl, _, rfl, _, rfl, ta, _, _, 0, rfl, rfl, D.reg hta, rfl, ?_⟩
      have D2 := (D.more (Nat.le_succ cnt)).putRE hok ha hta (mask_at (s.m.get b + s.m.get c) wd)
      rw [ex hb]
      exact ⟨hb, D2⟩
    · refine k H A kvs rfl ?_
      rw [exec_no wd fl _ hb]
      exact D.more (Nat.le_succ _)
abbrev s_do_sub : Stmt := top 30
abbrev N_do_sub : List Str := ["work", "row", "target", "one", "other", "mask", "at"]
theorem sc_do_sub : FnScope N_do_sub ["work", "row"] (defScope s_do_sub) := ⟨rfl, rfl, rfl, by decide +kernel, rfl, by decide +kernel, by decide +kernel⟩
theorem ok_do_sub {f : Addr} {fd : FuncData} (F : Fun K "do_sub" "do_sub" s_do_sub f fd) (C : WkC K W) : FnOk P w K mg base CX0 1 f fd ["work", "row"] (spDo K W fun o => ∃ a b c, o = .sub a b c) := by
  refine F.ok sc_do_sub (fun vs H Q E h => ?_) (fun cdv A0 outer s0 H vs Q E hr h => ?_)
  · obtain ⟨p, q, wd, m, cnt, fl, H0, s, A, kvs, o, rfl, _⟩ := h
    rfl
  · obtain ⟨p, q, wd, m, cnt, fl, H0, s, A, kvs, o, rfl, ⟨a, b, c, rfl⟩, hq, ho, w1, w64, hfl, hok, D, hcnt, hbw, k⟩ := h
    have nd := sc_do_sub.nd
    have hu := hu_of hr
    refine ⟨_, (pss_cons (ps_set (i := 2) nd rfl (Or.inl rfl) (pe_ix ix_list (pe_fld (pv 0) rfl) (pe_ix ix_tup (pv 1) pe_int (fun _ _ => rfl)) (fun _ _ => rfl)))
    (pss_cons (ps_set (i := 3) nd rfl (Or.inl rfl) (pe_ix ix_list (pe_fld (pv 0) rfl) (pe_ix ix_tup (pv 1) pe_int (fun _ _ => rfl)) (fun _ _ => rfl)))
    (pss_cons (ps_set (i := 4) nd rfl (Or.inl rfl) (pe_ix ix_list (pe_fld (pv 0) rfl) (pe_ix ix_tup (pv 1) pe_int (fun _ _ => rfl)) (fun _ _ => rfl)))
    (pss_cons (ps_set (i := 5) nd rfl (Or.inl rfl) (pe_fld (pv 0) rfl))
    (pss_one (ps_for PassesOwn.never rfl (pi_list (pe_fld (pv 0) rfl)) (pg_name (i := 6) nd rfl (Or.inl rfl))
    (pss_one (ps_asg (pe_op op_and (pe_op op_sub (pe_ix ix_list (pv 3) (pv 6) (fun _ _ => rfl)) (pe_ix ix_list (pv 4) (pv 6) (fun _ _ => rfl))) (pv 5)) (pg_sub (pv 2) (pv 6) set_list))))))))), ?_⟩
    obtain ⟨ha, hb, hc⟩ := ho
    obtain ⟨ta, hta⟩ := D.ix (a := a) ha
    obtain ⟨tb, htb⟩ := D.ix (a := b) hb
    obtain ⟨tc, htc⟩ := D.ix (a := c) hc
    refine ⟨_, rfl, p, W, _, _, _, rfl, D.pp, C.cl, C.registers, rfl, _, rfl, q, _, _, .int a, rfl, rfl, SqT.of (D.same _ _ hq), atI_nat (j := 1) rfl, A.rga, _, _, .ref ta, rfl, rfl, SqL.of D.rg, atI_nat (refs_at hta), ?_⟩
    refine ⟨_, rfl, p, W, _, _, _, rfl, D.pp, C.cl, C.registers, rfl, _, rfl, q, _, _, .int b, rfl, rfl, SqT.of (D.same _ _ hq), atI_nat (j := 2) rfl, A.rga, _, _, .ref tb, rfl, rfl, SqL.of D.rg, atI_nat (refs_at htb), ?_⟩
    refine ⟨_, rfl, p, W, _, _, _, rfl, D.pp, C.cl, C.registers, rfl, _, rfl, q, _, _, .int c, rfl, rfl, SqT.of (D.same _ _ hq), atI_nat (j := 3) rfl, A.rga, _, _, .ref tc, rfl, rfl, SqL.of D.rg, atI_nat (refs_at htc), ?_⟩
    refine ⟨_, rfl, p, W, _, _, _, rfl, D.pp, C.cl, C.mask, rfl, ?_⟩
    have ex : s.bs = true → s.exec wd fl (.sub a b c) = ⟨Op.run wd fl s.m (.sub a b c), s.at_, s.bs, s.ws⟩ := fun hb => exec_yes wd fl hb rfl
    refine ⟨_, rfl, p, W, _, _, _, rfl, D.pp, C.cl, C.busy, rfl, A.bz, rfl, ⟨_, SqL.of D.bzAt⟩, ?_⟩
    refine for_bz (b := s.bs) D.bzAt (fun _ H' => s.bs = true ∧ WkD W wd m H0 H' (s.exec wd fl (.sub a b c)) (cnt + 1) p A kvs) (fun _ H' h => ?_) (fun hb => ?_) (fun hb σ' H' h => k H' A kvs rfl h.2) (fun hb => ?_)
    · have q := h.2.bzAt
      rw [ex h.1, h.1] at q
      exact q
    · refine ⟨_, rfl, _, rfl, tb, _, _, .int (s.m.get b), rfl, rfl, SqL.of (D.reg htb), atI_nat (j := 0) rfl, _, rfl, _, rfl, tc, _, _, .int (s.m.get c), rfl, rfl, SqL.of (D.reg htc), atI_nat (j := 0) rfl, _, _, rfl, rfl, _, rfl, _, _, rfl, rfl, _, rfl, _, rfl, ta, _, _, 0, rfl, rfl, D.reg hta, rfl, ?_⟩
      have D2 := (D.more (Nat.le_succ cnt)).putRE hok ha hta (mask_at (s.m.get b - s.m.get c) wd)
      rw [ex hb]
      exact ⟨hb, D2⟩
    · refine k H A kvs rfl ?_
      rw [exec_no wd fl _ hb]
      exact D.more (Nat.le_succ _)
abbrev s_do_mul : Stmt := top 31
abbrev N_do_mul : List Str := ["work", "row", "target", "one", "other", "mask", "at"]
theorem sc_do_mul : FnScope N_do_mul ["work", "row"] (defScope s_do_mul) := ⟨rfl, rfl, rfl, by decide +kernel, rfl, by decide +kernel, by decide +kernel⟩
theorem ok_do_mul {f : Addr} {fd : FuncData} (F : Fun K "do_mul" "do_mul" s_do_mul f fd) (C : WkC K W) : FnOk P w K mg base CX0 1 f fd ["work", "row"] (spDo K W fun o => ∃ a b c, o = .mul a b c) := by
  refine F.ok sc_do_mul (fun vs H Q E h => ?_) (fun cdv A0 outer s0 H vs Q E hr h => ?_)
  · obtain ⟨p, q, wd, m, cnt, fl, H0, s, A, kvs, o, rfl, _⟩ := h
    rfl
  · obtain ⟨p, q, wd, m, cnt, fl, H0, s, A, kvs, o, rfl, ⟨a, b, c, rfl⟩, hq, ho, w1, w64, hfl, hok, D, hcnt, hbw, k⟩ := h
    have nd := sc_do_mul.nd
    have hu := hu_of hr
    refine ⟨_, (pss_cons (ps_set (i := 2) nd rfl (Or.inl rfl) (pe_ix ix_list (pe_fld (pv 0) rfl) (pe_ix ix_tup (pv 1) pe_int (fun _ _ => rfl)) (fun _ _ => rfl)))
    (pss_cons (ps_set (i := 3) nd rfl (Or.inl rfl) (pe_ix ix_list (pe_fld (pv 0) rfl) (pe_ix ix_tup (pv 1) pe_int (fun _ _ => rfl)) (fun _ _ => rfl)))
    (pss_cons (ps_set (i := 4) nd rfl (Or.inl rfl) (pe_ix ix_list (pe_fld (pv 0) rfl) (pe_ix ix_tup (pv 1) pe_int (fun _ _ => rfl)) (fun _ _ => rfl)))
    (pss_cons (ps_set (i := 5) nd rfl (Or.inl rfl) (pe_fld (pv 0) rfl))
    (pss_one (ps_for PassesOwn.never rfl (pi_list (pe_fld (pv 0) rfl)) (pg_name (i := 6) nd rfl (Or.inl rfl))
    (pss_one (ps_asg (pe_op op_and (pe_op op_mul (pe_ix ix_list (pv 3) (pv 6) (fun _ _ => rfl)) (pe_ix ix_list (pv 4) (pv 6) (fun _ _ => rfl))) (pv 5)) (pg_sub (pv 2) (pv 6) set_list))))))))), ?_⟩
    obtain ⟨ha, hb, hc⟩ := ho
    obtain ⟨ta, hta⟩ := D.ix (a := a) ha
    obtain ⟨tb, htb⟩ := D.ix (a := b) hb
    obtain ⟨tc, htc⟩ := D.ix (a := c) hc
    refine ⟨_, rfl, p, W, _, _, _, rfl, D.pp, C.cl, C.registers, rfl, _, rfl, q, _, _, .int a, rfl, rfl, SqT.of (D.same _ _ hq), atI_nat (j := 1) rfl, A.rga, _, _, .ref ta, rfl, rfl, SqL.of D.rg, atI_nat (refs_at hta), ?_⟩
    refine ⟨_, rfl, p, W, _, _, _, rfl, D.pp, C.cl, C.registers, rfl, _, rfl, q, _, _, .int b, rfl, rfl, SqT.of (D.same _ _ hq), atI_nat (j := 2) rfl, A.rga, _, _, .ref tb, rfl, rfl, SqL.of D.rg, atI_nat (refs_at htb), ?_⟩
    refine ⟨_, rfl, p, W, _, _, _, rfl, D.pp, C.cl, C.registers, rfl, _, rfl, q, _, _, .int c, rfl, rfl, SqT.of (D.same _ _ hq), atI_nat (j := 3) rfl, A.rga, _, _, .ref tc, rfl, rfl, SqL.of D.rg, atI_nat (refs_at htc), ?_⟩
    refine ⟨_, rfl, p, W, _, _, _, rfl, D.pp, C.cl, C.mask, rfl, ?_⟩
    have ex : s.bs = true → s.exec wd fl (.mul a b c) = ⟨Op.run wd fl s.m (.mul a b c), s.at_, s.bs, s.ws⟩ := fun hb => exec_yes wd fl hb rfl
    refine ⟨_, rfl, p, W, _, _, _, rfl, D.pp, C.cl, C.busy, rfl, A.bz, rfl, ⟨_, SqL.of D.bzAt⟩, ?_⟩
    refine for_bz (b := s.bs) D.bzAt (fun _ H' => s.bs = true ∧ WkD W wd m H0 H' (s.exec wd fl (.mul a b c)) (cnt + 1) p A kvs) (fun _ H' h => ?_) (fun hb => ?_) (fun hb σ' H' h => k H' A kvs rfl h.2) (fun hb => ?_)
    · have q := h.2.bzAt
      rw [ex h.1, h.1] at q
      exact q
    · have bb := hok.rg b
      have pw := p2_le w64
      have eg : s.m.get b = s.m.rg.getD b 0 := rfl
      refine ⟨_, rfl, _, rfl, tb, _, _, .int (s.m.get b), rfl, rfl, SqL.of (D.reg htb), atI_nat (j := 0) rfl, _, rfl, _, rfl, tc, _, _, .int (s.m.get c), rfl, rfl, SqL.of (D.reg htc), atI_nat (j := 0) rfl, _, _, rfl, rfl, .inl ⟨by omega, by omega⟩, _, rfl, _, _, rfl, rfl, _, rfl, _, rfl, ta, _, _, 0, rfl, rfl, D.reg hta, rfl, ?_⟩
      have D2 := (D.more (Nat.le_succ cnt)).putRE hok ha hta (mask_at (s.m.get b * s.m.get c) wd)
      rw [ex hb]
      exact ⟨hb, D2⟩
    · refine k H A kvs rfl ?_
      rw [exec_no wd fl _ hb]
      exact D.more (Nat.le_succ _)
abbrev s_do_left : Stmt := top 32
abbrev N_do_left : List Str := ["work", "row", "target", "one", "mask", "at"]
theorem sc_do_left : FnScope N_do_left ["work", "row"] (defScope s_do_left) := ⟨rfl, rfl, rfl, by decide +kernel, rfl, by decide +kernel, by decide +kernel⟩
theorem ok_do_left {f : Addr} {fd : FuncData} (F : Fun K "do_left" "do_left" s_do_left f fd) (C : WkC K W) : FnOk P w K mg base CX0 1 f fd ["work", "row"] (spDo K W fun o => ∃ a b, o = .left a b) := by
  refine F.ok sc_do_left (fun vs H Q E h => ?_) (fun cdv A0 outer s0 H vs Q E hr h => ?_)
  · obtain ⟨p, q, wd, m, cnt, fl, H0, s, A, kvs, o, rfl, _⟩ := h
    rfl
  · obtain ⟨p, q, wd, m, cnt, fl, H0, s, A, kvs, o, rfl, ⟨a, b, rfl⟩, hq, ho, w1, w64, hfl, hok, D, hcnt, hbw, k⟩ := h
    have nd := sc_do_left.nd
    have hu := hu_of hr
    refine ⟨_, (pss_cons (ps_set (i := 2) nd rfl (Or.inl rfl) (pe_ix ix_list (pe_fld (pv 0) rfl) (pe_ix ix_tup (pv 1) pe_int (fun _ _ => rfl)) (fun _ _ => rfl)))
    (pss_cons (ps_set (i := 3) nd rfl (Or.inl rfl) (pe_ix ix_list (pe_fld (pv 0) rfl) (pe_ix ix_tup (pv 1) pe_int (fun _ _ => rfl)) (fun _ _ => rfl)))
    (pss_cons (ps_set (i := 4) nd rfl (Or.inl rfl) (pe_fld (pv 0) rfl))
    (pss_one (ps_for PassesOwn.never rfl (pi_list (pe_fld (pv 0) rfl)) (pg_name (i := 5) nd rfl (Or.inl rfl))
    (pss_one (ps_asg (pe_op op_and (pe_op op_shl (pe_ix ix_list (pv 3) (pv 5) (fun _ _ => rfl)) pe_int) (pv 4)) (pg_sub (pv 2) (pv 5) set_list)))))))), ?_⟩
    obtain ⟨ha, hb⟩ := ho
    obtain ⟨ta, hta⟩ := D.ix (a := a) ha
    obtain ⟨tb, htb⟩ := D.ix (a := b) hb
    refine ⟨_, rfl, p, W, _, _, _, rfl, D.pp, C.cl, C.registers, rfl, _, rfl, q, _, _, .int a, rfl, rfl, SqT.of (D.same _ _ hq), atI_nat (j := 1) rfl, A.rga, _, _, .ref ta, rfl, rfl, SqL.of D.rg, atI_nat (refs_at hta), ?_⟩
    refine ⟨_, rfl, p, W, _, _, _, rfl, D.pp, C.cl, C.registers, rfl, _, rfl, q, _, _, .int b, rfl, rfl, SqT.of (D.same _ _ hq), atI_nat (j := 2) rfl, A.rga, _, _, .ref tb, rfl, rfl, SqL.of D.rg, atI_nat (refs_at htb), ?_⟩
    refine ⟨_, rfl, p, W, _, _, _, rfl, D.pp, C.cl, C.mask, rfl, ?_⟩
    have ex : s.bs = true → s.exec wd fl (.left a b) = ⟨Op.run wd fl s.m (.left a b), s.at_, s.bs, s.ws⟩ := fun hb => exec_yes wd fl hb rfl
    refine ⟨_, rfl, p, W, _, _, _, rfl, D.pp, C.cl, C.busy, rfl, A.bz, rfl, ⟨_, SqL.of D.bzAt⟩, ?_⟩
    refine for_bz (b := s.bs) D.bzAt (fun _ H' => s.bs = true ∧ WkD W wd m H0 H' (s.exec wd fl (.left a b)) (cnt + 1) p A kvs) (fun _ H' h => ?_) (fun hb => ?_) (fun hb σ' H' h => k H' A kvs rfl h.2) (fun hb => ?_)
    · have q := h.2.bzAt
      rw [ex h.1, h.1] at q
      exact q
    · have bb := hok.rg b
      have pw := p2_le w64
      have eg : s.m.get b = s.m.rg.getD b 0 := rfl
      refine ⟨_, rfl, _, rfl, tb, _, _, .int (s.m.get b), rfl, rfl, SqL.of (D.reg htb), atI_nat (j := 0) rfl, _, _, rfl, rfl, ⟨by decide, by decide, by omega⟩, _, rfl, _, _, rfl, rfl, _, rfl, _, rfl, ta, _, _, 0, rfl, rfl, D.reg hta, rfl, ?_⟩
      have D2 := (D.more (Nat.le_succ cnt)).putRE hok ha hta (show Builtin.bitAnd (s.m.get b * 2 ^ (1 : Int).toNat) (2 ^ wd - 1) = 2 * s.m.get b % 2 ^ wd from by rw [mask_at, show s.m.get b * 2 ^ (1 : Int).toNat = 2 * s.m.get b from Int.mul_comm _ _])
      rw [ex hb]
      exact ⟨hb, D2⟩
    · refine k H A kvs rfl ?_
      rw [exec_no wd fl _ hb]
      exact D.more (Nat.le_succ _)
abbrev s_do_right : Stmt := top 33
abbrev N_do_right : List Str := ["work", "row", "target", "one", "at"]
theorem sc_do_right : FnScope N_do_right ["work", "row"] (defScope s_do_right) := ⟨rfl, rfl, rfl, by decide +kernel, rfl, by decide +kernel, by decide +kernel⟩
theorem ok_do_right {f : Addr} {fd : FuncData} (F : Fun K "do_right" "do_right" s_do_right f fd) (C : WkC K W) (Mn : Mt P w K mg base W 1 "next_fill" ["self", "at"] (spNext K W)) : FnOk P w K mg base CX0 2 f fd ["work", "row"] (spDo K W fun o => ∃ a b, o = .right a b) := by
  refine F.ok sc_do_right (fun vs H Q E h => ?_) (fun cdv A0 outer s0 H vs Q E hr h => ?_)
  · obtain ⟨p, q, wd, m, cnt, fl, H0, s, A, kvs, o, rfl, _⟩ := h
    rfl
  · obtain ⟨p, q, wd, m, cnt, fl, H0, s, A, kvs, o, rfl, ⟨a, b, rfl⟩, hq, ho, w1, w64, hfl, hok, D, hcnt, hbw, k⟩ := h
    have nd := sc_do_right.nd
    have hu := hu_of hr
    refine ⟨_, (pss_cons (ps_set (i := 2) nd rfl (Or.inl rfl) (pe_ix ix_list (pe_fld (pv 0) rfl) (pe_ix ix_tup (pv 1) pe_int (fun _ _ => rfl)) (fun _ _ => rfl)))
    (pss_cons (ps_set (i := 3) nd rfl (Or.inl rfl) (pe_ix ix_list (pe_fld (pv 0) rfl) (pe_ix ix_tup (pv 1) pe_int (fun _ _ => rfl)) (fun _ _ => rfl)))
    (pss_one (ps_for PassesOwn.never rfl (pi_list (pe_fld (pv 0) rfl)) (pg_name (i := 4) nd rfl (Or.inl rfl))
    (pss_one (ps_asg (pe_op op_add (pe_op op_shr (pe_ix ix_list (pv 3) (pv 4) (fun _ _ => rfl)) pe_int) (pe_op op_shl (pe_meth (pv 0) C.cl Mn.m Mn.ok (hr.mono (by decide)) Mn.b .nil pass0 (pa_cons (pv 4) pa_nil)) (pe_fld (pv 0) rfl))) (pg_sub (pv 2) (pv 4) set_list))))))), ?_⟩
    obtain ⟨ha, hb⟩ := ho
    obtain ⟨ta, hta⟩ := D.ix (a := a) ha
    obtain ⟨tb, htb⟩ := D.ix (a := b) hb
    refine ⟨_, rfl, p, W, _, _, _, rfl, D.pp, C.cl, C.registers, rfl, _, rfl, q, _, _, .int a, rfl, rfl, SqT.of (D.same _ _ hq), atI_nat (j := 1) rfl, A.rga, _, _, .ref ta, rfl, rfl, SqL.of D.rg, atI_nat (refs_at hta), ?_⟩
    refine ⟨_, rfl, p, W, _, _, _, rfl, D.pp, C.cl, C.registers, rfl, _, rfl, q, _, _, .int b, rfl, rfl, SqT.of (D.same _ _ hq), atI_nat (j := 2) rfl, A.rga, _, _, .ref tb, rfl, rfl, SqL.of D.rg, atI_nat (refs_at htb), ?_⟩
    have ex : s.bs = true → s.exec wd fl (.right a b) = ⟨Op.run wd fl s.m (.right a b), s.at_, s.bs, s.ws⟩ := fun hb => exec_yes wd fl hb rfl
    refine ⟨_, rfl, p, W, _, _, _, rfl, D.pp, C.cl, C.busy, rfl, A.bz, rfl, ⟨_, SqL.of D.bzAt⟩, ?_⟩
    refine for_bz (b := s.bs) D.bzAt (fun _ H' => s.bs = true ∧ WkD W wd m H0 H' (s.exec wd fl (.right a b)) (cnt + 1) p A kvs) (fun _ H' h => ?_) (fun hb => ?_) (fun hb σ' H' h => k H' A kvs rfl h.2) (fun hb => ?_)
    · have q := h.2.bzAt
      rw [ex h.1, h.1] at q
      exact q
    · refine ⟨_, rfl, _, rfl, tb, _, _, .int (s.m.get b), rfl, rfl, SqL.of (D.reg htb), atI_nat (j := 0) rfl, _, _, rfl, rfl, (by show (0 : Int) ≤ 1; decide), ?_⟩
      have hb64 : (fl s.m.rt).natAbs < 2 ^ 64 := by rcases hfl.bit s.m.rt with z | z <;> rw [z] <;> decide
      refine ⟨_, rfl, p, A.dx, _, rfl, D.pp, rfl, _, rfl, p, wd, m, cnt, fl, H0, s, A, kvs, rfl, D, hfl, fun H1 D1 => ?_⟩
      refine ⟨_, rfl, p, W, _, _, _, rfl, D1.pp, C.cl, C.top, rfl, _, _, rfl, rfl, ⟨by omega, by omega, hb64⟩, _, _, rfl, rfl, _, rfl, _, rfl, ta, _, _, 0, rfl, rfl, D1.reg hta, rfl, ?_⟩
      have D2 := (D1.more (Nat.le_succ cnt)).putRE (s := ⟨⟨s.m.rg, s.m.sl, s.m.rt + 1⟩, s.at_, s.bs, s.ws⟩) ⟨hok.len, hok.rg, hok.sl⟩ ha hta (show s.m.get b / 2 ^ (1 : Int).toNat + fl s.m.rt * 2 ^ ((wd : Int) - 1).toNat = s.m.get b / 2 + fl s.m.rt * 2 ^ (wd - 1) from by rw [show ((wd : Int) - 1).toNat = wd - 1 by omega]; rfl)
      rw [ex hb]
      exact ⟨hb, D2⟩
    · refine k H A kvs rfl ?_
      rw [exec_no wd fl _ hb]
      exact D.more (Nat.le_succ _)
abbrev s_do_load : Stmt := top 34
abbrev N_do_load : List Str := ["work", "row", "target", "slot", "at"]
theorem sc_do_load : FnScope N_do_load ["work", "row"] (defScope s_do_load) := ⟨rfl, rfl, rfl, by decide +kernel, rfl, by decide +kernel, by decide +kernel⟩
theorem ok_do_load {f : Addr} {fd : FuncData} (F : Fun K "do_load" "do_load" s_do_load f fd) (C : WkC K W) (Ms : Mt P w K mg base W 2 "slot" ["self", "number"] (spSlot W)) : FnOk P w K mg base CX0 3 f fd ["work", "row"] (spDo K W fun o => ∃ a n, o = .load a n) := by
  refine F.ok sc_do_load (fun vs H Q E h => ?_) (fun cdv A0 outer s0 H vs Q E hr h => ?_)
  · obtain ⟨p, q, wd, m, cnt, fl, H0, s, A, kvs, o, rfl, _⟩ := h
    rfl
  · obtain ⟨p, q, wd, m, cnt, fl, H0, s, A, kvs, o, rfl, ⟨a, n, rfl⟩, hq, ho, w1, w64, hfl, hok, D, hcnt, hbw, k⟩ := h
    have nd := sc_do_load.nd
    have hu := hu_of hr
    refine ⟨_, (pss_cons (ps_set (i := 2) nd rfl (Or.inl rfl) (pe_ix ix_list (pe_fld (pv 0) rfl) (pe_ix ix_tup (pv 1) pe_int (fun _ _ => rfl)) (fun _ _ => rfl)))
    (pss_cons (ps_set (i := 3) nd rfl (Or.inl rfl) (pe_meth (pv 0) C.cl Ms.m Ms.ok (hr.mono (by decide)) Ms.b .nil pass0 (pa_cons (pe_ix ix_tup (pv 1) pe_int (fun _ _ => rfl)) pa_nil)))
    (pss_one (ps_for PassesOwn.never rfl (pi_list (pe_fld (pv 0) rfl)) (pg_name (i := 4) nd rfl (Or.inl rfl))
    (pss_one (ps_asg (pe_ix ix_list (pv 3) (pv 4) (fun _ _ => rfl)) (pg_sub (pv 2) (pv 4) set_list))))))), ?_⟩
    obtain ⟨ha, hn0, hn9⟩ := ho
    obtain ⟨ta, hta⟩ := D.ix (a := a) ha
    refine ⟨_, rfl, p, W, _, _, _, rfl, D.pp, C.cl, C.registers, rfl, _, rfl, q, _, _, .int a, rfl, rfl, SqT.of (D.same _ _ hq), atI_nat (j := 1) rfl, A.rga, _, _, .ref ta, rfl, rfl, SqL.of D.rg, atI_nat (refs_at hta), ?_⟩
    refine ⟨_, rfl, p, A.dx, _, rfl, D.pp, rfl, _, rfl, q, _, _, .int n, rfl, rfl, SqT.of (D.same _ _ hq), atI_nat (j := 2) rfl, p, wd, m, cnt, H0, s, A, kvs, n, rfl, D, hcnt, fun H1 A1 kvs1 ts e1 e2 e3 D1 => ?_⟩
    have ex : s.bs = true → s.exec wd fl (.load a n) = ⟨Op.run wd fl s.m (.load a n), s.at_, s.bs, s.ws⟩ := fun hb => exec_yes wd fl hb rfl
    have hta1 : A1.ra[a]? = some ta := by rw [e2]; exact hta
    refine ⟨_, rfl, p, W, _, _, _, rfl, D1.pp, C.cl, C.busy, rfl, A1.bz, rfl, ⟨_, SqL.of D1.bzAt⟩, ?_⟩
    refine for_bz (b := s.bs) D1.bzAt (fun _ H' => s.bs = true ∧ WkD W wd m H0 H' (s.exec wd fl (.load a n)) (cnt + 1) p A1 kvs1) (fun _ H' h => ?_) (fun hb => ?_) (fun hb σ' H' h => k H' A1 kvs1 e1 h.2) (fun hb => ?_)
    · have q := h.2.bzAt
      rw [ex h.1, h.1] at q
      exact q
    · refine ⟨_, rfl, _, rfl, ts, _, _, .int (s.m.sl n), rfl, rfl, SqL.of (D1.cl (.sl n) ts e3).1, atI_nat (j := 0) rfl, _, rfl, _, rfl, ta, _, _, 0, rfl, rfl, D1.reg hta1, rfl, ?_⟩
      have D2 := D1.putR hok ha hta1 (s.m.sl n)
      rw [ex hb]
      exact ⟨hb, D2⟩
    · refine k H1 A1 kvs1 e1 ?_
      rw [exec_no wd fl _ hb]
      exact D1
abbrev s_do_store : Stmt := top 35
abbrev N_do_store : List Str := ["work", "row", "slot", "one", "at"]
theorem sc_do_store : FnScope N_do_store ["work", "row"] (defScope s_do_store) := ⟨rfl, rfl, rfl, by decide +kernel, rfl, by decide +kernel, by decide +kernel⟩
theorem ok_do_store {f : Addr} {fd : FuncData} (F : Fun K "do_store" "do_store" s_do_store f fd) (C : WkC K W) (Ms : Mt P w K mg base W 2 "slot" ["self", "number"] (spSlot W)) : FnOk P w K mg base CX0 3 f fd ["work", "row"] (spDo K W fun o => ∃ n a, o = .store n a) := by
  refine F.ok sc_do_store (fun vs H Q E h => ?_) (fun cdv A0 outer s0 H vs Q E hr h => ?_)
  · obtain ⟨p, q, wd, m, cnt, fl, H0, s, A, kvs, o, rfl, _⟩ := h
    rfl
  · obtain ⟨p, q, wd, m, cnt, fl, H0, s, A, kvs, o, rfl, ⟨n, a, rfl⟩, hq, ho, w1, w64, hfl, hok, D, hcnt, hbw, k⟩ := h
    have nd := sc_do_store.nd
    have hu := hu_of hr
    refine ⟨_, (pss_cons (ps_set (i := 2) nd rfl (Or.inl rfl) (pe_meth (pv 0) C.cl Ms.m Ms.ok (hr.mono (by decide)) Ms.b .nil pass0 (pa_cons (pe_ix ix_tup (pv 1) pe_int (fun _ _ => rfl)) pa_nil)))
    (pss_cons (ps_set (i := 3) nd rfl (Or.inl rfl) (pe_ix ix_list (pe_fld (pv 0) rfl) (pe_ix ix_tup (pv 1) pe_int (fun _ _ => rfl)) (fun _ _ => rfl)))
    (pss_one (ps_for PassesOwn.never rfl (pi_list (pe_fld (pv 0) rfl)) (pg_name (i := 4) nd rfl (Or.inl rfl))
    (pss_one (ps_asg (pe_ix ix_list (pv 3) (pv 4) (fun _ _ => rfl)) (pg_sub (pv 2) (pv 4) set_list))))))), ?_⟩
    obtain ⟨ha, hn0, hn9⟩ := ho
    refine ⟨_, rfl, p, A.dx, _, rfl, D.pp, rfl, _, rfl, q, _, _, .int n, rfl, rfl, SqT.of (D.same _ _ hq), atI_nat (j := 1) rfl, p, wd, m, cnt, H0, s, A, kvs, n, rfl, D, hcnt, fun H1 A1 kvs1 ts e1 e2 e3 D1 => ?_⟩
    obtain ⟨ta, hta⟩ := D1.ix (a := a) ha
    refine ⟨_, rfl, p, W, _, _, _, rfl, D1.pp, C.cl, C.registers, rfl, _, rfl, q, _, _, .int a, rfl, rfl, SqT.of (D1.same _ _ hq), atI_nat (j := 2) rfl, A1.rga, _, _, .ref ta, rfl, rfl, SqL.of D1.rg, atI_nat (refs_at hta), ?_⟩
    have ex : s.bs = true → s.exec wd fl (.store n a) = ⟨Op.run wd fl s.m (.store n a), s.at_, s.bs, s.ws⟩ := fun hb => exec_yes wd fl hb rfl
    refine ⟨_, rfl, p, W, _, _, _, rfl, D1.pp, C.cl, C.busy, rfl, A1.bz, rfl, ⟨_, SqL.of D1.bzAt⟩, ?_⟩
    refine for_bz (b := s.bs) D1.bzAt (fun _ H' => s.bs = true ∧ WkD W wd m H0 H' (s.exec wd fl (.store n a)) (cnt + 1) p A1 kvs1) (fun _ H' h => ?_) (fun hb => ?_) (fun hb σ' H' h => k H' A1 kvs1 e1 h.2) (fun hb => ?_)
    · have q := h.2.bzAt
      rw [ex h.1, h.1] at q
      exact q
    · refine ⟨_, rfl, _, rfl, ta, _, _, .int (s.m.get a), rfl, rfl, SqL.of (D1.reg hta), atI_nat (j := 0) rfl, _, rfl, _, rfl, ts, _, _, 0, rfl, rfl, (D1.cl (.sl n) ts e3).1, rfl, ?_⟩
      have D2 := D1.put (c := .sl n) (a := ts) (t := ⟨Op.run wd fl s.m (.store n a), s.at_, s.bs, s.ws⟩) e3 rfl rfl (fun c' hc => ?_) (fun j hj => ?_)
      · have e4 : (⟨Op.run wd fl s.m (.store n a), s.at_, s.bs, s.ws⟩ : Wst).con (.sl n) = [.int (s.m.get a)] := by
          show [V.int (if n = n then s.m.get a else s.m.sl n)] = _
          rw [if_pos rfl]
        rw [e4] at D2
        rw [ex hb]
        exact ⟨hb, D2⟩
      · cases c' with
        | sl j =>
          show [V.int (if j = n then s.m.get a else s.m.sl j)] = [V.int (s.m.sl j)]
          rw [if_neg (fun z => hc (by rw [z]))]
        | _ => rfl
      · show (if j = n then s.m.get a else s.m.sl j) = s.m.sl j
        refine if_neg (fun z => ?_)
        rw [z, e3] at hj
        cases hj
    · refine k H1 A1 kvs1 e1 ?_
      rw [exec_no wd fl _ hb]
      exact D1
abbrev s_do_skip : Stmt := top 36
abbrev N_do_skip : List Str := ["work", "row", "tested", "low", "gone", "at"]
theorem sc_do_skip : FnScope N_do_skip ["work", "row"] (defScope s_do_skip) := ⟨rfl, rfl, rfl, by decide +kernel, rfl, by decide +kernel, by decide +kernel⟩
theorem ok_do_skip {f : Addr} {fd : FuncData} (F : Fun K "do_skip" "do_skip" s_do_skip f fd) (C : WkC K W) (Mw : Mt P w K mg base W 1 "wait" ["self", "runs", "rows"] (spWait W)) : FnOk P w K mg base CX0 2 f fd ["work", "row"] (spDo K W fun o => ∃ a md c n, o = .skip a md c n) := by
  refine F.ok sc_do_skip (fun vs H Q E h => ?_) (fun cdv A0 outer s0 H vs Q E hr h => ?_)
  · obtain ⟨p, q, wd, m, cnt, fl, H0, s, A, kvs, o, rfl, _⟩ := h
    rfl
  · obtain ⟨p, q, wd, m, cnt, fl, H0, s, A, kvs, o, rfl, ⟨a, md, c, n, rfl⟩, hq, ho, w1, w64, hfl, hok, D, hcnt, hbw, k⟩ := h
    have nd := sc_do_skip.nd
    have hu := hu_of hr
    refine ⟨_, (pss_cons (ps_set (i := 2) nd rfl (Or.inr rfl) (pe_ix ix_list (pe_fld (pv 0) rfl) (pe_ix ix_tup (pv 1) pe_int (fun _ _ => rfl)) (fun _ _ => rfl)))
    (pss_cons (ps_set (i := 3) nd rfl (Or.inr rfl) (pe_op op_sub (pe_ix ix_tup (pv 1) pe_int (fun _ _ => rfl)) pe_int))
    (pss_cons (ps_setLc (i := 4) (own := [("at", 5)]) (g := gName 5) rfl nd rfl rfl (sw_true rfl rfl rfl (by decide +kernel)) (pi_list (pe_fld (pv 0) rfl)) (blkOk_by (N := N_do_skip) (sc := defScope s_do_skip) (by decide +kernel)) (fun _ _ _ _ _ => pg_name (i := 5) nd rfl (Or.inl rfl)) (fun _ _ _ _ _ => pts_one (pt_cmpR op_eq (pe_op op_and (pe_ix (ix_listN (K := K) rfl) (pv 2) (pv 5) (fun _ _ => rfl)) (pv 3)) (pe_ix (ix_tupN (K := K) rfl) (pv 1) pe_int (fun _ _ => rfl)) (nomark _))) (fun _ _ _ _ _ => (pv 5)))
    (pss_one (ps_if (pt_truth (pv 4) (by intro _; rfl))
    (pss_cons (ps_fld (pv 0) (pe_lc (own := [("at", 5)]) (g := gName 5) rfl nd (pi_list (pe_fld (pv 0) rfl)) (blkOk_by (N := N_do_skip) (sc := defScope s_do_skip) (by decide +kernel)) (fun _ _ _ _ _ => pg_name (i := 5) nd rfl (Or.inl rfl)) (fun _ _ _ _ _ => pts_one (pt_cmpR op_ne (pe_op op_and (pe_ix (ix_listN (K := K) rfl) (pv 2) (pv 5) (fun _ _ => rfl)) (pv 3)) (pe_ix (ix_tupN (K := K) rfl) (pv 1) pe_int (fun _ _ => rfl)) (nomark _))) (fun _ _ _ _ _ => (pv 5))) rfl)
    (pss_one (ps_expr (pe_meth (pv 0) C.cl Mw.m Mw.ok (hr.mono (by decide)) Mw.b .nil pass0 (pa_cons (pv 4) (pa_cons (pe_ix ix_tup (pv 1) pe_int (fun _ _ => rfl)) pa_nil))))))
    pss_nil))))), ?_⟩
    obtain ⟨ha, hmd, hc0, hc1, hn⟩ := ho
    obtain ⟨ta, hta⟩ := D.ix (a := a) ha
    refine ⟨_, rfl, p, W, _, _, _, rfl, D.pp, C.cl, C.registers, rfl, _, rfl, q, _, _, .int a, rfl, rfl, SqT.of (D.same _ _ hq), atI_nat (j := 1) rfl, A.rga, _, _, .ref ta, rfl, rfl, SqL.of D.rg, atI_nat (refs_at hta), ?_⟩
    refine ⟨_, rfl, q, _, _, .int md, rfl, rfl, SqT.of (D.same _ _ hq), atI_nat (j := 2) rfl, _, _, rfl, rfl, ?_⟩
    refine ⟨_, rfl, p, W, _, _, _, rfl, D.pp, C.cl, C.busy, rfl, A.bz, rfl, ⟨_, SqL.of D.bzAt⟩, fun G hG => ?_⟩
    have eh : Builtin.bitAnd (s.m.get a) (md - 1) = s.m.get a % md := mod_mask hmd _
    have nbG : A.bz ≠ G := ne_of_none D.bzAt hG
    have ntG : ta ≠ G := ne_of_none (D.reg hta) hG
    have nqG : q ≠ G := ne_of_none (D.same _ _ hq) hG
    -- one pass over the busy ones
    have DG : ∀ {xs : List V}, WkD W wd m H0 (upd H G (.lst xs)) s cnt p A kvs := D.stay (new_same hG)
    cases hb : s.bs with
    | false =>
      refine lc_list (xs := []) (fun i H2 => H2 = upd H G (.lst [])) rfl (fun i H2 _ e => by rw [e]; refine SqL.of ?_; rw [upd_ne nbG, D.bzAt, hb]; rfl) (fun i x H2 hx => by simp at hx) ?_
      rintro H2 rfl
      refine ⟨_, rfl, _, .inl ⟨[], SqL.of upd_same, rfl⟩, ?_⟩
      refine iteF ?_
      refine k _ A kvs rfl ?_
      rw [exec_no wd fl _ hb]
      exact DG.more (Nat.le_succ _)
    | true =>
      refine lc_list (xs := [.int 0]) (fun i H2 => H2 = upd H G (.lst (if i = 0 then [] else if s.m.get a % md = c then [.int 0] else []))) rfl (fun i H2 _ e => by rw [e]; refine SqL.of ?_; rw [upd_ne nbG, D.bzAt, hb]; rfl) ?_ ?_
      · rintro i x H2 hx rfl
        match i, hx with
        | i + 1, hx => simp at hx
        | 0, hx =>
          obtain rfl := Option.some.inj hx
          refine ⟨rfl, ?_⟩
          refine ⟨_, rfl, _, rfl, ta, _, _, .int (s.m.get a), rfl, rfl, SqL.of (DG.reg hta), atI_nat (j := 0) rfl, _, rfl, _, _, rfl, rfl, ?_⟩
          refine ⟨_, rfl, q, _, _, .int c, rfl, rfl, SqT.of (DG.same _ _ hq), atI_nat (j := 3) rfl, rfl, ?_⟩
          by_cases e : s.m.get a % md = c
          · rw [decide_eq_true (show V.int (Builtin.bitAnd (s.m.get a) (md - 1)) = V.int c by rw [eh, e])]
            refine ⟨_, rfl, iteT ?_⟩
            refine ⟨_, rfl, [], upd_same, by show 0 < sizeLine; decide, ?_⟩
            rw [if_neg (Nat.succ_ne_zero 0), if_pos e]
            funext b
            by_cases hbG : b = G
            · subst hbG
              rw [upd_same, upd_same]
              rfl
            · rw [upd_ne hbG, upd_ne hbG, upd_ne hbG]
          · rw [decide_eq_false (show ¬ V.int (Builtin.bitAnd (s.m.get a) (md - 1)) = V.int c from fun z => e (by rw [← eh]; exact V.int.inj z))]
            refine ⟨_, rfl, iteF ?_⟩
            rw [if_neg (Nat.succ_ne_zero 0), if_neg e]
            rfl
      · rintro H2 rfl
        rw [if_neg (show ¬ ([V.int 0] : List V).length = 0 by simp)]
        by_cases e : s.m.get a % md = c
        · rw [if_pos e]
          refine ⟨_, rfl, _, .inl ⟨[.int 0], SqL.of upd_same, rfl⟩, ?_⟩
          refine iteT ?_
          have D1 : WkD W wd m H0 (upd H G (.lst [.int 0])) s cnt p A kvs := DG
          have hG1 : (upd H G (.lst [V.int 0])) G = some (.lst [.int 0]) := upd_same
          generalize upd H G (.lst [V.int 0]) = H1 at D1 hG1
          refine ⟨_, rfl, p, W, _, _, _, rfl, D1.pp, C.cl, C.busy, rfl, A.bz, rfl, ⟨_, SqL.of D1.bzAt⟩, fun B hB => ?_⟩
          have D2 : WkD W wd m H0 (upd H1 B (.lst [])) s cnt p A kvs := D1.stay (new_same hB)
          have nGB : G ≠ B := ne_of_none hG1 hB
          have nbB : A.bz ≠ B := ne_of_none D1.bzAt hB
          refine lc_list (xs := [.int 0]) (fun i H2 => H2 = upd H1 B (.lst [])) rfl (fun i H2 _ e => by rw [e]; refine SqL.of ?_; rw [D2.bzAt, hb]; rfl) ?_ ?_
          · rintro i x H2 hx rfl
            match i, hx with
            | i + 1, hx => simp at hx
            | 0, hx =>
              obtain rfl := Option.some.inj hx
              refine ⟨rfl, ?_⟩
              refine ⟨_, rfl, _, rfl, ta, _, _, .int (s.m.get a), rfl, rfl, SqL.of (D2.reg hta), atI_nat (j := 0) rfl, _, rfl, _, _, rfl, rfl, ?_⟩
              refine ⟨_, rfl, q, _, _, .int c, rfl, rfl, SqT.of (D2.same _ _ hq), atI_nat (j := 3) rfl, rfl, ?_⟩
              rw [decide_eq_true (show V.int (Builtin.bitAnd (s.m.get a) (md - 1)) = V.int c by rw [eh, e])]
              exact ⟨_, rfl, iteF rfl⟩
          · rintro H2 rfl
            refine ⟨_, rfl, p, W, _, _, rfl, D2.pp, C.cl, C.busy, (by show 10 < 1000; decide), ?_⟩
            have D3 := D2.setBz (q := B) (b := false) upd_same (D1.old hB) (fun c' a' e' => D1.gone e' hB)
            refine ⟨_, rfl, p, A.dx, _, rfl, D3.pp, rfl, _, rfl, _, rfl, q, _, _, .int n, rfl, rfl, SqT.of (D3.same _ _ hq), atI_nat (j := 4) rfl, ?_⟩
            refine ⟨p, G, wd, m, cnt, H0, _, _, kvs, n, rfl, D3, hbw hb, ?_, fun H' A' kvs' e1 D4 => ?_⟩
            · rw [upd_ne (ne_of (show (upd H1 B (.lst [])) G = some (.lst [.int 0]) by rw [upd_ne nGB]; exact hG1) D2.pp (by intro z; cases z)), upd_ne nGB]
              exact hG1
            · refine k H' A' kvs' e1 ?_
              have ex : s.exec wd fl (.skip a md c n) = ⟨s.m, s.at_, false, some (s.at_ + 1 + (n : Int))⟩ := by
                unfold Wst.exec
                rw [hb, show Op.hit s.m (.skip a md c n) = some n from if_pos e]
                rfl
              rw [ex]
              exact D4.more (Nat.le_succ _)
        · rw [if_neg e]
          refine ⟨_, rfl, _, .inl ⟨[], SqL.of upd_same, rfl⟩, ?_⟩
          refine iteF ?_
          refine k _ A kvs rfl ?_
          have ex : s.exec wd fl (.skip a md c n) = s := by
            rw [exec_yes wd fl hb (show Op.hit s.m (.skip a md c n) = none from if_neg e)]
            rfl
          rw [ex]
          exact DG.more (Nat.le_succ _)
end
end My

set_option pp.maxSteps 400
set_option Elab.async false
set_option linter.all false
set_option maxRecDepth 100000
set_option maxHeartbeats 1000000
namespace My
open PySem L2 MyR

theorem fnok_or {P : Program} {w : World} {K : PySem.W.Frag} {mg : Str → Option Value} {base : Heap} {CX : CXT} {k : Nat} {f : Addr} {fd : FuncData} {ps : List Str} {sp sp' : Sp} (F : FnOk P w K mg base CX k f fd ps sp) (G : FnOk P w K mg base CX k f fd ps sp') : FnOk P w K mg base CX k f fd ps (fun vs H Q E => sp vs H Q E ∨ sp' vs H Q E) :=
  ⟨fun vs H Q E q => q.elim (F.len vs H Q E) (G.len vs H Q E), fun A outer s H args us vs Q E hr he hb hv hs => hs.elim (F.run A outer s H args us vs Q E hr he hb hv) (G.run A outer s H args us vs Q E hr he hb hv)⟩
/-- an object in the making -/
structure Ini (W dx p : Addr) (H0 H : Hp) (fs : List (Str × V)) : Prop where
  same : Same H0 H
  p0 : H0 p = none
  at_ : H p = some (.ins W dx fs)
theorem Ini.put {W dx p : Addr} {H0 H : Hp} {fs fs' : List (Str × V)} (h : Ini W dx p H0 H fs) : Ini W dx p H0 (upd H p (.ins W dx fs')) fs' := ⟨same_upd h.same h.p0, h.p0, upd_same⟩
theorem Ini.stay {W dx p : Addr} {H0 H H' : Hp} {fs : List (Str × V)} (h : Ini W dx p H0 H fs) (s : Same H H') : Ini W dx p H0 H' fs := ⟨h.same.trans s, h.p0, s _ _ h.at_⟩
theorem Ini.other {W dx p a : Addr} {H0 H : Hp} {o : HO} {fs : List (Str × V)} (h : Ini W dx p H0 H fs) (ne : a ≠ p) (h0 : H0 a = none) : Ini W dx p H0 (upd H a o) fs := ⟨same_upd h.same h0, h.p0, by rw [upd_ne (Ne.symm ne)]; exact h.at_⟩
/-- the registers' lists -/
structure Cs (H0 H : Hp) (ra : List Addr) (zs : List Int) : Prop where
  len : ra.length = zs.length
  at_ : ∀ (i : Nat) a, ra[i]? = some a → H a = some (.lst [.int (zs.getD i 0)]) ∧ H0 a = none
  inj : ∀ (i j : Nat) a, ra[i]? = some a → ra[j]? = some a → i = j
theorem Cs.stay {H0 H H' : Hp} {ra : List Addr} {zs : List Int} (h : Cs H0 H ra zs) (s : ∀ a x, H a = some (.lst [.int x]) → H' a = some (.lst [.int x])) : Cs H0 H' ra zs := ⟨h.len, fun i a e => ⟨s _ _ (h.at_ i a e).1, (h.at_ i a e).2⟩, h.inj⟩
theorem Cs.same {H0 H H' : Hp} {ra : List Addr} {zs : List Int} (h : Cs H0 H ra zs) (s : Same H H') : Cs H0 H' ra zs := h.stay fun a x e => s _ _ e
theorem Cs.ins {H0 H : Hp} {ra : List Addr} {zs : List Int} (h : Cs H0 H ra zs) {W dx p : Addr} {fs fs' : List (Str × V)} (hp : H p = some (.ins W dx fs)) : Cs H0 (upd H p (.ins W dx fs')) ra zs := h.stay fun a x e => by
  rw [upd_ne (ne_of e hp (by intro z; cases z))]
  exact e
/-- all but instances stay -/
def Go (H H' : Hp) : Prop := ∀ x o, H x = some o → (∀ C d f, o ≠ .ins C d f) → H' x = some o
theorem Go.of {H H' : Hp} (s : Same H H') : Go H H' := fun x o e _ => s x o e
theorem Go.new {H : Hp} {q : Addr} {o : HO} (h : H q = none) : Go H (upd H q o) := Go.of (new_same h)
theorem Go.ins {H : Hp} {W dx p : Addr} {fs fs' : List (Str × V)} (hp : H p = some (.ins W dx fs)) : Go H (upd H p (.ins W dx fs')) := fun x o e n => by
  rw [upd_ne (ne_of e hp (n _ _ _))]
  exact e
theorem Go.trans {H H1 H2 : Hp} (a : Go H H1) (b : Go H1 H2) : Go H H2 := fun x o e n => b x o (a x o e n) n
theorem Cs.go {H0 H H' : Hp} {ra : List Addr} {zs : List Int} (h : Cs H0 H ra zs) (g : Go H H') : Cs H0 H' ra zs := h.stay fun a x e => g _ _ e (by intro _ _ _ z; cases z)
def initR (wd m : Nat) (xs : List Int) (j : Nat) : List Int := (List.range m).map fun i => if i < j then xs.getD i 0 % 2 ^ wd else 0
theorem initR_at {wd m j i : Nat} {xs : List Int} : (initR wd m xs j).getD i 0 = if i < m ∧ i < j then xs.getD i 0 % 2 ^ wd else 0 := by
  unfold initR
  rw [List.getD_eq_getElem?_getD, List.getElem?_map]
  by_cases h : i < m
  · rw [List.getElem?_range h]
    by_cases h2 : i < j
    · simp [h, h2]
    · simp [h, h2]
  · rw [List.getElem?_eq_none (by rw [List.length_range]; omega)]
    simp [h]
theorem initR_len {wd m j : Nat} {xs : List Int} : (initR wd m xs j).length = m := by unfold initR; rw [List.length_map, List.length_range]
theorem initR_zero {wd m : Nat} {xs : List Int} : initR wd m xs 0 = List.replicate m 0 := by
  unfold initR
  rw [show (fun i : Nat => if i < 0 then xs.getD i 0 % 2 ^ wd else 0) = fun _ => (0 : Int) from funext fun i => if_neg (Nat.not_lt_zero i), List.map_const', List.length_range]
theorem Cs.step {H0 H : Hp} {ra : List Addr} {wd m j : Nat} {xs : List Int} {t : Addr} {v : Int} (h : Cs H0 H ra (initR wd m xs j)) (hj : j < m) (ht : ra[j]? = some t) (hv : v = xs.getD j 0 % 2 ^ wd) : Cs H0 (upd H t (.lst [.int v])) ra (initR wd m xs (j + 1)) := by
  refine ⟨by rw [h.len, initR_len, initR_len], fun i a e => ?_, h.inj⟩
  obtain ⟨h1, h2⟩ := h.at_ i a e
  refine ⟨?_, h2⟩
  rw [initR_at] at h1 ⊢
  by_cases hij : i = j
  · subst hij
    rw [ht] at e
    obtain rfl := Option.some.inj e
    rw [upd_same, if_pos ⟨hj, by omega⟩, hv]
  · have ne : a ≠ t := fun z => hij (h.inj i j a e (by rw [z]; exact ht))
    rw [upd_ne ne, h1]
    by_cases h3 : i < m ∧ i < j
    · rw [if_pos h3, if_pos ⟨h3.1, by omega⟩]
    · rw [if_neg h3, if_neg (by omega)]
def MachAt (C : Addr) (H : Hp) (a b : Int) (m : Addr) : Prop := ∃ dx, H m = some (.ins C dx [("width", .int a), ("registers", .int b)])
structure MachC (K : PySem.W.Frag) (C : Addr) : Prop where
  cl : Cls K C
  width : NoAttr K C "width"
  registers : NoAttr K C "registers"
/-- the state at the start -/
def wst0 (wd m : Nat) (xs : List Int) : Wst := ⟨⟨initR wd m xs m, fun _ => 0, 0⟩, 0, true, none⟩
def spIni (Sq : PySem.W.Frag → Hp → Addr → List V → Prop) (K : PySem.W.Frag) (W CM : Addr) : Sp := fun vs H Q _ => ∃ (p dx ma st tp ia fa : Addr) (wd m : Nat) (xs : List Int) (H0 : Hp), vs = [.ref p, .ref ma, .ref st] ∧ Ini W dx p H0 H [] ∧ MachAt CM H0 (wd : Int) (m : Int) ma ∧
  H0 st = some (.lst [.ref tp]) ∧ H0 tp = some (.tup [.ref ia, .ref fa]) ∧ Sq K H0 ia (xs.map V.int) ∧ xs.length ≤ m ∧ 3 ≤ m ∧ m ≤ 8 ∧ 1 ≤ wd ∧ wd ≤ 64 ∧
  ∀ H' A, A.fa = fa → WkD W wd m H0 H' (wst0 wd m xs) 0 p A [] → Q .non H'
theorem initR_all {wd m : Nat} {xs : List Int} (h : xs.length ≤ m) : initR wd m xs xs.length = initR wd m xs m := by
  unfold initR
  refine List.map_congr_left fun i hi => ?_
  have hi := List.mem_range.mp hi
  rw [if_pos hi]
  by_cases h2 : i < xs.length
  · rw [if_pos h2]
  · rw [if_neg h2, List.getD_eq_getElem?_getD, List.getElem?_eq_none (by omega)]
    rfl
/-- all parts together -/
theorem WkD.of {M : Int} {W dx p R sd fs rt bz wt fa : Addr} {ra : List Addr} {wd m : Nat} {xs : List Int} {H0 H : Hp} (I : Ini W dx p H0 H [("mask", .int M), ("top", .int ((wd : Int) - 1)), ("many", .int 1), ("registers", .ref R), ("slots", .ref sd), ("fills", .ref fs), ("rights", .ref rt), ("at", .int 0), ("busy", .ref bz), ("waiting", .ref wt)]) (c : Cs H0 H ra (initR wd m xs m)) (hR : H R = some (.lst (refs ra))) (R0 : H0 R = none) (m3 : 3 ≤ m)
    (h1 : H sd = some (.dK [])) (g1 : H0 sd = none) (h2 : H fs = some (.lst [.ref fa])) (g2 : H0 fs = none) (h3 : H rt = some (.lst [.int 0])) (g3 : H0 rt = none) (n3 : ∀ (i : Nat) a, ra[i]? = some a → a ≠ rt) (h4 : H bz = some (.lst [.int 0])) (g4 : H0 bz = none) (n4 : ∀ (i : Nat) a, ra[i]? = some a → a ≠ bz) (n5 : rt ≠ bz)
    (h5 : H wt = some (.dK [])) (g5 : H0 wt = none) (n6 : sd ≠ wt) (eM : M = 2 ^ wd - 1) :
    WkD W wd m H0 H (wst0 wd m xs) 0 p ⟨dx, R, sd, fs, fa, wt, rt, bz, ra, fun | .rg i => ra[i]? | .rt => some rt | .bz => some bz | _ => none⟩ [] where
  same := I.same
  p0 := I.p0
  pp := by subst eM; exact I.at_
  rg := hR
  rl := by rw [c.len, initR_len]
  rc := fun i => rfl
  sd := h1
  sk := Nat.zero_le _
  sv := fun n => rfl
  sz := fun n _ => rfl
  fs := h2
  rt := rfl
  bz := rfl
  wt := ⟨rt, h5, fun z => absurd rfl z⟩
  ne := n6
  inj := fun x y a e e' => by
    cases x <;> cases y <;> first | rfl | (cases e; done) | (cases e'; done) | skip
    · rename_i i j
      rw [c.inj i j a e e']
    · obtain rfl := Option.some.inj e'
      exact absurd rfl (n3 _ _ e)
    · obtain rfl := Option.some.inj e'
      exact absurd rfl (n4 _ _ e)
    · obtain rfl := Option.some.inj e
      exact absurd rfl (n3 _ _ e')
    · obtain rfl := Option.some.inj e
      exact absurd (Option.some.inj e').symm n5
    · obtain rfl := Option.some.inj e
      exact absurd rfl (n4 _ _ e')
    · obtain rfl := Option.some.inj e
      exact absurd (Option.some.inj e') n5
  cl := fun x a e => by
    cases x with
    | rg i => exact c.at_ i a e
    | sl n => cases e
    | wa => cases e
    | rt =>
      obtain rfl := Option.some.inj e
      exact ⟨h3, g3⟩
    | bz =>
      obtain rfl := Option.some.inj e
      exact ⟨h4, g4⟩
  n0 := ⟨R0, g1, g2, g5⟩
  m3 := m3
section
variable {P : Program} {w : World} {K : PySem.W.Frag} {mg : Str → Option Value} {base : Heap} {W CM : Addr}
abbrev s_Work_init : Stmt := inClass (top 38) 0
abbrev N_Work_init : List Str := ["self", "machine", "starts", "_", "at", "start", "index", "number"]
theorem sc_Work_init : FnScope N_Work_init ["self", "machine", "starts"] (defScope s_Work_init) := ⟨rfl, rfl, rfl, by decide +kernel, rfl, by decide +kernel, by decide +kernel⟩
theorem ok_Work_initL {f : Addr} {fd : FuncData} (F : Fun K "__init__" "Work.__init__" s_Work_init f fd) (T : Glob mg) (C : WkC K W) (CC : MachC K CM) (Mz : Mt P w K mg base W 1 "zeros" ["self"] (spZeros W)) : FnOk P w K mg base CX0 2 f fd ["self", "machine", "starts"] (spIni SqL K W CM) := by
  refine F.ok sc_Work_init (fun vs H Q E h => ?_) (fun cdv A outer s H vs Q E hr h => ?_)
  · obtain ⟨p, dx, ma, st, tp, ia, fa, wd, m, xs, H0, rfl, _⟩ := h
    rfl
  · obtain ⟨p, dx, ma, st, tp, ia, fa, wd, m, xs, H0, rfl, I0, ⟨dm, hma⟩, hst, htp, hia, hxm, m3, m8, w1, w64, k⟩ := h
    have nd := sc_Work_init.nd
    have hu := hu_of hr
    refine ⟨_, (pss_cons (ps_fld (pv 0) (pe_op op_sub (pe_op op_shl pe_int (pe_fld (pv 1) rfl)) pe_int) rfl)
    (pss_cons (ps_fld (pv 0) (pe_op op_sub (pe_fld (pv 1) rfl) pe_int) rfl)
    (pss_cons (ps_fld (pv 0) (pe_callB call_len_seq (by rfl) T.g_len PySem.boot_len (pa_cons (pv 2) pa_nil)) rfl)
    (pss_cons (ps_fld (pv 0) (pe_lc (own := [("_", 3)]) (g := gName 3) (tt := tYes) rfl nd (pi_range1 (by rfl) T.g_range (pa_cons (pe_fld (pv 1) rfl) pa_nil)) (blkOk_by (N := N_Work_init) (sc := defScope s_Work_init) (by decide +kernel)) (fun _ _ _ _ _ => pg_name (i := 3) nd rfl (Or.inl rfl)) (fun _ _ _ _ _ => pts_nil) (fun _ _ _ _ _ => (pe_meth0 (pv 0) C.cl Mz.m Mz.ok (hr.mono (by decide)) Mz.b .nil pass0))) rfl)
    (pss_cons (ps_for PassesOwn.never rfl (pi_enum (by rfl) T.g_enumerate (pa_cons (pv 2) pa_nil)) (pg_tup (by rfl) (pgs_cons (pg_name (i := 4) nd rfl (Or.inl rfl)) (pgs_cons (pg_name (i := 5) nd rfl (Or.inl rfl)) pgs_nil)))
    (pss_one (ps_for PassesOwn.never rfl (pi_enum (by rfl) T.g_enumerate (pa_cons (pe_ix ix_tup (pv 5) pe_int (fun _ _ => rfl)) pa_nil)) (pg_tup (by rfl) (pgs_cons (pg_name (i := 6) nd rfl (Or.inl rfl)) (pgs_cons (pg_name (i := 7) nd rfl (Or.inl rfl)) pgs_nil)))
    (pss_one (ps_asg (pe_op op_and (pv 7) (pe_fld (pv 0) rfl)) (pg_sub (pe_ix ix_list (pe_fld (pv 0) rfl) (pv 6) (fun _ _ => rfl)) (pv 4) set_list))))))
    (pss_cons (ps_fld (pv 0) pe_dnewK rfl)
    (pss_cons (ps_fld (pv 0) (pe_lc (own := [("start", 5)]) (g := gName 5) (tt := tYes) rfl nd (pi_list (pv 2)) (blkOk_by (N := N_Work_init) (sc := defScope s_Work_init) (by decide +kernel)) (fun _ _ _ _ _ => pg_name (i := 5) nd rfl (Or.inl rfl)) (fun _ _ _ _ _ => pts_nil) (fun _ _ _ _ _ => (pe_ix (ix_tupN (K := K) rfl) (pv 5) pe_int (fun _ _ => rfl)))) rfl)
    (pss_cons (ps_fld (pv 0) (pe_meth0 (pv 0) C.cl Mz.m Mz.ok (hr.mono (by decide)) Mz.b .nil pass0) rfl)
    (pss_cons (ps_fld (pv 0) pe_int rfl)
    (pss_cons (ps_fld (pv 0) (pe_listRg rfl (by rfl) T.g_list (prg_1 (by rfl) T.g_range (pe_fld (pv 0) rfl))) rfl)
    (pss_one (ps_fld (pv 0) pe_dnewK rfl)))))))))))), ?_⟩
    have em : (1 : Int) * 2 ^ ((wd : Int)).toNat - 1 = 2 ^ wd - 1 := by rw [Int.one_mul, Int.toNat_natCast]
    have mac : ∀ {Hx : Hp}, Same H0 Hx → Hx ma = some (.ins CM dm [("width", .int (wd : Int)), ("registers", .int (m : Int))]) := fun s => s _ _ hma
    -- mask, top, many
    refine ⟨_, rfl, ma, CM, dm, _, _, rfl, mac I0.same, CC.cl, CC.width, rfl, _, _, rfl, rfl, ⟨by omega, by omega, by decide⟩, _, _, rfl, rfl, ?_⟩
    refine ⟨_, rfl, p, W, dx, _, rfl, I0.at_, C.cl, C.mask, (by show 0 < 1000; decide), ?_⟩
    have I1 : Ini W dx p H0 (upd H p (.ins W dx [("mask", .int (1 * 2 ^ ((wd : Int)).toNat - 1))])) [("mask", .int (1 * 2 ^ ((wd : Int)).toNat - 1))] := I0.put
    refine ⟨_, rfl, ma, CM, dm, _, _, rfl, mac I1.same, CC.cl, CC.width, rfl, _, _, rfl, rfl, ?_⟩
    refine ⟨_, rfl, p, W, dx, _, rfl, I1.at_, C.cl, C.top, (by show 1 < 1000; decide), ?_⟩
    have I2 : Ini W dx p H0 (upd (upd H p (.ins W dx [("mask", .int (1 * 2 ^ ((wd : Int)).toNat - 1))])) p (.ins W dx [("mask", .int (1 * 2 ^ ((wd : Int)).toNat - 1)), ("top", .int ((wd : Int) - 1))])) [("mask", .int (1 * 2 ^ ((wd : Int)).toNat - 1)), ("top", .int ((wd : Int) - 1))] := I1.put
    refine ⟨_, rfl, st, _, rfl, .inl (SqL.of (I2.same _ _ hst)), ?_⟩
    refine ⟨_, rfl, p, W, dx, _, rfl, I2.at_, C.cl, C.many, (by show 2 < 1000; decide), ?_⟩
    have I3 : Ini W dx p H0 (upd (upd (upd H p (.ins W dx [("mask", .int (1 * 2 ^ ((wd : Int)).toNat - 1))])) p (.ins W dx [("mask", .int (1 * 2 ^ ((wd : Int)).toNat - 1)), ("top", .int ((wd : Int) - 1))])) p (.ins W dx [("mask", .int (1 * 2 ^ ((wd : Int)).toNat - 1)), ("top", .int ((wd : Int) - 1)), ("many", .int 1)])) [("mask", .int (1 * 2 ^ ((wd : Int)).toNat - 1)), ("top", .int ((wd : Int) - 1)), ("many", .int 1)] := I2.put
    -- the registers
    refine ⟨_, rfl, ma, CM, dm, _, _, rfl, mac I3.same, CC.cl, CC.registers, rfl, (m : Int), rfl, by omega, by omega, fun R hR => ?_⟩
    have R0 : H0 R = none := same_free I3.same hR
    have npR : p ≠ R := ne_of_none I3.at_ hR
    refine lc_range (lo := 0) (n := m) (fun i Hx => ∃ ra : List Addr, Ini W dx p H0 Hx [("mask", .int (1 * 2 ^ ((wd : Int)).toNat - 1)), ("top", .int ((wd : Int) - 1)), ("many", .int 1)] ∧ Hx R = some (.lst (refs ra)) ∧ Cs H0 Hx ra (List.replicate i 0) ∧ ∀ (i : Nat) a, ra[i]? = some a → a ≠ R) ⟨[], I3.stay (new_same hR), upd_same, ⟨rfl, fun i a e => by simp at e, fun i j a e => by simp at e⟩, fun i a e => by simp at e⟩ ?_ ?_
    · rintro i Hx hi ⟨ra, J, hRx, cs, nR⟩
      refine ⟨rfl, ?_⟩
      refine ⟨_, rfl, p, dx, _, rfl, J.at_, rfl, p, dx, _, rfl, J.at_, rfl, fun q Hy hq sm hy => ?_⟩
      have q0 : H0 q = none := same_free J.same hq
      have nqR : q ≠ R := Ne.symm (ne_of_none hRx hq)
      refine ⟨refs ra, sm _ _ hRx, ?_, ra ++ [q], (J.stay sm).other (Ne.symm npR) R0, ?_, ?_, ?_⟩
      · rw [refs_len, cs.len, List.length_replicate]
        exact small1000 (by omega)
      · rw [upd_same]
        unfold refs
        rw [List.map_append]
        rfl
      · refine ⟨by rw [List.length_append, cs.len, List.length_replicate, List.length_replicate]; rfl, fun j a e => ?_, fun j l a e e' => ?_⟩
        · rw [List.getD_eq_getElem?_getD, List.getElem?_replicate]
          have hz : (if j < i + 1 then some (0 : Int) else none).getD 0 = 0 := by split <;> rfl
          rw [hz]
          by_cases hj : j < ra.length
          · rw [List.getElem?_append_left hj] at e
            obtain ⟨c1, c2⟩ := cs.at_ j a e
            have hz2 : (List.replicate i (0 : Int)).getD j 0 = 0 := by
              rw [List.getD_eq_getElem?_getD, List.getElem?_replicate]
              split <;> rfl
            rw [hz2] at c1
            exact ⟨by rw [upd_ne (nR j a e)]; exact sm _ _ c1, c2⟩
          · rw [List.getElem?_append_right (by omega)] at e
            have : a = q := by
              cases h : j - ra.length with
              | zero => rw [h] at e; exact (Option.some.inj e).symm
              | succ n => rw [h] at e; simp at e
            subst this
            exact ⟨by rw [upd_ne nqR]; exact hy, q0⟩
        · have one : ∀ (l : Nat) (a : Addr), (ra ++ [q])[l]? = some a → (l < ra.length ∧ ra[l]? = some a) ∨ (l = ra.length ∧ a = q) := by
            intro l a e
            by_cases hl : l < ra.length
            · rw [List.getElem?_append_left hl] at e
              exact .inl ⟨hl, e⟩
            · rw [List.getElem?_append_right (by omega)] at e
              cases h : l - ra.length with
              | zero => rw [h] at e; exact .inr ⟨by omega, (Option.some.inj e).symm⟩
              | succ n => rw [h] at e; simp at e
          have nq : ∀ (l : Nat), ra[l]? ≠ some q := fun l e => ne_of_none (cs.at_ l q e).1 hq rfl
          rcases one j a e with ⟨j1, j2⟩ | ⟨j1, j2⟩ <;> rcases one l a e' with ⟨l1, l2⟩ | ⟨l1, l2⟩
          · exact cs.inj j l a j2 l2
          · subst l2; exact absurd j2 (nq j)
          · subst j2; exact absurd l2 (nq l)
          · omega
      · intro j a e
        by_cases hj : j < ra.length
        · rw [List.getElem?_append_left hj] at e
          exact nR j a e
        · rw [List.getElem?_append_right (by omega)] at e
          cases h : j - ra.length with
          | zero => rw [h] at e; obtain rfl := Option.some.inj e; exact nqR
          | succ n => rw [h] at e; simp at e
    rintro H4 ⟨ra, J4, hR4, cs4, nR⟩
    rw [← initR_zero (wd := wd) (xs := xs)] at cs4
    refine ⟨_, rfl, p, W, dx, _, rfl, J4.at_, C.cl, C.registers, (by show 3 < 1000; decide), ?_⟩
    have hR5 : (upd H4 p (.ins W dx [("mask", .int (1 * 2 ^ ((wd : Int)).toNat - 1)), ("top", .int ((wd : Int) - 1)), ("many", .int 1), ("registers", .ref R)])) R = some (.lst (refs ra)) := by rw [upd_ne (Ne.symm npR)]; exact hR4
    have I5 : Ini W dx p H0 (upd H4 p (.ins W dx [("mask", .int (1 * 2 ^ ((wd : Int)).toNat - 1)), ("top", .int ((wd : Int) - 1)), ("many", .int 1), ("registers", .ref R)])) [("mask", .int (1 * 2 ^ ((wd : Int)).toNat - 1)), ("top", .int ((wd : Int) - 1)), ("many", .int 1), ("registers", .ref R)] := J4.put
    have cs5 := cs4.ins (fs' := [("mask", .int (1 * 2 ^ ((wd : Int)).toNat - 1)), ("top", .int ((wd : Int) - 1)), ("many", .int 1), ("registers", .ref R)]) J4.at_
    dsimp only [List.set_cons_succ, List.set_cons_zero]
    -- the inputs
    have rl : ra.length = m := by rw [cs5.len, initR_len]
    refine ⟨_, rfl, st, _, rfl, SqL.of (I5.same _ _ hst), ?_⟩
    refine for_it walk_enum (fun i σ Hx => ∃ a b c d : Option V, σ = [some (.ref p), some (.ref ma), some (.ref st), none, a, b, c, d] ∧ Ini W dx p H0 Hx [("mask", .int (1 * 2 ^ ((wd : Int)).toNat - 1)), ("top", .int ((wd : Int) - 1)), ("many", .int 1), ("registers", .ref R)] ∧ Hx R = some (.lst (refs ra)) ∧ Cs H0 Hx ra (initR wd m xs (if i = 0 then 0 else xs.length))) ⟨none, none, none, none, rfl, I5, hR5, cs5⟩ (fun i σ Hx _ ⟨_, _, _, _, _, J, _⟩ => SqL.of (J.same _ _ hst)) ?_ ?_
    · rintro i x σ Hx Hy hi ⟨a, b, c, d, rfl, J, hRx, csx⟩ ⟨Tt, y, z, rfl, hT, rfl, hy, hz⟩
      obtain rfl : i = 0 := by simpa using hi
      obtain rfl := Option.some.inj hy
      obtain rfl := Option.some.inj hz
      have J1 := J.stay (new_same (o := .tup [.int ((0 : Nat) : Int), .ref tp]) hT)
      have hR1 := new_same (o := .tup [.int ((0 : Nat) : Int), .ref tp]) hT _ _ hRx
      have cs1 := csx.same (new_same (o := .tup [.int ((0 : Nat) : Int), .ref tp]) hT)
      have csx := cs1
      rw [if_pos rfl] at cs1
      refine ⟨Tt, _, rfl, SqT.of upd_same, rfl, _, _, rfl, _, _, rfl, rfl, ?_⟩
      dsimp only [List.set_cons_succ, List.set_cons_zero]
      refine ⟨_, rfl, tp, _, _, .ref ia, rfl, rfl, SqT.of (J1.same _ _ htp), atI_nat (j := 0) rfl, ia, _, rfl, hia.ext J1.same, ?_⟩
      refine for_it walk_enum (fun j σ Hx => ∃ c d : Option V, σ = [some (.ref p), some (.ref ma), some (.ref st), none, some (.int ((0 : Nat) : Int)), some (.ref tp), c, d] ∧ Ini W dx p H0 Hx [("mask", .int (1 * 2 ^ ((wd : Int)).toNat - 1)), ("top", .int ((wd : Int) - 1)), ("many", .int 1), ("registers", .ref R)] ∧ Hx R = some (.lst (refs ra)) ∧ Cs H0 Hx ra (initR wd m xs j)) ⟨c, d, rfl, J1, hR1, cs1⟩ (fun i σ Hx _ ⟨_, _, _, J, _⟩ => hia.ext J.same) ?_ ?_
      · rintro j x σ Hx Hy hj ⟨c, d, rfl, J, hRx, csx⟩ ⟨Tt, y, z, rfl, hT, rfl, hy, hz⟩
        rw [List.length_map] at hj
        obtain rfl := Option.some.inj hy
        have hz : (xs.map V.int)[j]? = some z := hz
        rw [List.getElem?_map, List.getElem?_eq_getElem hj] at hz
        obtain rfl : V.int xs[j] = z := Option.some.inj hz
        have hj : j < xs.length := hj
        have J1 := J.stay (new_same (o := .tup [.int (j : Nat), .int xs[j]]) hT)
        have hR1 := new_same (o := .tup [.int (j : Nat), .int xs[j]]) hT _ _ hRx
        have cs1 := csx.same (new_same (o := .tup [.int (j : Nat), .int xs[j]]) hT)
        obtain ⟨t, ht⟩ : ∃ t, ra[j]? = some t := ⟨ra[j]'(by omega), List.getElem?_eq_getElem _⟩
        refine ⟨Tt, _, rfl, SqT.of upd_same, rfl, _, _, rfl, _, _, rfl, rfl, ?_⟩
        dsimp only [List.set_cons_succ, List.set_cons_zero]
        obtain ⟨c1, c2⟩ := cs1.at_ j t ht
        refine ⟨_, rfl, _, rfl, p, W, dx, _, _, rfl, J1.at_, C.cl, C.mask, rfl, _, _, rfl, rfl, ?_⟩
        refine ⟨_, rfl, p, W, dx, _, _, rfl, J1.at_, C.cl, C.registers, rfl, _, rfl, R, _, _, .ref t, rfl, rfl, SqL.of hR1, atI_nat (refs_at ht), _, rfl, t, _, _, 0, rfl, rfl, c1, rfl, ?_⟩
        have nt : t ≠ p := ne_of c1 J1.at_ (by intro z; cases z)
        have ntR : t ≠ R := nR j t ht
        refine ⟨_, _, rfl, J1.other nt c2, by rw [upd_ne (Ne.symm ntR)]; exact hR1, cs1.step (by omega) ht ?_⟩
        rw [em, mask_at, List.getD_eq_getElem?_getD, List.getElem?_eq_getElem hj]
        rfl
      · rintro σ Hx ⟨c, d, rfl, J, hRx, csx⟩
        rw [List.length_map] at csx
        exact ⟨_, _, _, _, rfl, J, hRx, csx⟩
    rintro σ H6 ⟨a, b, c, d, rfl, I6, hR6, cs6⟩
    rw [show ([V.ref tp] : List V).length = 1 from rfl, if_neg (by decide), initR_all hxm] at cs6
    -- slots
    refine fun sd hsd => ?_
    have I7 := I6.stay (new_same (o := .dK []) hsd)
    have g7 := Go.new (o := .dK []) hsd
    refine ⟨_, rfl, p, W, dx, _, rfl, I7.at_, C.cl, C.slots, (by show 4 < 1000; decide), ?_⟩
    have I8 : Ini W dx p H0 (upd (upd H6 sd (.dK [])) p (.ins W dx [("mask", .int (1 * 2 ^ ((wd : Int)).toNat - 1)), ("top", .int ((wd : Int) - 1)), ("many", .int 1), ("registers", .ref R), ("slots", .ref sd)])) [("mask", .int (1 * 2 ^ ((wd : Int)).toNat - 1)), ("top", .int ((wd : Int) - 1)), ("many", .int 1), ("registers", .ref R), ("slots", .ref sd)] := I7.put
    have g8 := g7.trans (Go.ins (fs' := [("mask", .int (1 * 2 ^ ((wd : Int)).toNat - 1)), ("top", .int ((wd : Int) - 1)), ("many", .int 1), ("registers", .ref R), ("slots", .ref sd)]) I7.at_)
    have hsd8 := Go.ins (fs' := [("mask", .int (1 * 2 ^ ((wd : Int)).toNat - 1)), ("top", .int ((wd : Int) - 1)), ("many", .int 1), ("registers", .ref R), ("slots", .ref sd)]) I7.at_ sd _ upd_same (by intro _ _ _ z; cases z)
    -- fills
    refine ⟨_, rfl, st, rfl, ⟨_, SqL.of (I8.same _ _ hst)⟩, fun fs hfs => ?_⟩
    refine lc_list (xs := [.ref tp]) (fun i Hx => Same (upd (upd H6 sd (.dK [])) p (.ins W dx [("mask", .int (1 * 2 ^ ((wd : Int)).toNat - 1)), ("top", .int ((wd : Int) - 1)), ("many", .int 1), ("registers", .ref R), ("slots", .ref sd)])) Hx ∧ Hx fs = some (.lst (if i = 0 then [] else [.ref fa]))) ⟨new_same hfs, upd_same⟩ (fun i Hx _ h => SqL.of ((I8.stay h.1).same _ _ hst)) ?_ ?_
    · rintro i x Hx hx ⟨sm, h1⟩
      match i, hx with
      | i + 1, hx => simp at hx
      | 0, hx =>
        obtain rfl := Option.some.inj hx
        refine ⟨rfl, ?_⟩
        refine ⟨_, rfl, tp, _, _, .ref fa, rfl, rfl, SqT.of ((I8.stay sm).same _ _ htp), atI_nat (j := 1) rfl, ?_⟩
        refine ⟨[], h1, (by show 0 < sizeLine; decide), fun b o e => ?_, upd_same⟩
        rw [upd_ne (ne_of_none e hfs)]
        exact sm b o e
    rintro H9 ⟨sm9, hfs9⟩
    rw [show ([V.ref tp] : List V).length = 1 from rfl, if_neg (by decide)] at hfs9
    have I9 := I8.stay sm9
    refine ⟨_, rfl, p, W, dx, _, rfl, I9.at_, C.cl, C.fills, (by show 5 < 1000; decide), ?_⟩
    have I10 : Ini W dx p H0 (upd H9 p (.ins W dx [("mask", .int (1 * 2 ^ ((wd : Int)).toNat - 1)), ("top", .int ((wd : Int) - 1)), ("many", .int 1), ("registers", .ref R), ("slots", .ref sd), ("fills", .ref fs)])) [("mask", .int (1 * 2 ^ ((wd : Int)).toNat - 1)), ("top", .int ((wd : Int) - 1)), ("many", .int 1), ("registers", .ref R), ("slots", .ref sd), ("fills", .ref fs)] := I9.put
    have g10 := (g8.trans (Go.of sm9)).trans (Go.ins (fs' := [("mask", .int (1 * 2 ^ ((wd : Int)).toNat - 1)), ("top", .int ((wd : Int) - 1)), ("many", .int 1), ("registers", .ref R), ("slots", .ref sd), ("fills", .ref fs)]) I9.at_)
    have hsd10 := ((Go.of sm9).trans (Go.ins (fs' := [("mask", .int (1 * 2 ^ ((wd : Int)).toNat - 1)), ("top", .int ((wd : Int) - 1)), ("many", .int 1), ("registers", .ref R), ("slots", .ref sd), ("fills", .ref fs)]) I9.at_)) sd _ hsd8 (by intro _ _ _ z; cases z)
    have hfs10 := Go.ins (fs' := [("mask", .int (1 * 2 ^ ((wd : Int)).toNat - 1)), ("top", .int ((wd : Int) - 1)), ("many", .int 1), ("registers", .ref R), ("slots", .ref sd), ("fills", .ref fs)]) I9.at_ fs _ hfs9 (by intro _ _ _ z; cases z)
    have cs10 := cs6.go g10
    -- rights
    refine ⟨_, rfl, p, dx, _, rfl, I10.at_, rfl, p, dx, _, rfl, I10.at_, rfl, fun rt H11 hrt sm11 hrt11 => ?_⟩
    have I11 := I10.stay sm11
    refine ⟨_, rfl, p, W, dx, _, rfl, I11.at_, C.cl, C.rights, (by show 6 < 1000; decide), ?_⟩
    have I12 : Ini W dx p H0 (upd H11 p (.ins W dx [("mask", .int (1 * 2 ^ ((wd : Int)).toNat - 1)), ("top", .int ((wd : Int) - 1)), ("many", .int 1), ("registers", .ref R), ("slots", .ref sd), ("fills", .ref fs), ("rights", .ref rt)])) [("mask", .int (1 * 2 ^ ((wd : Int)).toNat - 1)), ("top", .int ((wd : Int) - 1)), ("many", .int 1), ("registers", .ref R), ("slots", .ref sd), ("fills", .ref fs), ("rights", .ref rt)] := I11.put
    refine ⟨_, rfl, p, W, dx, _, rfl, I12.at_, C.cl, C.at_, (by show 7 < 1000; decide), ?_⟩
    have I13 : Ini W dx p H0 (upd (upd H11 p (.ins W dx [("mask", .int (1 * 2 ^ ((wd : Int)).toNat - 1)), ("top", .int ((wd : Int) - 1)), ("many", .int 1), ("registers", .ref R), ("slots", .ref sd), ("fills", .ref fs), ("rights", .ref rt)])) p (.ins W dx [("mask", .int (1 * 2 ^ ((wd : Int)).toNat - 1)), ("top", .int ((wd : Int) - 1)), ("many", .int 1), ("registers", .ref R), ("slots", .ref sd), ("fills", .ref fs), ("rights", .ref rt), ("at", .int 0)])) [("mask", .int (1 * 2 ^ ((wd : Int)).toNat - 1)), ("top", .int ((wd : Int) - 1)), ("many", .int 1), ("registers", .ref R), ("slots", .ref sd), ("fills", .ref fs), ("rights", .ref rt), ("at", .int 0)] := I12.put
    have g13 := ((Go.of sm11).trans (Go.ins (fs' := [("mask", .int (1 * 2 ^ ((wd : Int)).toNat - 1)), ("top", .int ((wd : Int) - 1)), ("many", .int 1), ("registers", .ref R), ("slots", .ref sd), ("fills", .ref fs), ("rights", .ref rt)]) I11.at_)).trans (Go.ins (fs' := [("mask", .int (1 * 2 ^ ((wd : Int)).toNat - 1)), ("top", .int ((wd : Int) - 1)), ("many", .int 1), ("registers", .ref R), ("slots", .ref sd), ("fills", .ref fs), ("rights", .ref rt), ("at", .int 0)]) I12.at_)
    have hrt13 := ((Go.ins (fs' := [("mask", .int (1 * 2 ^ ((wd : Int)).toNat - 1)), ("top", .int ((wd : Int) - 1)), ("many", .int 1), ("registers", .ref R), ("slots", .ref sd), ("fills", .ref fs), ("rights", .ref rt)]) I11.at_).trans (Go.ins (fs' := [("mask", .int (1 * 2 ^ ((wd : Int)).toNat - 1)), ("top", .int ((wd : Int) - 1)), ("many", .int 1), ("registers", .ref R), ("slots", .ref sd), ("fills", .ref fs), ("rights", .ref rt), ("at", .int 0)]) I12.at_)) rt _ hrt11 (by intro _ _ _ z; cases z)
    have cs13 := cs10.go g13
    have hsd13 := g13 sd _ hsd10 (by intro _ _ _ z; cases z)
    have hfs13 := g13 fs _ hfs10 (by intro _ _ _ z; cases z)
    -- busy
    refine ⟨_, rfl, p, W, dx, _, _, rfl, I13.at_, C.cl, C.many, rfl, 1, rfl, RgOk.of_le (by decide) (by decide) (by decide) (by decide), fun bz hbz => ?_⟩
    have I14 := I13.stay (new_same (o := .lst (rgV 0 1)) hbz)
    refine ⟨_, rfl, p, W, dx, _, rfl, I14.at_, C.cl, C.busy, (by show 8 < 1000; decide), ?_⟩
    have I15 : Ini W dx p H0 (upd (upd (upd (upd H11 p (.ins W dx [("mask", .int (1 * 2 ^ ((wd : Int)).toNat - 1)), ("top", .int ((wd : Int) - 1)), ("many", .int 1), ("registers", .ref R), ("slots", .ref sd), ("fills", .ref fs), ("rights", .ref rt)])) p (.ins W dx [("mask", .int (1 * 2 ^ ((wd : Int)).toNat - 1)), ("top", .int ((wd : Int) - 1)), ("many", .int 1), ("registers", .ref R), ("slots", .ref sd), ("fills", .ref fs), ("rights", .ref rt), ("at", .int 0)])) bz (.lst (rgV 0 1))) p (.ins W dx [("mask", .int (1 * 2 ^ ((wd : Int)).toNat - 1)), ("top", .int ((wd : Int) - 1)), ("many", .int 1), ("registers", .ref R), ("slots", .ref sd), ("fills", .ref fs), ("rights", .ref rt), ("at", .int 0), ("busy", .ref bz)])) [("mask", .int (1 * 2 ^ ((wd : Int)).toNat - 1)), ("top", .int ((wd : Int) - 1)), ("many", .int 1), ("registers", .ref R), ("slots", .ref sd), ("fills", .ref fs), ("rights", .ref rt), ("at", .int 0), ("busy", .ref bz)] := I14.put
    have g15 := (Go.new (o := .lst (rgV 0 1)) hbz).trans (Go.ins (fs' := [("mask", .int (1 * 2 ^ ((wd : Int)).toNat - 1)), ("top", .int ((wd : Int) - 1)), ("many", .int 1), ("registers", .ref R), ("slots", .ref sd), ("fills", .ref fs), ("rights", .ref rt), ("at", .int 0), ("busy", .ref bz)]) I14.at_)
    have hbz15 := Go.ins (fs' := [("mask", .int (1 * 2 ^ ((wd : Int)).toNat - 1)), ("top", .int ((wd : Int) - 1)), ("many", .int 1), ("registers", .ref R), ("slots", .ref sd), ("fills", .ref fs), ("rights", .ref rt), ("at", .int 0), ("busy", .ref bz)]) I14.at_ bz (.lst (rgV 0 1)) upd_same (by intro _ _ _ z; cases z)
    have hsd15 := g15 sd _ hsd13 (by intro _ _ _ z; cases z)
    -- waiting
    refine fun wt hwt => ?_
    have I16 := I15.stay (new_same (o := .dK []) hwt)
    refine ⟨_, rfl, p, W, dx, _, rfl, I16.at_, C.cl, C.waiting, (by show 9 < 1000; decide), ?_⟩
    have g17 := (Go.new (o := .dK []) hwt).trans (Go.ins (fs' := [("mask", .int (1 * 2 ^ ((wd : Int)).toNat - 1)), ("top", .int ((wd : Int) - 1)), ("many", .int 1), ("registers", .ref R), ("slots", .ref sd), ("fills", .ref fs), ("rights", .ref rt), ("at", .int 0), ("busy", .ref bz), ("waiting", .ref wt)]) I16.at_)
    have gz := g15.trans g17
    have gR := ((g10.trans g13).trans gz) R _ hR6 (by intro _ _ _ z; cases z)
    exact k _ _ rfl (WkD.of (M := 1 * 2 ^ ((wd : Int)).toNat - 1) I16.put ((cs6.go g10).go (g13.trans gz)) gR R0 m3 (g17 sd _ hsd15 (by intro _ _ _ z; cases z)) (same_free I6.same hsd)
      (gz fs _ hfs13 (by intro _ _ _ z; cases z)) (same_free I8.same hfs) (gz rt _ hrt13 (by intro _ _ _ z; cases z)) (same_free I10.same hrt) (fun i a e => ne_of_none (cs10.at_ i a e).1 hrt)
      (g17 bz _ hbz15 (by intro _ _ _ z; cases z)) (same_free I13.same hbz) (fun i a e => ne_of_none (cs13.at_ i a e).1 hbz) (ne_of_none hrt13 hbz)
      (Go.ins (fs' := [("mask", .int (1 * 2 ^ ((wd : Int)).toNat - 1)), ("top", .int ((wd : Int) - 1)), ("many", .int 1), ("registers", .ref R), ("slots", .ref sd), ("fills", .ref fs), ("rights", .ref rt), ("at", .int 0), ("busy", .ref bz), ("waiting", .ref wt)]) I16.at_ wt _ upd_same (by intro _ _ _ z; cases z)) (same_free I15.same hwt) (ne_of_none hsd15 hwt) em)
theorem ok_Work_initT {f : Addr} {fd : FuncData} (F : Fun K "__init__" "Work.__init__" s_Work_init f fd) (T : Glob mg) (C : WkC K W) (CC : MachC K CM) (Mz : Mt P w K mg base W 1 "zeros" ["self"] (spZeros W)) : FnOk P w K mg base CX0 2 f fd ["self", "machine", "starts"] (spIni SqT K W CM) := by
  refine F.ok sc_Work_init (fun vs H Q E h => ?_) (fun cdv A outer s H vs Q E hr h => ?_)
  · obtain ⟨p, dx, ma, st, tp, ia, fa, wd, m, xs, H0, rfl, _⟩ := h
    rfl
  · obtain ⟨p, dx, ma, st, tp, ia, fa, wd, m, xs, H0, rfl, I0, ⟨dm, hma⟩, hst, htp, hia, hxm, m3, m8, w1, w64, k⟩ := h
    have nd := sc_Work_init.nd
    have hu := hu_of hr
    refine ⟨_, (pss_cons (ps_fld (pv 0) (pe_op op_sub (pe_op op_shl pe_int (pe_fld (pv 1) rfl)) pe_int) rfl)
    (pss_cons (ps_fld (pv 0) (pe_op op_sub (pe_fld (pv 1) rfl) pe_int) rfl)
    (pss_cons (ps_fld (pv 0) (pe_callB call_len_seq (by rfl) T.g_len PySem.boot_len (pa_cons (pv 2) pa_nil)) rfl)
    (pss_cons (ps_fld (pv 0) (pe_lc (own := [("_", 3)]) (g := gName 3) (tt := tYes) rfl nd (pi_range1 (by rfl) T.g_range (pa_cons (pe_fld (pv 1) rfl) pa_nil)) (blkOk_by (N := N_Work_init) (sc := defScope s_Work_init) (by decide +kernel)) (fun _ _ _ _ _ => pg_name (i := 3) nd rfl (Or.inl rfl)) (fun _ _ _ _ _ => pts_nil) (fun _ _ _ _ _ => (pe_meth0 (pv 0) C.cl Mz.m Mz.ok (hr.mono (by decide)) Mz.b .nil pass0))) rfl)
    (pss_cons (ps_for PassesOwn.never rfl (pi_enum (by rfl) T.g_enumerate (pa_cons (pv 2) pa_nil)) (pg_tup (by rfl) (pgs_cons (pg_name (i := 4) nd rfl (Or.inl rfl)) (pgs_cons (pg_name (i := 5) nd rfl (Or.inl rfl)) pgs_nil)))
    (pss_one (ps_for PassesOwn.never rfl (pi_enumT (by rfl) T.g_enumerate (pa_cons (pe_ix ix_tup (pv 5) pe_int (fun _ _ => rfl)) pa_nil)) (pg_tup (by rfl) (pgs_cons (pg_name (i := 6) nd rfl (Or.inl rfl)) (pgs_cons (pg_name (i := 7) nd rfl (Or.inl rfl)) pgs_nil)))
    (pss_one (ps_asg (pe_op op_and (pv 7) (pe_fld (pv 0) rfl)) (pg_sub (pe_ix ix_list (pe_fld (pv 0) rfl) (pv 6) (fun _ _ => rfl)) (pv 4) set_list))))))
    (pss_cons (ps_fld (pv 0) pe_dnewK rfl)
    (pss_cons (ps_fld (pv 0) (pe_lc (own := [("start", 5)]) (g := gName 5) (tt := tYes) rfl nd (pi_list (pv 2)) (blkOk_by (N := N_Work_init) (sc := defScope s_Work_init) (by decide +kernel)) (fun _ _ _ _ _ => pg_name (i := 5) nd rfl (Or.inl rfl)) (fun _ _ _ _ _ => pts_nil) (fun _ _ _ _ _ => (pe_ix (ix_tupN (K := K) rfl) (pv 5) pe_int (fun _ _ => rfl)))) rfl)
    (pss_cons (ps_fld (pv 0) (pe_meth0 (pv 0) C.cl Mz.m Mz.ok (hr.mono (by decide)) Mz.b .nil pass0) rfl)
    (pss_cons (ps_fld (pv 0) pe_int rfl)
    (pss_cons (ps_fld (pv 0) (pe_listRg rfl (by rfl) T.g_list (prg_1 (by rfl) T.g_range (pe_fld (pv 0) rfl))) rfl)
    (pss_one (ps_fld (pv 0) pe_dnewK rfl)))))))))))), ?_⟩
    have em : (1 : Int) * 2 ^ ((wd : Int)).toNat - 1 = 2 ^ wd - 1 := by rw [Int.one_mul, Int.toNat_natCast]
    have mac : ∀ {Hx : Hp}, Same H0 Hx → Hx ma = some (.ins CM dm [("width", .int (wd : Int)), ("registers", .int (m : Int))]) := fun s => s _ _ hma
    -- mask, top, many
    refine ⟨_, rfl, ma, CM, dm, _, _, rfl, mac I0.same, CC.cl, CC.width, rfl, _, _, rfl, rfl, ⟨by omega, by omega, by decide⟩, _, _, rfl, rfl, ?_⟩
    refine ⟨_, rfl, p, W, dx, _, rfl, I0.at_, C.cl, C.mask, (by show 0 < 1000; decide), ?_⟩
    have I1 : Ini W dx p H0 (upd H p (.ins W dx [("mask", .int (1 * 2 ^ ((wd : Int)).toNat - 1))])) [("mask", .int (1 * 2 ^ ((wd : Int)).toNat - 1))] := I0.put
    refine ⟨_, rfl, ma, CM, dm, _, _, rfl, mac I1.same, CC.cl, CC.width, rfl, _, _, rfl, rfl, ?_⟩
    refine ⟨_, rfl, p, W, dx, _, rfl, I1.at_, C.cl, C.top, (by show 1 < 1000; decide), ?_⟩
    have I2 : Ini W dx p H0 (upd (upd H p (.ins W dx [("mask", .int (1 * 2 ^ ((wd : Int)).toNat - 1))])) p (.ins W dx [("mask", .int (1 * 2 ^ ((wd : Int)).toNat - 1)), ("top", .int ((wd : Int) - 1))])) [("mask", .int (1 * 2 ^ ((wd : Int)).toNat - 1)), ("top", .int ((wd : Int) - 1))] := I1.put
    refine ⟨_, rfl, st, _, rfl, .inl (SqL.of (I2.same _ _ hst)), ?_⟩
    refine ⟨_, rfl, p, W, dx, _, rfl, I2.at_, C.cl, C.many, (by show 2 < 1000; decide), ?_⟩
    have I3 : Ini W dx p H0 (upd (upd (upd H p (.ins W dx [("mask", .int (1 * 2 ^ ((wd : Int)).toNat - 1))])) p (.ins W dx [("mask", .int (1 * 2 ^ ((wd : Int)).toNat - 1)), ("top", .int ((wd : Int) - 1))])) p (.ins W dx [("mask", .int (1 * 2 ^ ((wd : Int)).toNat - 1)), ("top", .int ((wd : Int) - 1)), ("many", .int 1)])) [("mask", .int (1 * 2 ^ ((wd : Int)).toNat - 1)), ("top", .int ((wd : Int) - 1)), ("many", .int 1)] := I2.put
    -- the registers
    refine ⟨_, rfl, ma, CM, dm, _, _, rfl, mac I3.same, CC.cl, CC.registers, rfl, (m : Int), rfl, by omega, by omega, fun R hR => ?_⟩
    have R0 : H0 R = none := same_free I3.same hR
    have npR : p ≠ R := ne_of_none I3.at_ hR
    refine lc_range (lo := 0) (n := m) (fun i Hx => ∃ ra : List Addr, Ini W dx p H0 Hx [("mask", .int (1 * 2 ^ ((wd : Int)).toNat - 1)), ("top", .int ((wd : Int) - 1)), ("many", .int 1)] ∧ Hx R = some (.lst (refs ra)) ∧ Cs H0 Hx ra (List.replicate i 0) ∧ ∀ (i : Nat) a, ra[i]? = some a → a ≠ R) ⟨[], I3.stay (new_same hR), upd_same, ⟨rfl, fun i a e => by simp at e, fun i j a e => by simp at e⟩, fun i a e => by simp at e⟩ ?_ ?_
    · rintro i Hx hi ⟨ra, J, hRx, cs, nR⟩
      refine ⟨rfl, ?_⟩
      refine ⟨_, rfl, p, dx, _, rfl, J.at_, rfl, p, dx, _, rfl, J.at_, rfl, fun q Hy hq sm hy => ?_⟩
      have q0 : H0 q = none := same_free J.same hq
      have nqR : q ≠ R := Ne.symm (ne_of_none hRx hq)
      refine ⟨refs ra, sm _ _ hRx, ?_, ra ++ [q], (J.stay sm).other (Ne.symm npR) R0, ?_, ?_, ?_⟩
      · rw [refs_len, cs.len, List.length_replicate]
        exact small1000 (by omega)
      · rw [upd_same]
        unfold refs
        rw [List.map_append]
        rfl
      · refine ⟨by rw [List.length_append, cs.len, List.length_replicate, List.length_replicate]; rfl, fun j a e => ?_, fun j l a e e' => ?_⟩
        · rw [List.getD_eq_getElem?_getD, List.getElem?_replicate]
          have hz : (if j < i + 1 then some (0 : Int) else none).getD 0 = 0 := by split <;> rfl
          rw [hz]
          by_cases hj : j < ra.length
          · rw [List.getElem?_append_left hj] at e
            obtain ⟨c1, c2⟩ := cs.at_ j a e
            have hz2 : (List.replicate i (0 : Int)).getD j 0 = 0 := by
              rw [List.getD_eq_getElem?_getD, List.getElem?_replicate]
              split <;> rfl
            rw [hz2] at c1
            exact ⟨by rw [upd_ne (nR j a e)]; exact sm _ _ c1, c2⟩
          · rw [List.getElem?_append_right (by omega)] at e
            have : a = q := by
              cases h : j - ra.length with
              | zero => rw [h] at e; exact (Option.some.inj e).symm
              | succ n => rw [h] at e; simp at e
            subst this
            exact ⟨by rw [upd_ne nqR]; exact hy, q0⟩
        · have one : ∀ (l : Nat) (a : Addr), (ra ++ [q])[l]? = some a → (l < ra.length ∧ ra[l]? = some a) ∨ (l = ra.length ∧ a = q) := by
            intro l a e
            by_cases hl : l < ra.length
            · rw [List.getElem?_append_left hl] at e
              exact .inl ⟨hl, e⟩
            · rw [List.getElem?_append_right (by omega)] at e
              cases h : l - ra.length with
              | zero => rw [h] at e; exact .inr ⟨by omega, (Option.some.inj e).symm⟩
              | succ n => rw [h] at e; simp at e
          have nq : ∀ (l : Nat), ra[l]? ≠ some q := fun l e => ne_of_none (cs.at_ l q e).1 hq rfl
          rcases one j a e with ⟨j1, j2⟩ | ⟨j1, j2⟩ <;> rcases one l a e' with ⟨l1, l2⟩ | ⟨l1, l2⟩
          · exact cs.inj j l a j2 l2
          · subst l2; exact absurd j2 (nq j)
          · subst j2; exact absurd l2 (nq l)
          · omega
      · intro j a e
        by_cases hj : j < ra.length
        · rw [List.getElem?_append_left hj] at e
          exact nR j a e
        · rw [List.getElem?_append_right (by omega)] at e
          cases h : j - ra.length with
          | zero => rw [h] at e; obtain rfl := Option.some.inj e; exact nqR
          | succ n => rw [h] at e; simp at e
    rintro H4 ⟨ra, J4, hR4, cs4, nR⟩
    rw [← initR_zero (wd := wd) (xs := xs)] at cs4
    refine ⟨_, rfl, p, W, dx, _, rfl, J4.at_, C.cl, C.registers, (by show 3 < 1000; decide), ?_⟩
    have hR5 : (upd H4 p (.ins W dx [("mask", .int (1 * 2 ^ ((wd : Int)).toNat - 1)), ("top", .int ((wd : Int) - 1)), ("many", .int 1), ("registers", .ref R)])) R = some (.lst (refs ra)) := by rw [upd_ne (Ne.symm npR)]; exact hR4
    have I5 : Ini W dx p H0 (upd H4 p (.ins W dx [("mask", .int (1 * 2 ^ ((wd : Int)).toNat - 1)), ("top", .int ((wd : Int) - 1)), ("many", .int 1), ("registers", .ref R)])) [("mask", .int (1 * 2 ^ ((wd : Int)).toNat - 1)), ("top", .int ((wd : Int) - 1)), ("many", .int 1), ("registers", .ref R)] := J4.put
    have cs5 := cs4.ins (fs' := [("mask", .int (1 * 2 ^ ((wd : Int)).toNat - 1)), ("top", .int ((wd : Int) - 1)), ("many", .int 1), ("registers", .ref R)]) J4.at_
    dsimp only [List.set_cons_succ, List.set_cons_zero]
    -- the inputs
    have rl : ra.length = m := by rw [cs5.len, initR_len]
    refine ⟨_, rfl, st, _, rfl, SqL.of (I5.same _ _ hst), ?_⟩
    refine for_it walk_enum (fun i σ Hx => ∃ a b c d : Option V, σ = [some (.ref p), some (.ref ma), some (.ref st), none, a, b, c, d] ∧ Ini W dx p H0 Hx [("mask", .int (1 * 2 ^ ((wd : Int)).toNat - 1)), ("top", .int ((wd : Int) - 1)), ("many", .int 1), ("registers", .ref R)] ∧ Hx R = some (.lst (refs ra)) ∧ Cs H0 Hx ra (initR wd m xs (if i = 0 then 0 else xs.length))) ⟨none, none, none, none, rfl, I5, hR5, cs5⟩ (fun i σ Hx _ ⟨_, _, _, _, _, J, _⟩ => SqL.of (J.same _ _ hst)) ?_ ?_
    · rintro i x σ Hx Hy hi ⟨a, b, c, d, rfl, J, hRx, csx⟩ ⟨Tt, y, z, rfl, hT, rfl, hy, hz⟩
      obtain rfl : i = 0 := by simpa using hi
      obtain rfl := Option.some.inj hy
      obtain rfl := Option.some.inj hz
      have J1 := J.stay (new_same (o := .tup [.int ((0 : Nat) : Int), .ref tp]) hT)
      have hR1 := new_same (o := .tup [.int ((0 : Nat) : Int), .ref tp]) hT _ _ hRx
      have cs1 := csx.same (new_same (o := .tup [.int ((0 : Nat) : Int), .ref tp]) hT)
      have csx := cs1
      rw [if_pos rfl] at cs1
      refine ⟨Tt, _, rfl, SqT.of upd_same, rfl, _, _, rfl, _, _, rfl, rfl, ?_⟩
      dsimp only [List.set_cons_succ, List.set_cons_zero]
      refine ⟨_, rfl, tp, _, _, .ref ia, rfl, rfl, SqT.of (J1.same _ _ htp), atI_nat (j := 0) rfl, ia, _, rfl, hia.ext J1.same, ?_⟩
      refine for_it walk_enumT (fun j σ Hx => ∃ c d : Option V, σ = [some (.ref p), some (.ref ma), some (.ref st), none, some (.int ((0 : Nat) : Int)), some (.ref tp), c, d] ∧ Ini W dx p H0 Hx [("mask", .int (1 * 2 ^ ((wd : Int)).toNat - 1)), ("top", .int ((wd : Int) - 1)), ("many", .int 1), ("registers", .ref R)] ∧ Hx R = some (.lst (refs ra)) ∧ Cs H0 Hx ra (initR wd m xs j)) ⟨c, d, rfl, J1, hR1, cs1⟩ (fun i σ Hx _ ⟨_, _, _, J, _⟩ => hia.ext J.same) ?_ ?_
      · rintro j x σ Hx Hy hj ⟨c, d, rfl, J, hRx, csx⟩ ⟨Tt, y, z, rfl, hT, rfl, hy, hz⟩
        rw [List.length_map] at hj
        obtain rfl := Option.some.inj hy
        have hz : (xs.map V.int)[j]? = some z := hz
        rw [List.getElem?_map, List.getElem?_eq_getElem hj] at hz
        obtain rfl : V.int xs[j] = z := Option.some.inj hz
        have hj : j < xs.length := hj
        have J1 := J.stay (new_same (o := .tup [.int (j : Nat), .int xs[j]]) hT)
        have hR1 := new_same (o := .tup [.int (j : Nat), .int xs[j]]) hT _ _ hRx
        have cs1 := csx.same (new_same (o := .tup [.int (j : Nat), .int xs[j]]) hT)
        obtain ⟨t, ht⟩ : ∃ t, ra[j]? = some t := ⟨ra[j]'(by omega), List.getElem?_eq_getElem _⟩
        refine ⟨Tt, _, rfl, SqT.of upd_same, rfl, _, _, rfl, _, _, rfl, rfl, ?_⟩
        dsimp only [List.set_cons_succ, List.set_cons_zero]
        obtain ⟨c1, c2⟩ := cs1.at_ j t ht
        refine ⟨_, rfl, _, rfl, p, W, dx, _, _, rfl, J1.at_, C.cl, C.mask, rfl, _, _, rfl, rfl, ?_⟩
        refine ⟨_, rfl, p, W, dx, _, _, rfl, J1.at_, C.cl, C.registers, rfl, _, rfl, R, _, _, .ref t, rfl, rfl, SqL.of hR1, atI_nat (refs_at ht), _, rfl, t, _, _, 0, rfl, rfl, c1, rfl, ?_⟩
        have nt : t ≠ p := ne_of c1 J1.at_ (by intro z; cases z)
        have ntR : t ≠ R := nR j t ht
        refine ⟨_, _, rfl, J1.other nt c2, by rw [upd_ne (Ne.symm ntR)]; exact hR1, cs1.step (by omega) ht ?_⟩
        rw [em, mask_at, List.getD_eq_getElem?_getD, List.getElem?_eq_getElem hj]
        rfl
      · rintro σ Hx ⟨c, d, rfl, J, hRx, csx⟩
        rw [List.length_map] at csx
        exact ⟨_, _, _, _, rfl, J, hRx, csx⟩
    rintro σ H6 ⟨a, b, c, d, rfl, I6, hR6, cs6⟩
    rw [show ([V.ref tp] : List V).length = 1 from rfl, if_neg (by decide), initR_all hxm] at cs6
    -- slots
    refine fun sd hsd => ?_
    have I7 := I6.stay (new_same (o := .dK []) hsd)
    have g7 := Go.new (o := .dK []) hsd
    refine ⟨_, rfl, p, W, dx, _, rfl, I7.at_, C.cl, C.slots, (by show 4 < 1000; decide), ?_⟩
    have I8 : Ini W dx p H0 (upd (upd H6 sd (.dK [])) p (.ins W dx [("mask", .int (1 * 2 ^ ((wd : Int)).toNat - 1)), ("top", .int ((wd : Int) - 1)), ("many", .int 1), ("registers", .ref R), ("slots", .ref sd)])) [("mask", .int (1 * 2 ^ ((wd : Int)).toNat - 1)), ("top", .int ((wd : Int) - 1)), ("many", .int 1), ("registers", .ref R), ("slots", .ref sd)] := I7.put
    have g8 := g7.trans (Go.ins (fs' := [("mask", .int (1 * 2 ^ ((wd : Int)).toNat - 1)), ("top", .int ((wd : Int) - 1)), ("many", .int 1), ("registers", .ref R), ("slots", .ref sd)]) I7.at_)
    have hsd8 := Go.ins (fs' := [("mask", .int (1 * 2 ^ ((wd : Int)).toNat - 1)), ("top", .int ((wd : Int) - 1)), ("many", .int 1), ("registers", .ref R), ("slots", .ref sd)]) I7.at_ sd _ upd_same (by intro _ _ _ z; cases z)
    -- fills
    refine ⟨_, rfl, st, rfl, ⟨_, SqL.of (I8.same _ _ hst)⟩, fun fs hfs => ?_⟩
    refine lc_list (xs := [.ref tp]) (fun i Hx => Same (upd (upd H6 sd (.dK [])) p (.ins W dx [("mask", .int (1 * 2 ^ ((wd : Int)).toNat - 1)), ("top", .int ((wd : Int) - 1)), ("many", .int 1), ("registers", .ref R), ("slots", .ref sd)])) Hx ∧ Hx fs = some (.lst (if i = 0 then [] else [.ref fa]))) ⟨new_same hfs, upd_same⟩ (fun i Hx _ h => SqL.of ((I8.stay h.1).same _ _ hst)) ?_ ?_
    · rintro i x Hx hx ⟨sm, h1⟩
      match i, hx with
      | i + 1, hx => simp at hx
      | 0, hx =>
        obtain rfl := Option.some.inj hx
        refine ⟨rfl, ?_⟩
        refine ⟨_, rfl, tp, _, _, .ref fa, rfl, rfl, SqT.of ((I8.stay sm).same _ _ htp), atI_nat (j := 1) rfl, ?_⟩
        refine ⟨[], h1, (by show 0 < sizeLine; decide), fun b o e => ?_, upd_same⟩
        rw [upd_ne (ne_of_none e hfs)]
        exact sm b o e
    rintro H9 ⟨sm9, hfs9⟩
    rw [show ([V.ref tp] : List V).length = 1 from rfl, if_neg (by decide)] at hfs9
    have I9 := I8.stay sm9
    refine ⟨_, rfl, p, W, dx, _, rfl, I9.at_, C.cl, C.fills, (by show 5 < 1000; decide), ?_⟩
    have I10 : Ini W dx p H0 (upd H9 p (.ins W dx [("mask", .int (1 * 2 ^ ((wd : Int)).toNat - 1)), ("top", .int ((wd : Int) - 1)), ("many", .int 1), ("registers", .ref R), ("slots", .ref sd), ("fills", .ref fs)])) [("mask", .int (1 * 2 ^ ((wd : Int)).toNat - 1)), ("top", .int ((wd : Int) - 1)), ("many", .int 1), ("registers", .ref R), ("slots", .ref sd), ("fills", .ref fs)] := I9.put
    have g10 := (g8.trans (Go.of sm9)).trans (Go.ins (fs' := [("mask", .int (1 * 2 ^ ((wd : Int)).toNat - 1)), ("top", .int ((wd : Int) - 1)), ("many", .int 1), ("registers", .ref R), ("slots", .ref sd), ("fills", .ref fs)]) I9.at_)
    have hsd10 := ((Go.of sm9).trans (Go.ins (fs' := [("mask", .int (1 * 2 ^ ((wd : Int)).toNat - 1)), ("top", .int ((wd : Int) - 1)), ("many", .int 1), ("registers", .ref R), ("slots", .ref sd), ("fills", .ref fs)]) I9.at_)) sd _ hsd8 (by intro _ _ _ z; cases z)
    have hfs10 := Go.ins (fs' := [("mask", .int (1 * 2 ^ ((wd : Int)).toNat - 1)), ("top", .int ((wd : Int) - 1)), ("many", .int 1), ("registers", .ref R), ("slots", .ref sd), ("fills", .ref fs)]) I9.at_ fs _ hfs9 (by intro _ _ _ z; cases z)
    have cs10 := cs6.go g10
    -- rights
    refine ⟨_, rfl, p, dx, _, rfl, I10.at_, rfl, p, dx, _, rfl, I10.at_, rfl, fun rt H11 hrt sm11 hrt11 => ?_⟩
    have I11 := I10.stay sm11
    refine ⟨_, rfl, p, W, dx, _, rfl, I11.at_, C.cl, C.rights, (by show 6 < 1000; decide), ?_⟩
    have I12 : Ini W dx p H0 (upd H11 p (.ins W dx [("mask", .int (1 * 2 ^ ((wd : Int)).toNat - 1)), ("top", .int ((wd : Int) - 1)), ("many", .int 1), ("registers", .ref R), ("slots", .ref sd), ("fills", .ref fs), ("rights", .ref rt)])) [("mask", .int (1 * 2 ^ ((wd : Int)).toNat - 1)), ("top", .int ((wd : Int) - 1)), ("many", .int 1), ("registers", .ref R), ("slots", .ref sd), ("fills", .ref fs), ("rights", .ref rt)] := I11.put
    refine ⟨_, rfl, p, W, dx, _, rfl, I12.at_, C.cl, C.at_, (by show 7 < 1000; decide), ?_⟩
    have I13 : Ini W dx p H0 (upd (upd H11 p (.ins W dx [("mask", .int (1 * 2 ^ ((wd : Int)).toNat - 1)), ("top", .int ((wd : Int) - 1)), ("many", .int 1), ("registers", .ref R), ("slots", .ref sd), ("fills", .ref fs), ("rights", .ref rt)])) p (.ins W dx [("mask", .int (1 * 2 ^ ((wd : Int)).toNat - 1)), ("top", .int ((wd : Int) - 1)), ("many", .int 1), ("registers", .ref R), ("slots", .ref sd), ("fills", .ref fs), ("rights", .ref rt), ("at", .int 0)])) [("mask", .int (1 * 2 ^ ((wd : Int)).toNat - 1)), ("top", .int ((wd : Int) - 1)), ("many", .int 1), ("registers", .ref R), ("slots", .ref sd), ("fills", .ref fs), ("rights", .ref rt), ("at", .int 0)] := I12.put
    have g13 := ((Go.of sm11).trans (Go.ins (fs' := [("mask", .int (1 * 2 ^ ((wd : Int)).toNat - 1)), ("top", .int ((wd : Int) - 1)), ("many", .int 1), ("registers", .ref R), ("slots", .ref sd), ("fills", .ref fs), ("rights", .ref rt)]) I11.at_)).trans (Go.ins (fs' := [("mask", .int (1 * 2 ^ ((wd : Int)).toNat - 1)), ("top", .int ((wd : Int) - 1)), ("many", .int 1), ("registers", .ref R), ("slots", .ref sd), ("fills", .ref fs), ("rights", .ref rt), ("at", .int 0)]) I12.at_)
    have hrt13 := ((Go.ins (fs' := [("mask", .int (1 * 2 ^ ((wd : Int)).toNat - 1)), ("top", .int ((wd : Int) - 1)), ("many", .int 1), ("registers", .ref R), ("slots", .ref sd), ("fills", .ref fs), ("rights", .ref rt)]) I11.at_).trans (Go.ins (fs' := [("mask", .int (1 * 2 ^ ((wd : Int)).toNat - 1)), ("top", .int ((wd : Int) - 1)), ("many", .int 1), ("registers", .ref R), ("slots", .ref sd), ("fills", .ref fs), ("rights", .ref rt), ("at", .int 0)]) I12.at_)) rt _ hrt11 (by intro _ _ _ z; cases z)
    have cs13 := cs10.go g13
    have hsd13 := g13 sd _ hsd10 (by intro _ _ _ z; cases z)
    have hfs13 := g13 fs _ hfs10 (by intro _ _ _ z; cases z)
    -- busy
    refine ⟨_, rfl, p, W, dx, _, _, rfl, I13.at_, C.cl, C.many, rfl, 1, rfl, RgOk.of_le (by decide) (by decide) (by decide) (by decide), fun bz hbz => ?_⟩
    have I14 := I13.stay (new_same (o := .lst (rgV 0 1)) hbz)
    refine ⟨_, rfl, p, W, dx, _, rfl, I14.at_, C.cl, C.busy, (by show 8 < 1000; decide), ?_⟩
    have I15 : Ini W dx p H0 (upd (upd (upd (upd H11 p (.ins W dx [("mask", .int (1 * 2 ^ ((wd : Int)).toNat - 1)), ("top", .int ((wd : Int) - 1)), ("many", .int 1), ("registers", .ref R), ("slots", .ref sd), ("fills", .ref fs), ("rights", .ref rt)])) p (.ins W dx [("mask", .int (1 * 2 ^ ((wd : Int)).toNat - 1)), ("top", .int ((wd : Int) - 1)), ("many", .int 1), ("registers", .ref R), ("slots", .ref sd), ("fills", .ref fs), ("rights", .ref rt), ("at", .int 0)])) bz (.lst (rgV 0 1))) p (.ins W dx [("mask", .int (1 * 2 ^ ((wd : Int)).toNat - 1)), ("top", .int ((wd : Int) - 1)), ("many", .int 1), ("registers", .ref R), ("slots", .ref sd), ("fills", .ref fs), ("rights", .ref rt), ("at", .int 0), ("busy", .ref bz)])) [("mask", .int (1 * 2 ^ ((wd : Int)).toNat - 1)), ("top", .int ((wd : Int) - 1)), ("many", .int 1), ("registers", .ref R), ("slots", .ref sd), ("fills", .ref fs), ("rights", .ref rt), ("at", .int 0), ("busy", .ref bz)] := I14.put
    have g15 := (Go.new (o := .lst (rgV 0 1)) hbz).trans (Go.ins (fs' := [("mask", .int (1 * 2 ^ ((wd : Int)).toNat - 1)), ("top", .int ((wd : Int) - 1)), ("many", .int 1), ("registers", .ref R), ("slots", .ref sd), ("fills", .ref fs), ("rights", .ref rt), ("at", .int 0), ("busy", .ref bz)]) I14.at_)
    have hbz15 := Go.ins (fs' := [("mask", .int (1 * 2 ^ ((wd : Int)).toNat - 1)), ("top", .int ((wd : Int) - 1)), ("many", .int 1), ("registers", .ref R), ("slots", .ref sd), ("fills", .ref fs), ("rights", .ref rt), ("at", .int 0), ("busy", .ref bz)]) I14.at_ bz (.lst (rgV 0 1)) upd_same (by intro _ _ _ z; cases z)
    have hsd15 := g15 sd _ hsd13 (by intro _ _ _ z; cases z)
    -- waiting
    refine fun wt hwt => ?_
    have I16 := I15.stay (new_same (o := .dK []) hwt)
    refine ⟨_, rfl, p, W, dx, _, rfl, I16.at_, C.cl, C.waiting, (by show 9 < 1000; decide), ?_⟩
    have g17 := (Go.new (o := .dK []) hwt).trans (Go.ins (fs' := [("mask", .int (1 * 2 ^ ((wd : Int)).toNat - 1)), ("top", .int ((wd : Int) - 1)), ("many", .int 1), ("registers", .ref R), ("slots", .ref sd), ("fills", .ref fs), ("rights", .ref rt), ("at", .int 0), ("busy", .ref bz), ("waiting", .ref wt)]) I16.at_)
    have gz := g15.trans g17
    have gR := ((g10.trans g13).trans gz) R _ hR6 (by intro _ _ _ z; cases z)
    exact k _ _ rfl (WkD.of (M := 1 * 2 ^ ((wd : Int)).toNat - 1) I16.put ((cs6.go g10).go (g13.trans gz)) gR R0 m3 (g17 sd _ hsd15 (by intro _ _ _ z; cases z)) (same_free I6.same hsd)
      (gz fs _ hfs13 (by intro _ _ _ z; cases z)) (same_free I8.same hfs) (gz rt _ hrt13 (by intro _ _ _ z; cases z)) (same_free I10.same hrt) (fun i a e => ne_of_none (cs10.at_ i a e).1 hrt)
      (g17 bz _ hbz15 (by intro _ _ _ z; cases z)) (same_free I13.same hbz) (fun i a e => ne_of_none (cs13.at_ i a e).1 hbz) (ne_of_none hrt13 hbz)
      (Go.ins (fs' := [("mask", .int (1 * 2 ^ ((wd : Int)).toNat - 1)), ("top", .int ((wd : Int) - 1)), ("many", .int 1), ("registers", .ref R), ("slots", .ref sd), ("fills", .ref fs), ("rights", .ref rt), ("at", .int 0), ("busy", .ref bz), ("waiting", .ref wt)]) I16.at_ wt _ upd_same (by intro _ _ _ z; cases z)) (same_free I15.same hwt) (ne_of_none hsd15 hwt) em)
theorem ok_Work_init {f : Addr} {fd : FuncData} (F : Fun K "__init__" "Work.__init__" s_Work_init f fd) (T : Glob mg) (C : WkC K W) (CC : MachC K CM) (Mz : Mt P w K mg base W 1 "zeros" ["self"] (spZeros W)) : FnOk P w K mg base CX0 2 f fd ["self", "machine", "starts"] (fun vs H Q E => spIni SqL K W CM vs H Q E ∨ spIni SqT K W CM vs H Q E) := fnok_or (ok_Work_initL F T C CC Mz) (ok_Work_initT F T C CC Mz)
end
end My

set_option pp.maxSteps 400
set_option Elab.async false
set_option linter.all false
set_option maxRecDepth 100000
set_option maxHeartbeats 1000000
namespace My
open PySem L2 MyR

/-! ### a call of a local name that holds one of several defs -/
def tCallV (i : Nat) (G : Addr → Sp → Prop) (t : TA) : TE := fun σ H Q => ∃ f sp, σ[i]? = some (some (.ref f)) ∧ G f sp ∧ t σ H fun vs H1 => sp vs H1 Q (fun _ _ _ => False)
theorem pe_callV {X : Cx} {k i : Nat} {x : Str} {p pos : Pos} {e : Expr} {es : List Expr} {t : TA} {G : Addr → Sp → Prop} (A : ∀ f sp, G f sp → Held X.prog X.w X.K X.mg X.base k f sp) (hr : Room k X.A) (hN : X.N[i]? = some x) (hv : Vis X.env.scope x) (ha : PA X (e :: es) t)
    (hdb : (x == ("__debug__" : Str)) = false := by decide) (hcd : (x == ("__classdict__" : Str)) = false := by decide)
    (he : starEach (e :: es) X.env = (false, eval e X.env) :: starEach es X.env := by rfl) (hpl : (backTo pos (starEach es X.env)).any (·.1) = false := by rfl) : PE X (.Call (.Name x p) (e :: es) [] pos) (tCallV i G t) := by
  refine ⟨fun pins s σ H Q I h => ?_⟩
  obtain ⟨f, sp, hs, hS, ht⟩ := h
  obtain ⟨fd, ps, F, hk, hb⟩ := (A f sp hS).ex
  refine (pe_callL (i := i) (f := f) (sp := sp) (dvs := []) (E := fun _ _ _ => False) F hr hN hv hk hb .nil (fun _ _ _ _ _ _ _ z => z.elim) ha hdb hcd he hpl).run pins s σ H Q I ⟨hs, ?_⟩
  have e0 : (fun (vs : List V) (H1 : Hp) => sp (vs ++ []) H1 Q (fun _ _ _ => False)) = fun vs H1 => sp vs H1 Q (fun _ _ _ => False) := by
    funext vs H1
    rw [List.append_nil]
  show t σ H (fun vs H1 => sp (vs ++ []) H1 Q (fun _ _ _ => False))
  rw [e0]
  exact ht
theorem spDo_mono {K : PySem.W.Frag} {W : Addr} {S S' : Op → Prop} (h : ∀ o, S' o → S o) : ∀ vs H Q E, spDo K W S' vs H Q E → spDo K W S vs H Q E := by
  rintro vs H Q E ⟨p, q, wd, m, cnt, fl, H0, s, A, kvs, o, e1, e2, r⟩
  exact ⟨p, q, wd, m, cnt, fl, H0, s, A, kvs, o, e1, h o e2, r⟩
/-- the dict of what is done at a row -/
structure DoT (P : Program) (w : World) (K : PySem.W.Frag) (mg : Str → Option Value) (base : Heap) (W : Addr) where
  a : Addr
  g : mg "DOING" = some (.ref a)
  at_ : ∀ o : Op, ∃ f, KDct K w a o.rw.w (.ref f) ∧ Held P w K mg base 3 f (spDo K W fun x => x = o)
/-! ### row by row -/
def Wst.come (s : Wst) (i : Int) : Wst := if s.ws = some i then ⟨s.m, i, true, none⟩ else ⟨s.m, i, s.bs, s.ws⟩
/-- the busy one goes on, or waits for a later row -/
def Jn (wd : Nat) (fl : Nat → Int) (os : List Op) (R : Ms) (i : Nat) (s : Wst) : Prop :=
  (s.bs = true ∧ s.ws = none ∧ goM wd fl 0 (os.drop i) s.m = R) ∨ (s.bs = false ∧ ∃ k : Nat, s.ws = some ((i : Int) + (k : Int)) ∧ goM wd fl k (os.drop i) s.m = R)
theorem jump_hit (s : Ms) (o : Op) : o.jump s = (o.hit s).getD 0 := by
  cases o with
  | skip a m c n =>
    show (if s.get a % m = c then n else 0) = (if s.get a % m = c then some n else none).getD 0
    split <;> rfl
  | _ => rfl
theorem run_hit {wd : Nat} {fl : Nat → Int} {s : Ms} {o : Op} {n : Nat} (h : o.hit s = some n) : o.run wd fl s = s := by
  cases o with
  | skip a m c k => rfl
  | _ => cases h
theorem Jn.go {wd : Nat} {fl : Nat → Int} {os : List Op} {R : Ms} {i : Nat} {s : Wst} {o : Op} (ho : os[i]? = some o) (hb : s.bs = true) (hw : s.ws = none) (ha : s.at_ = (i : Int)) (hR : goM wd fl 0 (os.drop i) s.m = R) : Jn wd fl os R (i + 1) (s.exec wd fl o) := by
  obtain ⟨hi, rfl⟩ := List.getElem?_eq_some_iff.mp ho
  rw [List.drop_eq_getElem_cons hi] at hR
  have hR : goM wd fl (os[i].jump s.m) (os.drop (i + 1)) (os[i].run wd fl s.m) = R := hR
  rw [jump_hit] at hR
  cases e : os[i].hit s.m with
  | none =>
    rw [e] at hR
    rw [exec_yes wd fl hb e]
    exact .inl ⟨hb, hw, hR⟩
  | some n =>
    rw [e, run_hit e] at hR
    have ex : s.exec wd fl os[i] = ⟨s.m, s.at_, false, some (s.at_ + 1 + (n : Int))⟩ := by
      unfold Wst.exec
      rw [hb, e]
      rfl
    rw [ex, ha]
    exact .inr ⟨rfl, n, rfl, hR⟩
theorem Jn.step {wd : Nat} {fl : Nat → Int} {os : List Op} {R : Ms} {i : Nat} {s : Wst} {o : Op} (ho : os[i]? = some o) (h : Jn wd fl os R i s) : Jn wd fl os R (i + 1) ((s.come (i : Int)).exec wd fl o) := by
  rcases h with ⟨hb, hw, hR⟩ | ⟨hb, k, hw, hR⟩
  · have e : s.come (i : Int) = ⟨s.m, (i : Int), s.bs, s.ws⟩ := if_neg (by rw [hw]; intro z; cases z)
    rw [e]
    exact Jn.go ho hb hw rfl hR
  · cases k with
    | zero =>
      have e : s.come (i : Int) = ⟨s.m, (i : Int), true, none⟩ := if_pos (by rw [hw]; show some ((i : Int) + ((0 : Nat) : Int)) = some (i : Int); rw [show (i : Int) + ((0 : Nat) : Int) = (i : Int) from Int.add_zero _])
      rw [e]
      exact Jn.go ho rfl rfl rfl hR
    | succ k =>
      have e : s.come (i : Int) = ⟨s.m, (i : Int), s.bs, s.ws⟩ := if_neg (by rw [hw]; intro z; have := Option.some.inj z; omega)
      rw [e, exec_no wd fl o (show (⟨s.m, (i : Int), s.bs, s.ws⟩ : Wst).bs = false from hb)]
      obtain ⟨hi, rfl⟩ := List.getElem?_eq_some_iff.mp ho
      rw [List.drop_eq_getElem_cons hi] at hR
      exact .inr ⟨hb, k, by rw [hw]; show some ((i : Int) + ((k + 1 : Nat) : Int)) = some (((i + 1 : Nat) : Int) + (k : Int)); rw [show (i : Int) + ((k + 1 : Nat) : Int) = ((i + 1 : Nat) : Int) + (k : Int) by omega], hR⟩
theorem Jn.fin {wd : Nat} {fl : Nat → Int} {os : List Op} {R : Ms} {s : Wst} (h : Jn wd fl os R os.length s) : s.m = R := by
  have z : ∀ k (m : Ms), goM wd fl k [] m = m := fun k m => by unfold goM; rfl
  rcases h with ⟨_, _, h⟩ | ⟨_, k, _, h⟩ <;> rw [List.drop_length, z] at h <;> exact h
theorem exec_ok {wd m : Nat} {fl : Nat → Int} {s : Wst} (w1 : 1 ≤ wd) (hf : ∀ n, fl n = 0 ∨ fl n = 1) (h : s.m.Ok wd m) (o : Op) : (s.exec wd fl o).m.Ok wd m := by
  unfold Wst.exec
  split
  · split
    · exact h.run w1 hf o
    · exact h
  · exact h
theorem come_m (s : Wst) (i : Int) : (s.come i).m = s.m := by unfold Wst.come; split <;> rfl
def spDoRow (K : PySem.W.Frag) (W : Addr) : Sp := fun vs H Q _ => ∃ (p q : Addr) (i : Nat) (wd m : Nat) (fl : Nat → Int) (H0 : Hp) (s : Wst) (A : Ad) (kvs : List (Key × V)) (o : Op) (os : List Op) (R : Ms), vs = [.ref p, .int (i : Int), .ref q] ∧ RowAt H0 o.rw q ∧ o.ok m ∧ 1 ≤ wd ∧ wd ≤ 64 ∧ FlAt K H0 A.fa fl ∧ s.m.Ok wd m ∧
  WkD W wd m H0 H s i p A kvs ∧ i < 1000 ∧ Jn wd fl os R i s ∧ os[i]? = some o ∧ ∀ H' s' A' kvs', A'.fa = A.fa → s'.m.Ok wd m → WkD W wd m H0 H' s' (i + 1) p A' kvs' → Jn wd fl os R (i + 1) s' → Q .non H'
section
variable {P : Program} {w : World} {K : PySem.W.Frag} {mg : Str → Option Value} {base : Heap} {W : Addr}
abbrev s_Work_do_row : Stmt := inClass (top 38) 2
abbrev N_Work_do_row : List Str := ["self", "at", "row", "do"]
theorem sc_Work_do_row : FnScope N_Work_do_row ["self", "at", "row"] (defScope s_Work_do_row) := ⟨rfl, rfl, rfl, by decide +kernel, rfl, by decide +kernel, by decide +kernel⟩
theorem ok_Work_do_row {f : Addr} {fd : FuncData} (F : Fun K "do_row" "Work.do_row" s_Work_do_row f fd) (C : WkC K W) (DT : DoT P w K mg base W) : FnOk P w K mg base CX0 4 f fd ["self", "at", "row"] (spDoRow K W) := by
  refine F.ok sc_Work_do_row (fun vs H Q E h => ?_) (fun cdv A0 outer s0 H vs Q E hr h => ?_)
  · obtain ⟨p, q, i, wd, m, fl, H0, s, A, kvs, o, os, R, rfl, _⟩ := h
    rfl
  · obtain ⟨p, q, i, wd, m, fl, H0, s, A, kvs, o, os, R, rfl, hq, ho, w1, w64, hfl, hok, D, hi, J, hos, k⟩ := h
    have nd := sc_Work_do_row.nd
    have hu := hu_of hr
    refine ⟨_, (pss_cons (ps_fld (pv 0) (pv 1) rfl)
    (pss_cons (ps_if (pt_cmp (pc_din hu (pv 1) (pe_fld (pv 0) rfl)))
    (pss_one (ps_fld (pv 0) (pe_lst (StX.pa_star (pe_fld (pv 0) rfl) (StX.pa_star (pe_dpop1 (pe_fld (pv 0) rfl) (pv 1) ⟨rfl, rfl, rfl, rfl⟩) pa_nil))) rfl))
    pss_nil)
    (pss_cons (ps_set (i := 3) nd rfl (Or.inl rfl) (pe_ix ix_kdict (pe_glob (v := .ref DT.a) rfl DT.g rfl) (pe_ix ix_tup (pv 2) pe_int (fun _ _ => rfl)) (fun _ _ => rfl)))
    (pss_one (ps_expr (pe_callV (i := 3) (G := Held P w K mg base 3) (fun _ _ h => h) (hr.mono (by decide)) rfl (Or.inl rfl) (pa_cons (pv 0) (pa_cons (pv 2) pa_nil)))))))), ?_⟩
    refine ⟨_, rfl, _, rfl, p, W, _, _, rfl, D.pp, C.cl, C.at_, (by show 10 < 1000; decide), ?_⟩
    have D1 := D.setAt (i : Int)
    obtain ⟨wa, hw, hwa⟩ := id D1.wt
    have bw : s.bs = true → s.ws = none := fun h => by
      rcases J with ⟨_, h2, _⟩ | ⟨h2, _⟩
      · exact h2
      · rw [h] at h2; cases h2
    dsimp only
    refine seq_by (fun σ H2 => ∃ A2, σ = [some (.ref p), some (.int (i : Int)), some (.ref q), none] ∧ A2.fa = A.fa ∧ WkD W wd m H0 H2 (s.come (i : Int)) i p A2 kvs) (fun D' hD' => ?_) ?_
    · refine ⟨_, rfl, _, rfl, p, W, _, _, _, rfl, D1.pp, C.cl, C.waiting, rfl, A.wt, _, rfl, DGet.k (k := Sum.inl (i : Int)) hw, _, rfl, ?_⟩
      by_cases e : s.ws = some (i : Int)
      · have ev : wsD (⟨s.m, (i : Int), s.bs, s.ws⟩ : Wst) wa = [(.inl (i : Int), .ref wa)] := by
          unfold wsD
          rw [e]
        have hb : s.bs = false := by
          cases h : s.bs with
          | false => rfl
          | true => rw [bw h] at e; cases e
        rw [ev] at hw
        rw [ev]
        have v1 : valV [((Sum.inl (i : Int) : Key), V.ref wa)] (Sum.inl (i : Int)) = some (.ref wa) := valV_pos rfl
        rw [v1]
        refine iteT ?_
        have ewa := hwa (by show s.ws ≠ none; rw [e]; intro z; cases z)
        refine ⟨_, rfl, p, W, _, _, _, rfl, D1.pp, C.cl, C.busy, rfl, A.bz, _, rfl, .inr (SqL.of D1.bzAt), ?_⟩
        refine ⟨_, rfl, p, W, _, _, _, rfl, D1.pp, C.cl, C.waiting, rfl, A.wt, rfl, .inl ⟨_, .inl hw⟩, _, rfl, _, Sum.inl (i : Int), .ref wa, hw, rfl, v1, ?_⟩
        have D2 := D1.popW
        have ed : dropK [((Sum.inl (i : Int) : Key), V.ref wa)] (Sum.inl (i : Int)) = [] := dropK_pos rfl
        rw [ed]
        refine ⟨wa, [.int 0], rfl, .inr (SqL.of (D2.cl .wa wa ewa).1), ?_⟩
        rw [show (⟨s.m, (i : Int), s.bs, s.ws⟩ : Wst).bs = false from hb]
        refine ⟨(by show 1 ≤ sizeLine; decide), fun u hu2 => ?_⟩
        have D3 := D2.stay (new_same (o := .lst [.int 0]) hu2)
        refine ⟨_, rfl, p, W, _, _, rfl, D3.pp, C.cl, C.busy, (by show 10 < 1000; decide), ?_⟩
        have D4 := D3.setBz (q := u) (b := true) upd_same (D2.old hu2) (fun c a e => D2.gone e hu2)
        refine hD' _ _ ⟨{ A with bz := u, cell := A.cut .bz u }, rfl, rfl, ?_⟩
        have ec : s.come (i : Int) = ⟨s.m, (i : Int), true, none⟩ := if_pos e
        rw [ec]
        exact D4
      · have v0 : valV (wsD (⟨s.m, (i : Int), s.bs, s.ws⟩ : Wst) wa) (Sum.inl (i : Int) : Key) = none := by
          unfold wsD
          cases h : s.ws with
          | none => rfl
          | some t =>
            show valV [((Sum.inl t : Key), V.ref wa)] (Sum.inl (i : Int)) = none
            rw [valV_neg (fun z => e (by rw [h, Sum.inl.inj z]))]
            rfl
        rw [v0]
        refine iteF (hD' _ _ ⟨A, rfl, rfl, ?_⟩)
        have ec : s.come (i : Int) = ⟨s.m, (i : Int), s.bs, s.ws⟩ := if_neg e
        rw [ec]
        exact D1
    · rintro σ H2 ⟨A2, rfl, eA, D2⟩
      obtain ⟨f, hf, hH⟩ := DT.at_ o
      refine ⟨_, rfl, q, _, _, .str o.rw.w, rfl, rfl, SqT.of (D2.same _ _ hq), atI_nat (j := 0) rfl, DT.a, _, .ref f, rfl, rfl, hf, ?_⟩
      refine ⟨f, _, rfl, hH, _, rfl, _, rfl, ?_⟩
      have hfl2 : FlAt K H0 A2.fa fl := by rw [eA]; exact hfl
      refine ⟨p, q, wd, m, i, fl, H0, s.come (i : Int), A2, kvs, o, rfl, rfl, hq, ho, w1, w64, hfl2, by rw [come_m]; exact hok, D2, hi, fun hb => ?_, fun H' A' kvs' eA' D' => ?_⟩
      · unfold Wst.come at hb ⊢
        split
        · rfl
        · rename_i h
          rw [if_neg h] at hb
          exact bw hb
      · exact k H' _ A' kvs' (eA'.trans eA) (exec_ok w1 hfl.bit (by rw [come_m]; exact hok) o) D' (Jn.step hos J)
/-- what code gives at a point -/
def spResults (K : PySem.W.Frag) (CM CC : Addr) : Sp := fun vs H Q _ => ∃ (ma ca st tp ia fa : Addr) (wd m : Nat) (xs : List Int) (fl : Nat → Int) (os : List Op), vs = [.ref ma, .ref ca, .ref st] ∧ MachAt CM H (wd : Int) (m : Int) ma ∧ CodeAt CC H (os.map Op.rw) ca ∧
  H st = some (.lst [.ref tp]) ∧ H tp = some (.tup [.ref ia, .ref fa]) ∧ (SqL K H ia (xs.map V.int) ∨ SqT K H ia (xs.map V.int)) ∧ FlAt K H fa fl ∧ xs.length ≤ m ∧ 3 ≤ m ∧ m ≤ 8 ∧ 1 ≤ wd ∧ wd ≤ 64 ∧ (∀ o ∈ os, o.ok m) ∧ os.length ≤ 900 ∧
  ∀ (t : Addr) H', Same H H' → H' t = some (.lst [.int ((goM wd fl 0 os ⟨initR wd m xs m, fun _ => 0, 0⟩).get 0)]) → Q (.ref t) H'
/-- a list or a tuple -/
def SqE (K : PySem.W.Frag) (H : Hp) (a : Addr) (xs : List V) : Prop := SqL K H a xs ∨ SqT K H a xs
theorem ini_or {K : PySem.W.Frag} {W CM : Addr} : ∀ vs H Q E, spIni SqE K W CM vs H Q E → spIni SqL K W CM vs H Q E ∨ spIni SqT K W CM vs H Q E := by
  rintro vs H Q E ⟨p, dx, ma, st, tp, ia, fa, wd, m, xs, H0, h1, h2, h3, h4, h5, h6, h7⟩
  rcases h6 with h | h
  · exact .inl ⟨p, dx, ma, st, tp, ia, fa, wd, m, xs, H0, h1, h2, h3, h4, h5, h, h7⟩
  · exact .inr ⟨p, dx, ma, st, tp, ia, fa, wd, m, xs, H0, h1, h2, h3, h4, h5, h, h7⟩
/-- the class Work as its users know it -/
structure WorkX (P : Program) (w : World) (K : PySem.W.Frag) (mg : Str → Option Value) (base : Heap) (W CM : Addr) where
  f : Addr
  fd : FuncData
  m : Mk K W f
  ok : FnOk P w K mg base CX0 2 f fd ["self", "machine", "starts"] (spIni SqE K W CM)
  g : mg "Work" = some (.ref W)
  b : Binds K fd ["self", "machine", "starts"] []
theorem init_ok {wd m : Nat} {xs : List Int} : Ms.Ok wd m ⟨initR wd m xs m, fun _ => 0, 0⟩ := by
  have p0 := p2_pos wd
  refine ⟨initR_len, fun i => ?_, fun n => ⟨Int.le_refl _, p0⟩⟩
  show 0 ≤ (initR wd m xs m).getD i 0 ∧ (initR wd m xs m).getD i 0 < 2 ^ wd
  rw [initR_at]
  split
  · exact ⟨Int.emod_nonneg _ (by omega), Int.emod_lt_of_pos _ p0⟩
  · exact ⟨Int.le_refl _, p0⟩
abbrev s_results : Stmt := top 39
abbrev N_results : List Str := ["machine", "code", "starts", "work", "at", "row"]
theorem sc_results : FnScope N_results ["machine", "code", "starts"] (defScope s_results) := ⟨rfl, rfl, rfl, by decide +kernel, rfl, by decide +kernel, by decide +kernel⟩
theorem ok_results {f CM CC : Addr} {fd : FuncData} (F : Fun K "results" "results" s_results f fd) (T : Glob mg) (C : WkC K W) (WX : WorkX P w K mg base W CM) (cc : Cls K CC) (nr : NoAttr K CC "rows") (Mr : Mt P w K mg base W 4 "do_row" ["self", "at", "row"] (spDoRow K W)) : FnOk P w K mg base CX0 5 f fd ["machine", "code", "starts"] (spResults K CM CC) := by
  refine F.ok sc_results (fun vs H Q E h => ?_) (fun cdv A0 outer s0 H vs Q E hr h => ?_)
  · obtain ⟨ma, ca, st, tp, ia, fa, wd, m, xs, fl, os, rfl, _⟩ := h
    rfl
  · obtain ⟨ma, ca, st, tp, ia, fa, wd, m, xs, fl, os, rfl, hma, hca, hst, htp, hia, hfl, hxm, m3, m8, w1, w64, hos, hlen, k⟩ := h
    have nd := sc_results.nd
    have hu := hu_of hr
    refine ⟨_, (pss_cons (ps_set (i := 3) nd rfl (Or.inl rfl) (pe_make WX.m WX.ok (hr.mono (by decide)) (by rfl) WX.g WX.b .nil pass0 (pa_cons (pv 0) (pa_cons (pv 2) pa_nil))))
    (pss_cons (ps_for PassesOwn.never rfl (pi_enumT (by rfl) T.g_enumerate (pa_cons (pe_fld (pv 1) rfl) pa_nil)) (pg_tup (by rfl) (pgs_cons (pg_name (i := 4) nd rfl (Or.inl rfl)) (pgs_cons (pg_name (i := 5) nd rfl (Or.inl rfl)) pgs_nil)))
    (pss_one (ps_expr (pe_meth (pv 3) C.cl Mr.m Mr.ok (hr.mono (by decide)) Mr.b .nil pass0 (pa_cons (pv 4) (pa_cons (pv 5) pa_nil))))))
    (pss_one (ps_ret (pe_ix ix_list (pe_fld (pv 3) rfl) pe_int (fun _ _ => rfl)))))), ?_⟩
    refine ⟨_, rfl, _, rfl, fun p dx hp hdx hne => ?_⟩
    have sm0 : Same H (upd (upd H dx (.own p)) p (.ins W dx [])) := fun b o e => by rw [upd_ne (ne_of_none e hp), upd_ne (ne_of_none e hdx)]; exact e
    have I0 : Ini W dx p H (upd (upd H dx (.own p)) p (.ins W dx [])) [] := ⟨sm0, hp, upd_same⟩
    refine ⟨p, dx, ma, st, tp, ia, fa, wd, m, xs, H, rfl, I0, hma, hst, htp, hia, hxm, m3, m8, w1, w64, fun H' A eA D => ⟨rfl, ?_⟩⟩
    · obtain ⟨dc, t, as, hc, ht, hr1⟩ := id hca
      have hfl' : FlAt K H A.fa fl := by rw [eA]; exact hfl
      have hrl : (refs as).length = os.length := by rw [refs_len, hr1.len, List.length_map]
      refine ⟨_, rfl, ca, CC, dc, _, _, rfl, D.same _ _ hc, cc, nr, rfl, t, _, rfl, SqT.of (D.same _ _ ht), ?_⟩
      refine for_it walk_enumT (fun i σ H2 => ∃ (a b : Option V) (s : Wst) (A2 : Ad) (kvs : List (Key × V)), σ = [some (.ref ma), some (.ref ca), some (.ref st), some (.ref p), a, b] ∧ A2.fa = fa ∧ s.m.Ok wd m ∧ WkD W wd m H H2 s i p A2 kvs ∧ Jn wd fl os (goM wd fl 0 os ⟨initR wd m xs m, fun _ => 0, 0⟩) i s)
        ⟨none, none, _, A, [], rfl, eA, init_ok, D, .inl ⟨rfl, rfl, rfl⟩⟩ (fun i σ H2 _ ⟨_, _, _, _, _, _, _, _, D2, _⟩ => SqT.of (D2.same _ _ ht)) ?_ ?_
      · rintro i x σ H2 H3 hi ⟨a, b, s, A2, kvs, rfl, eA2, hok, D2, J⟩ ⟨Tt, y, z, rfl, hT, rfl, hy, hz⟩
        obtain rfl := Option.some.inj hy
        have hil : i < os.length := by rw [← hrl]; exact hi
        obtain ⟨q, e1, e2⟩ := hr1.at_ i os[i].rw (by rw [List.getElem?_map, List.getElem?_eq_getElem hil]; rfl)
        have ez : z = .ref q := by
          have hz' : (refs as)[i]? = some z := hz
          rw [refs_at e1] at hz'
          exact (Option.some.inj hz').symm
        subst ez
        have D3 := D2.stay (new_same (o := .tup [.int (i : Nat), .ref q]) hT)
        refine ⟨Tt, _, rfl, SqT.of upd_same, rfl, _, _, rfl, _, _, rfl, rfl, ?_⟩
        refine ⟨_, rfl, p, _, _, rfl, D3.pp, rfl, _, rfl, _, rfl, ?_⟩
        refine ⟨p, q, i, wd, m, fl, H, s, A2, kvs, os[i], os, _, rfl, e2, hos _ (List.getElem_mem hil), w1, w64, by rw [eA2]; exact hfl, hok, D3, by omega, J, List.getElem?_eq_getElem hil, fun H' s' A' kvs' eA' hok' D' J' => ?_⟩
        exact ⟨_, _, s', A', kvs', rfl, eA'.trans eA2, hok', D', J'⟩
      · rintro σ H2 ⟨a, b, s, A2, kvs, rfl, eA2, hok, D2, J⟩
        rw [hrl] at J
        have em := J.fin
        obtain ⟨t0, ht0⟩ := D2.ix (a := 0) (by omega)
        refine ⟨_, rfl, p, W, _, _, _, rfl, D2.pp, C.cl, C.registers, rfl, A2.rga, _, _, .ref t0, rfl, rfl, SqL.of D2.rg, atI_nat (j := 0) (refs_at ht0), ?_⟩
        refine k t0 H2 D2.same ?_
        rw [← em]
        exact D2.reg ht0
end
end My

set_option Elab.async false
set_option linter.all false
set_option maxRecDepth 100000
set_option maxHeartbeats 1000000
namespace MyR
open PySem PySem.Spec PyProof.Rows L2
/-! ### isinstance of a caught error that has fields -/
section
variable {X : Cx} {a D dd : Addr} {oe : Obj} {pn : List (Addr × Obj)} {pins : List (Addr × Obj)} {σ : L2.St} {H : Hp} {s : Shared} {fs : List (Str × V)}
theorem xd_inst (hz : Zc (.ref D) (some dd) oe) (hf : ∃ vs, oe.data = .fields vs) (I : Inv (X.suite a ((a, oe) :: pn)) pins σ H s) (hd : H dd = some (.xd fs)) : ∃ od, PySem.W.InstAt s.heap a oe D (some od) := by
  obtain ⟨ha, _⟩ := I.pin (a, oe) (List.mem_append_left _ List.mem_cons_self)
  obtain ⟨vs, hv⟩ := hf
  have hx : ObjOk X.prog X.w H s.heap dd (.xd fs) := I.hok dd _ hd
  obtain ⟨mA, hns, _⟩ := hx
  obtain ⟨od, ho, _⟩ := lookIn_ns hns
  exact ⟨od, ha, hz.1, by unfold PySem.W.notCls; rw [hv] <;> rfl, by rw [hz.2]; exact ho⟩
def clsV : V → Value
  | .ref C => .ref C
  | _ => .none
/-- isinstance(e, C), isinstance(e, (C, ..)) -/
def rIsD (K : PySem.W.Frag) (D a dd : Addr) : List V → Hp → VK → Prop := fun xs H Q => ∃ (fs : List (Str × V)) (b : Bool), H dd = some (.xd fs) ∧ Q (.bl b) H ∧
  ((∃ C : Addr, xs = [.ref a, .ref C] ∧ PySem.W.kitOne K (.ref D) (.ref C) = some b) ∨ ∃ (t : Addr) (Cs : List Addr), xs = [.ref a, .ref t] ∧ H t = some (.tup (Cs.map V.ref)) ∧ PySem.W.kitAny K (.ref D) (Cs.map Value.ref) = some b)
theorem refs_vals : ∀ {Cs : List Addr} {us : List Value}, Vals (Cs.map V.ref) us → us = Cs.map Value.ref
  | [], _, .nil => rfl
  | C :: Cs, _, .cons h t => by
    obtain rfl := (show _ = Value.ref C from h)
    rw [List.map_cons, ← refs_vals t]
theorem call_isD (C : ExcC X.K D) (hz : Zc (.ref D) (some dd) oe) (hf : ∃ vs, oe.data = .fields vs) : CallR (X.suite a ((a, oe) :: pn)) (.builtin "isinstance") (rIsD X.K D a dd) := by
  intro pins s σ H xs us Q I r h
  obtain ⟨fs, b, hd, q, h⟩ := h
  obtain ⟨od, J⟩ := xd_inst hz hf I hd
  have hcl : (PySem.W.clsIn X.K D).isSome = true := by
    have := C.hd
    unfold PySem.W.hasDictIn at this
    obtain ⟨cd, hc, _⟩ := PySem.W.any_some this
    rw [hc]
    rfl
  rcases h with ⟨E, rfl, e⟩ | ⟨t, Cs, rfl, ht, e⟩
  · cases r with
    | cons rx rr =>
    cases rr with
    | cons rt rr =>
    cases rr
    cases rx
    cases rt
    exact PySem.W.kia_one (PySem.W.kitx_exc hcl C.hg C.hk C.hs C.ha C.hn C.ht C.hm) I.kIn J e (fun z => nomatch z) fun tk => ⟨.bl b, H, I.kept (t' := tk) fun _ _ z => z, rfl, q⟩
  · cases r with
    | cons rx rr =>
    cases rr with
    | cons rt rr =>
    cases rr
    cases rx
    cases rt
    have hx : ObjOk X.prog X.w H s.heap t (.tup (Cs.map V.ref)) := I.hok t _ ht
    obtain ⟨_, its, rv, tup⟩ := hx
    obtain rfl := refs_vals rv
    obtain ⟨⟨oc, odd, odt, osl⟩, h1, h2, n, h3⟩ := tup
    dsimp only at h2 h3
    subst h2 h3
    exact PySem.W.kia_tup (PySem.W.kitx_exc hcl C.hg C.hk C.hs C.ha C.hn C.ht C.hm) I.kIn J h1 e (fun z => nomatch z) fun tk => ⟨.bl b, H, I.kept (t' := tk) fun _ _ z => z, rfl, q⟩
end
end MyR

set_option pp.maxSteps 400
set_option Elab.async false
set_option linter.all false
set_option maxRecDepth 100000
set_option maxHeartbeats 1000000
namespace My
open PySem L2 MyR
/-! ### the error -/
def spInv (cI : Addr) : Sp := fun vs H Q _ => ∃ (a : Addr) (y z : V), vs = [.ref a, y, z] ∧ H a = some (exo a cI none) ∧
  ∀ (d : Addr) H', H d = none → H' a = some (exo a cI (some d)) → H' d = some (exd d [("row", z), ("word", y)]) → (∀ b o, H b = some o → b ≠ a → H' b = some o) → Q .non H'
structure ErrI (P : Program) (w : World) (K : PySem.W.Frag) (mg : Str → Option Value) (base : Heap) (cI : Addr) where
  f : Addr
  fd : FuncData
  x : OexC K cI
  i : PySem.W.findIn K (.ref cI) "__init__" = some (some (.ref f))
  t : PySem.W.typeIn K (.ref f) = some (.type "function")
  ok : FnOk P w K mg base CX0 1 f fd ["self", "word", "row"] (spInv cI)
  b : Binds K fd ["self", "word", "row"] []
  g : mg "InvalidCode" = some (.ref cI)

/-! ### registers of rows -/
def Op.form : Op → Str
  | .set _ _ => "WI"
  | .copy _ _ => "WR"
  | .add _ _ _ => "WRR"
  | .sub _ _ _ => "WRR"
  | .mul _ _ _ => "WRR"
  | .left _ _ => "WR"
  | .right _ _ => "WR"
  | .load _ _ => "WS"
  | .store _ _ => "SR"
  | .skip _ _ _ _ => "RMCN"
def Op.regs : Op → List Int
  | .set a _ => [(a : Int)]
  | .copy a b => [(a : Int), (b : Int)]
  | .add a b c => [(a : Int), (b : Int), (c : Int)]
  | .sub a b c => [(a : Int), (b : Int), (c : Int)]
  | .mul a b c => [(a : Int), (b : Int), (c : Int)]
  | .left a b => [(a : Int), (b : Int)]
  | .right a b => [(a : Int), (b : Int)]
  | .load a _ => [(a : Int)]
  | .store _ a => [(a : Int)]
  | .skip a _ _ _ => [(a : Int)]
theorem forms_of (o : Op) : (o.rw.w, o.form) ∈ forms := by
  cases o <;> (first | exact (show (("set" : Str), ("WI" : Str)) ∈ forms by decide +kernel) | exact (show (("copy" : Str), ("WR" : Str)) ∈ forms by decide +kernel) | exact (show (("add" : Str), ("WRR" : Str)) ∈ forms by decide +kernel) | exact (show (("sub" : Str), ("WRR" : Str)) ∈ forms by decide +kernel) | exact (show (("mul" : Str), ("WRR" : Str)) ∈ forms by decide +kernel) | exact (show (("left" : Str), ("WR" : Str)) ∈ forms by decide +kernel) | exact (show (("right" : Str), ("WR" : Str)) ∈ forms by decide +kernel) | exact (show (("load" : Str), ("WS" : Str)) ∈ forms by decide +kernel) | exact (show (("store" : Str), ("SR" : Str)) ∈ forms by decide +kernel) | exact (show (("skip" : Str), ("RMCN" : Str)) ∈ forms by decide +kernel))
def wrB (c : Nat) : Bool := decide (c ∈ [87, 82])
def regsTo (cs : List Nat) (xs : List Int) (i : Nat) : List Int := (((cs.zip xs).take i).filter fun p => wrB p.1).map (·.2)
theorem regsTo_step {cs : List Nat} {xs : List Int} {i c : Nat} {z : Int} (hc : cs[i]? = some c) (hz : xs[i]? = some z) : regsTo cs xs (i + 1) = regsTo cs xs i ++ (if wrB c = true then [z] else []) := by
  unfold regsTo
  have e : (cs.zip xs)[i]? = some (c, z) := by
    rw [List.getElem?_zip_eq_some]
    exact ⟨hc, hz⟩
  rw [List.take_add_one, e, Option.toList_some, List.filter_append, List.map_append]
  congr 1
  cases h : wrB c
  · rw [List.filter_cons_of_neg (by rw [h]; intro z; cases z)]
    rfl
  · rw [show List.filter (fun p : Nat × Int => wrB p.fst) [(c, z)] = [(c, z)] from List.filter_cons_of_pos (p := fun p : Nat × Int => wrB p.fst) (a := (c, z)) (l := []) h]
    rfl
theorem f_WI : ("WI" : Str).cps = #[87, 73] := by decide +kernel
theorem f_WR : ("WR" : Str).cps = #[87, 82] := by decide +kernel
theorem f_WRR : ("WRR" : Str).cps = #[87, 82, 82] := by decide +kernel
theorem f_WS : ("WS" : Str).cps = #[87, 83] := by decide +kernel
theorem f_SR : ("SR" : Str).cps = #[83, 82] := by decide +kernel
theorem f_RMCN : ("RMCN" : Str).cps = #[82, 77, 67, 78] := by decide +kernel
theorem form_cps (o : Op) : o.form.cps.toList.length = o.rw.xs.length ∧ regsTo o.form.cps.toList o.rw.xs o.rw.xs.length = o.regs := by
  cases o with
  | set a n => show ("WI" : Str).cps.toList.length = 2 ∧ regsTo ("WI" : Str).cps.toList [(a : Int), n] 2 = [(a : Int)]; rw [f_WI]; exact ⟨rfl, rfl⟩
  | copy a b => show ("WR" : Str).cps.toList.length = 2 ∧ regsTo ("WR" : Str).cps.toList [(a : Int), (b : Int)] 2 = [(a : Int), (b : Int)]; rw [f_WR]; exact ⟨rfl, rfl⟩
  | left a b => show ("WR" : Str).cps.toList.length = 2 ∧ regsTo ("WR" : Str).cps.toList [(a : Int), (b : Int)] 2 = [(a : Int), (b : Int)]; rw [f_WR]; exact ⟨rfl, rfl⟩
  | right a b => show ("WR" : Str).cps.toList.length = 2 ∧ regsTo ("WR" : Str).cps.toList [(a : Int), (b : Int)] 2 = [(a : Int), (b : Int)]; rw [f_WR]; exact ⟨rfl, rfl⟩
  | add a b c => show ("WRR" : Str).cps.toList.length = 3 ∧ regsTo ("WRR" : Str).cps.toList [(a : Int), (b : Int), (c : Int)] 3 = [(a : Int), (b : Int), (c : Int)]; rw [f_WRR]; exact ⟨rfl, rfl⟩
  | sub a b c => show ("WRR" : Str).cps.toList.length = 3 ∧ regsTo ("WRR" : Str).cps.toList [(a : Int), (b : Int), (c : Int)] 3 = [(a : Int), (b : Int), (c : Int)]; rw [f_WRR]; exact ⟨rfl, rfl⟩
  | mul a b c => show ("WRR" : Str).cps.toList.length = 3 ∧ regsTo ("WRR" : Str).cps.toList [(a : Int), (b : Int), (c : Int)] 3 = [(a : Int), (b : Int), (c : Int)]; rw [f_WRR]; exact ⟨rfl, rfl⟩
  | load a s => show ("WS" : Str).cps.toList.length = 2 ∧ regsTo ("WS" : Str).cps.toList [(a : Int), s] 2 = [(a : Int)]; rw [f_WS]; exact ⟨rfl, rfl⟩
  | store s a => show ("SR" : Str).cps.toList.length = 2 ∧ regsTo ("SR" : Str).cps.toList [s, (a : Int)] 2 = [(a : Int)]; rw [f_SR]; exact ⟨rfl, rfl⟩
  | skip a m c n => show ("RMCN" : Str).cps.toList.length = 4 ∧ regsTo ("RMCN" : Str).cps.toList [(a : Int), m, c, (n : Int)] 4 = [(a : Int)]; rw [f_RMCN]; exact ⟨rfl, rfl⟩
theorem regs_few (o : Op) : o.regs.length ≤ 3 := by cases o <;> simp [Op.regs]
theorem xs_few (o : Op) : o.rw.xs.length ≤ 4 := by cases o <;> simp [Op.rw]
theorem ok_regs {m k : Nat} {o : Op} (h : o.ok k) : o.ok m ↔ ∀ r ∈ o.regs, r < (m : Int) := by
  cases o <;> simp only [Op.regs, List.mem_cons, List.not_mem_nil, or_false, forall_eq_or_imp, forall_eq] <;> (constructor <;> intro h2)
  · have := h2.1; omega
  · exact ⟨by omega, h.2⟩
  · have a := h2.1; have b := h2.2; exact ⟨by omega, by omega⟩
  · exact ⟨by omega, by omega⟩
  · have a := h2.1; have b := h2.2.1; have c := h2.2.2; exact ⟨by omega, by omega, by omega⟩
  · exact ⟨by omega, by omega, by omega⟩
  · have a := h2.1; have b := h2.2.1; have c := h2.2.2; exact ⟨by omega, by omega, by omega⟩
  · exact ⟨by omega, by omega, by omega⟩
  · have a := h2.1; have b := h2.2.1; have c := h2.2.2; exact ⟨by omega, by omega, by omega⟩
  · exact ⟨by omega, by omega, by omega⟩
  · have a := h2.1; have b := h2.2; exact ⟨by omega, by omega⟩
  · exact ⟨by omega, by omega⟩
  · have a := h2.1; have b := h2.2; exact ⟨by omega, by omega⟩
  · exact ⟨by omega, by omega⟩
  · have := h2.1; omega
  · exact ⟨by omega, h.2⟩
  · have := h2.1; omega
  · exact ⟨by omega, h.2⟩
  · have := h2.1; omega
  · exact ⟨by omega, h.2⟩
/-- one of its registers is not there -/
def badB (m : Nat) (o : Op) : Bool := (o.regs.map fun r => decide ((m : Int) ≤ r)).any id
theorem badB_ok {m k : Nat} {o : Op} (h : o.ok k) : badB m o = false ↔ o.ok m := by
  rw [ok_regs h]
  unfold badB
  rw [Bool.eq_false_iff]
  constructor
  · intro h2 r hr
    by_cases e : r < (m : Int)
    · exact e
    · exact absurd (List.any_eq_true.mpr ⟨true, List.mem_map.mpr ⟨r, hr, decide_eq_true (by omega)⟩, rfl⟩) h2
  · intro h2 h3
    obtain ⟨b, hb, hb2⟩ := List.any_eq_true.mp h3
    obtain ⟨r, hr, e⟩ := List.mem_map.mp hb
    have := h2 r hr
    have hb3 : b = true := hb2
    rw [hb3] at e
    have := of_decide_eq_true e
    omega
def spRegs : Sp := fun vs H Q _ => ∃ (q : Addr) (o : Op), vs = [.ref q] ∧ RowAt H o.rw q ∧ ∀ D H', Same H H' → H' D = some (.lst (o.regs.map V.int)) → Q (.ref D) H'
def spChk (CM CC : Addr) : Sp := fun vs H Q _ => ∃ (ma ca : Addr) (wd : Int) (m : Nat) (os : List Op), vs = [.ref ma, .ref ca] ∧ MachAt CM H wd (m : Int) ma ∧ CodeAt CC H (os.map Op.rw) ca ∧ (∀ o ∈ os, badB m o = false) ∧ ∀ H', Same H H' → Q .non H'
def spChkX (CM CC cI : Addr) : Sp := fun vs H Q E => ∃ (ma ca : Addr) (wd : Int) (m : Nat) (os : List Op) (i : Nat), vs = [.ref ma, .ref ca] ∧ MachAt CM H wd (m : Int) ma ∧ CodeAt CC H (os.map Op.rw) ca ∧ (∀ o ∈ os.take i, badB m o = false) ∧ (∃ o, os[i]? = some o ∧ badB m o = true) ∧
  ∀ (d : Addr) H', Same H H' → H' d = some (.xd [("row", .int (i : Int)), ("word", .str "register")]) → E (.ref cI) (some d) H'
section
variable {P : Program} {w : World} {K : PySem.W.Frag} {mg : Str → Option Value} {base : Heap}
abbrev s_InvalidCode_init : Stmt := inClass (top 4) 0
abbrev N_InvalidCode_init : List Str := ["self", "word", "row"]
theorem sc_InvalidCode_init : FnScope N_InvalidCode_init ["self", "word", "row"] (defScope s_InvalidCode_init) := ⟨rfl, rfl, rfl, by decide +kernel, rfl, by decide +kernel, by decide +kernel⟩
theorem ok_InvalidCode_init {f cI : Addr} {fd : FuncData} (F : Fun K "__init__" "InvalidCode.__init__" s_InvalidCode_init f fd) (x : OexC K cI) (n1 : PySem.W.findIn K (.ref cI) "word" = some none) (n2 : PySem.W.findIn K (.ref cI) "row" = some none) : FnOk P w K mg base CX0 1 f fd ["self", "word", "row"] (spInv cI) := by
  refine F.ok sc_InvalidCode_init (fun vs H Q E h => ?_) (fun cdv A outer s H vs Q E hr h => ?_)
  · obtain ⟨a, y, z, rfl, _⟩ := h
    rfl
  · obtain ⟨a, y, z, rfl, ha, k⟩ := h
    refine ⟨_, (pss_cons (ps_ost (pv 0) (pv 1))
    (pss_one (ps_ost (pv 0) (pv 2)))), ?_⟩
    refine ⟨_, rfl, _, rfl, a, cI, rfl, x, n1, .inl ⟨ha, fun dx hdx hne => ?_⟩⟩
    refine ⟨_, rfl, _, rfl, a, cI, rfl, x, n2, .inr ⟨dx, _, upd_same, by rw [upd_ne hne]; exact upd_same, (by show 1 ≤ 900; decide), ?_⟩⟩
    refine k dx _ hdx (by rw [upd_ne (Ne.symm hne)]; exact upd_same) upd_same fun b o e hb => ?_
    have nb := ne_of_none e hdx
    rw [upd_ne nb, upd_ne hb, upd_ne nb]
    exact e
abbrev s_registers_of : Stmt := top 19
abbrev N_registers_of : List Str := ["row", "letter", "number"]
theorem sc_registers_of : FnScope N_registers_of ["row"] (defScope s_registers_of) := ⟨rfl, rfl, rfl, by decide +kernel, rfl, by decide +kernel, by decide +kernel⟩
theorem ok_registers_of {f : Addr} {fd : FuncData} (F : Fun K "registers_of" "registers_of" s_registers_of f fd) (T : Glob mg) (T2 : Tabs w K mg) : FnOk P w K mg base CX0 1 f fd ["row"] spRegs := by
  obtain ⟨aF, hF, ⟨es, n0, DF⟩, hFs⟩ := T2.forms
  refine F.ok sc_registers_of (fun vs H Q E h => ?_) (fun cdv A outer s H vs Q E hr h => ?_)
  · obtain ⟨q, o, rfl, _⟩ := h
    rfl
  · obtain ⟨q, o, rfl, hq, k⟩ := h
    have nd := sc_registers_of.nd
    refine ⟨_, (pss_one (ps_ret (pe_lc (own := [("letter", 1), ("number", 2)]) (g := gTup K 2 (gCons (gName 1) (gCons (gName 2) gNil))) rfl nd (pi_zipST (by rfl) T.g_zip (pa_cons (pe_ix ix_kdict (pe_glob (v := .ref aF) rfl hF rfl) (pe_ix ix_tup (pv 0) pe_int (fun _ _ => rfl)) (fun _ _ => rfl)) (pa_cons (pe_slice sl_tup (pv 0) (po_some pe_int) po_none) pa_nil))) (blkOk_by (N := N_registers_of) (sc := defScope s_registers_of) (by decide +kernel)) (fun _ _ _ _ _ => pg_tup (by rfl) (pgs_cons (pg_name (i := 1) nd rfl (Or.inl rfl)) (pgs_cons (pg_name (i := 2) nd rfl (Or.inl rfl)) pgs_nil))) (fun _ _ _ _ _ => pts_one (pt_cmpR op_in_sign (pv 1) pe_str (by rfl))) (fun _ _ _ _ _ => (pv 2))))), ?_⟩
    obtain ⟨hlen, hreg⟩ := form_cps o
    have h4 := xs_few o
    have hvs : o.rw.vs = .str o.rw.w :: o.rw.xs.map V.int := rfl
    refine ⟨_, rfl, q, _, _, .str o.rw.w, rfl, rfl, SqT.of hq, atI_nat (j := 0) rfl, aF, o.rw.w, .str o.form, rfl, rfl, hFs _ _ (forms_of o), ?_⟩
    refine ⟨_, rfl, _, rfl, q, _, rfl, SqT.of hq, not_whole_tail _ _, fun u hu => ?_⟩
    rw [show cutV o.rw.vs (some 1) none = o.rw.xs.map V.int from cut_tail _ _]
    refine ⟨o.form, u, _, rfl, SqT.of upd_same, fun D hD => ?_⟩
    have nuD : u ≠ D := fun e => by rw [e, upd_same] at hD; cases hD
    have hDH : H D = none := by rw [← upd_ne (H := H) (Ne.symm nuD)]; exact hD
    refine lc_it (walk_zipST (by rw [List.length_map, ← hlen, Array.length_toList])) (fun i H1 => Same H H1 ∧ H1 u = some (.tup (o.rw.xs.map V.int)) ∧ H1 D = some (.lst ((regsTo o.form.cps.toList o.rw.xs i).map V.int))) ⟨fun b o e => by rw [upd_ne (ne_of_none e hDH), upd_ne (ne_of_none e hu)]; exact e, by rw [upd_ne nuD, upd_same], upd_same⟩ (fun i H1 _ h1 => SqT.of h1.2.1) ?_ ?_
    · rintro i v H1 H2 hi ⟨sm, h1, h2⟩ ⟨Tt, x, y, rfl, hT, rfl, hx, hy⟩
      rw [List.length_map] at hi
      replace hx : (o.form.cps[i]?).map (fun c => V.str ⟨#[c]⟩) = some x := hx
      replace hy : (o.rw.xs.map V.int)[i]? = some y := hy
      obtain ⟨c, hc, rfl⟩ : ∃ c, o.form.cps[i]? = some c ∧ x = V.str (sg c) := by
        cases e : o.form.cps[i]? with
        | none => rw [e] at hx; cases hx
        | some c => rw [e] at hx; exact ⟨c, rfl, (Option.some.inj hx).symm⟩
      obtain ⟨z, hz, rfl⟩ : ∃ z, o.rw.xs[i]? = some z ∧ y = V.int z := by
        rw [List.getElem?_map] at hy
        cases e : o.rw.xs[i]? with
        | none => rw [e] at hy; cases hy
        | some z => rw [e] at hy; exact ⟨z, rfl, (Option.some.inj hy).symm⟩
      have nuT : u ≠ Tt := ne_of_none h1 hT
      have nDT : D ≠ Tt := ne_of_none h2 hT
      have hc' : o.form.cps.toList[i]? = some c := by rw [Array.getElem?_toList]; exact hc
      have sm2 : Same H (upd H1 Tt (.tup [.str (sg c), .int z])) := sm.trans (new_same hT)
      have st := regsTo_step hc' hz
      refine ⟨Tt, _, rfl, SqT.of upd_same, rfl, _, _, rfl, _, _, rfl, rfl, rfl, ?_⟩
      refine ⟨_, rfl, c, _, rfl, rfl, ?_⟩
      rw [show decide (c ∈ ("WR" : Str).cps.toList) = wrB c by rw [wr_cps]; rfl]
      cases hw : wrB c with
      | true =>
        rw [hw, if_pos rfl] at st
        refine ⟨_, rfl, iteT ?_⟩
        refine ⟨_, rfl, _, by rw [upd_ne nDT]; exact h2, ?_, fun b p e => ?_, ?_, ?_⟩
        · rw [List.length_map]
          have : (regsTo o.form.cps.toList o.rw.xs i).length ≤ 4 := by
            unfold regsTo
            rw [List.length_map]
            exact Nat.le_trans (List.length_filter_le _ _) (by rw [List.length_take]; omega)
          exact small1000 (by omega)
        · rw [upd_ne (ne_of_none e hDH)]
          exact sm2 b p e
        · rw [upd_ne nuD, upd_ne nuT]
          exact h1
        · rw [upd_same, st, List.map_append]
          rfl
      | false =>
        rw [hw, if_neg (by decide), List.append_nil] at st
        refine ⟨_, rfl, iteF ⟨sm2, by rw [upd_ne nuT]; exact h1, ?_⟩⟩
        rw [upd_ne nDT, st]
        exact h2
    · rintro H1 ⟨sm, h1, h2⟩
      rw [List.length_map, hreg] at h2
      exact k D H1 sm h2
abbrev s_check_registers : Stmt := top 41
abbrev N_check_registers : List Str := ["machine", "code", "at", "row", "number"]
theorem sc_check_registers : FnScope N_check_registers ["machine", "code"] (defScope s_check_registers) := ⟨rfl, rfl, rfl, by decide +kernel, rfl, by decide +kernel, by decide +kernel⟩
theorem ok_check_registers {f CM CC : Addr} {fd : FuncData} (F : Fun K "check_registers" "check_registers" s_check_registers f fd) (T : Glob mg) (g_any : mg "any" = none) (cc : Cls K CC) (nr : NoAttr K CC "rows") (cm : Cls K CM) (nm : NoAttr K CM "registers") (D_registers_of : Df P w K mg base 1 "registers_of" ["row"] spRegs) : FnOk P w K mg base CX0 2 f fd ["machine", "code"] (spChk CM CC) := by
  refine F.ok sc_check_registers (fun vs H Q E h => ?_) (fun cdv A outer s H vs Q E hr h => ?_)
  · obtain ⟨ma, ca, wd, m, os, rfl, _⟩ := h
    rfl
  · obtain ⟨ma, ca, wd, m, os, rfl, hma, hca, hok, k⟩ := h
    have nd := sc_check_registers.nd
    refine ⟨_, (pss_one (ps_for PassesOwn.never rfl (pi_enumT (by rfl) T.g_enumerate (pa_cons (pe_fld (pv 1) rfl) pa_nil)) (pg_tup (by rfl) (pgs_cons (pg_name (i := 2) nd rfl (Or.inl rfl)) (pgs_cons (pg_name (i := 3) nd rfl (Or.inl rfl)) pgs_nil)))
    (pss_one (ps_if (pt_val (pe_callB (cr_any rfl) (by rfl) g_any (by decide +kernel) (pa_cons (pe_lc (own := [("number", 4)]) (g := gName 4) (tt := tYes) rfl nd (pi_list (pe_call D_registers_of.ok (hr.mono (by decide)) (by rfl) D_registers_of.g D_registers_of.kp D_registers_of.b .nil pass0 (pa_cons (pv 3) pa_nil))) (blkOk_by (N := N_check_registers) (sc := defScope s_check_registers) (by decide +kernel)) (fun _ _ _ _ _ => pg_name (i := 4) nd rfl (Or.inl rfl)) (fun _ _ _ _ _ => pts_nil) (fun _ _ _ _ _ => (pe_cmpR op_ge (pv 4) (pe_fldN (K := K) rfl (pv 0) rfl) (nomark _)))) pa_nil)))
    (pss_one ps_never)
    pss_nil)))), ?_⟩
    obtain ⟨dm, hma⟩ := id hma
    obtain ⟨dc, t, as, hc, ht, hr1⟩ := id hca
    have hrl : (refs as).length = os.length := by rw [refs_len, hr1.len, List.length_map]
    refine ⟨_, rfl, ca, CC, dc, _, _, rfl, hc, cc, nr, rfl, t, _, rfl, SqT.of ht, ?_⟩
    refine for_it walk_enumT (fun i σ H2 => ∃ a b : Option V, σ = [some (.ref ma), some (.ref ca), a, b, none] ∧ Same H H2) ⟨none, none, rfl, Same.refl _⟩ (fun i σ H2 _ ⟨_, _, _, sm⟩ => SqT.of (sm _ _ ht)) ?_ ?_
    · rintro i x σ H2 H3 hi ⟨a, b, rfl, sm⟩ ⟨Tt, y, z, rfl, hT, rfl, hy, hz⟩
      obtain rfl := Option.some.inj hy
      have hil : i < os.length := by rw [← hrl]; exact hi
      obtain ⟨q, e1, e2⟩ := hr1.at_ i os[i].rw (by rw [List.getElem?_map, List.getElem?_eq_getElem hil]; rfl)
      have ez : z = .ref q := by
        have hz' : (refs as)[i]? = some z := hz
        rw [refs_at e1] at hz'
        exact (Option.some.inj hz').symm
      subst ez
      have sm3 : Same H (upd H2 Tt (.tup [.int (i : Nat), .ref q])) := sm.trans (new_same hT)
      refine ⟨Tt, _, rfl, SqT.of upd_same, rfl, _, _, rfl, _, _, rfl, rfl, ?_⟩
      generalize upd H2 Tt (.tup [.int (i : Nat), .ref q]) = H4 at sm3 ⊢
      refine ⟨_, rfl, q, os[i], rfl, e2.same sm3, fun L H5 sm5 hL => ?_⟩
      refine ⟨L, rfl, ⟨_, SqL.of hL⟩, fun D hD => ?_⟩
      have hDL : L ≠ D := ne_of_none hL hD
      have h3 := regs_few os[i]
      refine lc_list (xs := os[i].regs.map V.int) (fun j H6 => Same H5 H6 ∧ H6 D = some (.lst (((os[i].regs.take j).map fun r => decide ((m : Int) ≤ r)).map V.bl))) ⟨new_same hD, upd_same⟩ (fun j H6 _ h => SqL.of (h.1 _ _ hL)) ?_ ?_
      · rintro j x H6 hx ⟨sm6, h6⟩
        rw [List.getElem?_map] at hx
        obtain ⟨r, hr2, rfl⟩ : ∃ r, os[i].regs[j]? = some r ∧ x = V.int r := by
          cases e : os[i].regs[j]? with
          | none => rw [e] at hx; cases hx
          | some r => rw [e] at hx; exact ⟨r, rfl, (Option.some.inj hx).symm⟩
        refine ⟨rfl, ?_⟩
        refine ⟨_, rfl, _, rfl, ma, CM, dm, _, _, rfl, sm6 _ _ (sm5 _ _ (sm3 _ _ hma)), cm, nm, rfl, _, _, rfl, rfl, ?_⟩
        refine ⟨_, h6, by rw [List.length_map, List.length_map, List.length_take]; exact small1000 (by omega), fun b o e => ?_, ?_⟩
        · rw [upd_ne (ne_of_none e hD)]
          exact sm6 b o e
        · rw [upd_same, List.take_add_one, hr2, Option.toList_some, List.map_append, List.map_append]
          rfl
      rintro H6 ⟨sm6, h6⟩
      rw [List.length_map, List.take_length] at h6
      have smA := (sm3.trans sm5).trans sm6
      refine ⟨D, _, rfl, SqL.of h6, ?_⟩
      refine ⟨_, rfl, ?_⟩
      show (if badB m os[i] = true then _ else _)
      rw [hok _ (List.getElem_mem hil)]
      exact iteF ⟨_, _, rfl, smA⟩
    · rintro σ H2 ⟨a, b, rfl, sm⟩
      exact k H2 sm
theorem okX_check_registers {f CM CC cI : Addr} {fd : FuncData} (F : Fun K "check_registers" "check_registers" s_check_registers f fd) (T : Glob mg) (g_any : mg "any" = none) (cc : Cls K CC) (nr : NoAttr K CC "rows") (cm : Cls K CM) (nm : NoAttr K CM "registers") (EI : ErrI P w K mg base cI) (D_registers_of : Df P w K mg base 1 "registers_of" ["row"] spRegs) : FnOk P w K mg base (L2.CX P w) 3 f fd ["machine", "code"] (spChkX CM CC cI) := by
  refine F.okX sc_check_registers (fun vs H Q E h => ?_) (fun cdv A outer s H vs Q E hr h => ?_)
  · obtain ⟨ma, ca, wd, m, os, i, rfl, _⟩ := h
    rfl
  · obtain ⟨ma, ca, wd, m, os, n, rfl, hma, hca, hok, ⟨o1, ho1, hb1⟩, k⟩ := h
    have nd := sc_check_registers.nd
    refine ⟨_, (pss_one (ps_for (passes_of rfl) rfl (pi_enumT (by rfl) T.g_enumerate (pa_cons (pe_fld (pv 1) rfl) pa_nil)) (pg_tup (by rfl) (pgs_cons (pg_name (i := 2) nd rfl (Or.inl rfl)) (pgs_cons (pg_name (i := 3) nd rfl (Or.inl rfl)) pgs_nil)))
    (pss_one (ps_if (pt_val (pe_callB (cr_any rfl) (by rfl) g_any (by decide +kernel) (pa_cons (pe_lc (own := [("number", 4)]) (g := gName 4) (tt := tYes) rfl nd (pi_list (pe_call D_registers_of.ok (hr.mono (by decide)) (by rfl) D_registers_of.g D_registers_of.kp D_registers_of.b .nil pass0 (pa_cons (pv 3) pa_nil))) (blkOk_by (N := N_check_registers) (sc := defScope s_check_registers) (by decide +kernel)) (fun _ _ _ _ _ => pg_name (i := 4) nd rfl (Or.inl rfl)) (fun _ _ _ _ _ => pts_nil) (fun _ _ _ _ _ => (pe_cmpR op_ge (pv 4) (pe_fldN (K := K) rfl (pv 0) rfl) (nomark _)))) pa_nil)))
    (pss_one (ps_raise rfl (takes_of rfl rfl rfl rfl) (pmk_oex EI.x EI.i EI.t EI.ok (hr.mono (by decide)) EI.b .nil pass0 (by rfl) EI.g (pa_cons pe_str (pa_cons (pv 2) pa_nil)))))
    pss_nil)))), ?_⟩
    have hn : n < os.length := (List.getElem?_eq_some_iff.mp ho1).1
    have bad : ∀ (H1 : Hp), Same H H1 → ∀ x, H1 x = none → spInv cI [.ref x, .str "register", .int (n : Int)] (upd H1 x (exo x cI none))
        (fun v H2 => v = .non ∧ ∃ (d : Addr) (fs : List (Str × V)), H2 x = some (exo x cI (some d)) ∧ H2 d = some (exd d fs) ∧ H1 d = none ∧ E (.ref cI) (some d) (upd (del H2 x) d (.xd fs))) (fun _ _ _ => False) := by
      intro H1 sm x hx
      refine ⟨x, _, _, rfl, upd_same, fun d2 H2 hd2 e1 e2 keep => ⟨rfl, d2, _, e1, e2, ?_, ?_⟩⟩
      · by_cases e : d2 = x
        · rw [e]; exact hx
        · rw [upd_ne e] at hd2; exact hd2
      · refine k d2 _ (fun b o e => ?_) upd_same
        have e1' := sm b o e
        have nbx := ne_of_none e1' hx
        have hd2' : H1 d2 = none := by
          by_cases e : d2 = x
          · rw [e]; exact hx
          · rw [upd_ne e] at hd2; exact hd2
        have nbd := ne_of_none e1' hd2'
        rw [upd_ne nbd, del_ne nbx]
        exact keep b o (by rw [upd_ne nbx]; exact e1') nbx
    obtain ⟨dm, hma⟩ := id hma
    obtain ⟨dc, t, as, hc, ht, hr1⟩ := id hca
    have hrl : (refs as).length = os.length := by rw [refs_len, hr1.len, List.length_map]
    refine ⟨_, rfl, ca, CC, dc, _, _, rfl, hc, cc, nr, rfl, t, _, rfl, SqT.of ht, ?_⟩
    refine for_it walk_enumT (fun i σ H2 => ∃ a b : Option V, σ = [some (.ref ma), some (.ref ca), a, b, none] ∧ Same H H2 ∧ i ≤ n) ⟨none, none, rfl, Same.refl _, Nat.zero_le _⟩ (fun i σ H2 _ ⟨_, _, _, sm, hin⟩ => SqT.of (sm _ _ ht)) ?_ ?_
    · rintro i x σ H2 H3 hi ⟨a, b, rfl, sm, hin⟩ ⟨Tt, y, z, rfl, hT, rfl, hy, hz⟩
      obtain rfl := Option.some.inj hy
      have hil : i < os.length := by rw [← hrl]; exact hi
      obtain ⟨q, e1, e2⟩ := hr1.at_ i os[i].rw (by rw [List.getElem?_map, List.getElem?_eq_getElem hil]; rfl)
      have ez : z = .ref q := by
        have hz' : (refs as)[i]? = some z := hz
        rw [refs_at e1] at hz'
        exact (Option.some.inj hz').symm
      subst ez
      have sm3 : Same H (upd H2 Tt (.tup [.int (i : Nat), .ref q])) := sm.trans (new_same hT)
      refine ⟨Tt, _, rfl, SqT.of upd_same, rfl, _, _, rfl, _, _, rfl, rfl, ?_⟩
      generalize upd H2 Tt (.tup [.int (i : Nat), .ref q]) = H4 at sm3 ⊢
      refine ⟨_, rfl, q, os[i], rfl, e2.same sm3, fun L H5 sm5 hL => ?_⟩
      refine ⟨L, rfl, ⟨_, SqL.of hL⟩, fun D hD => ?_⟩
      have hDL : L ≠ D := ne_of_none hL hD
      have h3 := regs_few os[i]
      refine lc_list (xs := os[i].regs.map V.int) (fun j H6 => Same H5 H6 ∧ H6 D = some (.lst (((os[i].regs.take j).map fun r => decide ((m : Int) ≤ r)).map V.bl))) ⟨new_same hD, upd_same⟩ (fun j H6 _ h => SqL.of (h.1 _ _ hL)) ?_ ?_
      · rintro j x H6 hx ⟨sm6, h6⟩
        rw [List.getElem?_map] at hx
        obtain ⟨r, hr2, rfl⟩ : ∃ r, os[i].regs[j]? = some r ∧ x = V.int r := by
          cases e : os[i].regs[j]? with
          | none => rw [e] at hx; cases hx
          | some r => rw [e] at hx; exact ⟨r, rfl, (Option.some.inj hx).symm⟩
        refine ⟨rfl, ?_⟩
        refine ⟨_, rfl, _, rfl, ma, CM, dm, _, _, rfl, sm6 _ _ (sm5 _ _ (sm3 _ _ hma)), cm, nm, rfl, _, _, rfl, rfl, ?_⟩
        refine ⟨_, h6, by rw [List.length_map, List.length_map, List.length_take]; exact small1000 (by omega), fun b o e => ?_, ?_⟩
        · rw [upd_ne (ne_of_none e hD)]
          exact sm6 b o e
        · rw [upd_same, List.take_add_one, hr2, Option.toList_some, List.map_append, List.map_append]
          rfl
      rintro H6 ⟨sm6, h6⟩
      rw [List.length_map, List.take_length] at h6
      have smA := (sm3.trans sm5).trans sm6
      refine ⟨D, _, rfl, SqL.of h6, ?_⟩
      refine ⟨_, rfl, ?_⟩
      show (if badB m os[i] = true then _ else _)
      by_cases e : i = n
      · subst e
        have eo : o1 = os[i] := by
          rw [List.getElem?_eq_getElem hil] at ho1
          exact (Option.some.inj ho1).symm
        rw [← eo, hb1]
        refine iteT ?_
        exact ⟨_, rfl, (by show 2 ≤ 1000; decide), fun x hx => bad H6 smA x hx⟩
      · have hlt : i < n := by omega
        rw [hok os[i] (List.mem_take_iff_getElem.mpr ⟨i, by omega, rfl⟩)]
        exact iteF ⟨_, _, rfl, smA, by omega⟩
    · rintro σ H2 ⟨a, b, rfl, sm, hin⟩
      rw [hrl] at hin
      omega
end
end My

set_option pp.maxSteps 400
set_option Elab.async false
set_option linter.all false
set_option maxRecDepth 100000
set_option maxHeartbeats 1000000
namespace My
open PySem L2 MyR

theorem passL {P : Program} {w : World} {K : PySem.W.Frag} {mg : Str → Option Value} {base : Heap} {N : List Str} {q : Str} {sc : Scope} {f : Addr} {cdv : Value} {A : Around} {outer : List Env} {s : Shared} {H : Hp} {E : XK} : Passes CX0 (cxOf CX0 P w K mg base N q sc f cdv A outer s H E) (fun _ _ _ => False) := fun _ _ _ _ _ _ _ h => h.elim
def spRun (K : PySem.W.Frag) (CM CC : Addr) : Sp := fun vs H Q _ => ∃ (ma ca ia fa : Addr) (wd m : Nat) (xs : List Int) (fl : Nat → Int) (os : List Op), vs = [.ref ma, .ref ca, .ref ia, .ref fa] ∧ MachAt CM H (wd : Int) (m : Int) ma ∧ CodeAt CC H (os.map Op.rw) ca ∧
  SqE K H ia (xs.map V.int) ∧ FlAt K H fa fl ∧ xs.length ≤ m ∧ 3 ≤ m ∧ m ≤ 8 ∧ 1 ≤ wd ∧ wd ≤ 64 ∧ (∀ o ∈ os, o.ok m) ∧ os.length ≤ 900 ∧
  ∀ H', Same H H' → Q (.int ((goM wd fl 0 os ⟨initR wd m xs m, fun _ => 0, 0⟩).get 0)) H'
def spRunX (CM CC cI : Addr) : Sp := fun vs H Q E => ∃ (ma ca : Addr) (ia fa : V) (wd : Int) (m : Nat) (os : List Op) (i : Nat), vs = [.ref ma, .ref ca, ia, fa] ∧ MachAt CM H wd (m : Int) ma ∧ CodeAt CC H (os.map Op.rw) ca ∧ (∀ o ∈ os.take i, badB m o = false) ∧ (∃ o, os[i]? = some o ∧ badB m o = true) ∧
  ∀ (d : Addr) H', Same H H' → H' d = some (.xd [("row", .int (i : Int)), ("word", .str "register")]) → E (.ref cI) (some d) H'
section
variable {P : Program} {w : World} {K : PySem.W.Frag} {mg : Str → Option Value} {base : Heap}
abbrev s_run : Stmt := top 42
abbrev N_run : List Str := ["machine", "code", "inputs", "fills"]
theorem sc_run : FnScope N_run ["machine", "code", "inputs", "fills"] (defScope s_run) := ⟨rfl, rfl, rfl, by decide +kernel, rfl, by decide +kernel, by decide +kernel⟩
theorem ok_run {f CM CC t0 : Addr} {fd : FuncData} (F : FunD K "run" "run" (defArgs s_run) (defBody s_run) (defScope s_run) [V.ref t0] [] f fd) (D_check_registers : Df P w K mg base 2 "check_registers" ["machine", "code"] (spChk CM CC)) (D_results : Df P w K mg base 5 "results" ["machine", "code", "starts"] (spResults K CM CC)) : FnOk P w K mg base CX0 6 f fd ["machine", "code", "inputs", "fills"] (spRun K CM CC) := by
  refine F.ok sc_run (fun vs H Q E h => ?_) (fun cdv A outer s H vs Q E hr h => ?_)
  · obtain ⟨ma, ca, ia, fa, wd, m, xs, fl, os, rfl, _⟩ := h
    rfl
  · obtain ⟨ma, ca, ia, fa, wd, m, xs, fl, os, rfl, hma, hca, hia, hfl, hxm, m3, m8, w1, w64, hos, hlen, k⟩ := h
    have nd := sc_run.nd
    refine ⟨_, (pss_cons (ps_expr (pe_call (dvs := []) D_check_registers.ok (hr.mono (by decide)) (by rfl) D_check_registers.g D_check_registers.kp D_check_registers.b .nil (E := fun _ _ _ => False) (fun _ _ _ _ _ _ _ h => h.elim) (pa_cons (pv 0) (pa_cons (pv 1) pa_nil))))
    (pss_one (ps_ret (pe_ix ix_list (pe_call (dvs := []) D_results.ok (hr.mono (by decide)) (by rfl) D_results.g D_results.kp D_results.b .nil (E := fun _ _ _ => False) (fun _ _ _ _ _ _ _ h => h.elim) (pa_cons (pv 0) (pa_cons (pv 1) (pa_cons (pe_lst (pa_cons (pe_tup (pa_cons (pv 2) (pa_cons (pv 3) pa_nil))) pa_nil)) pa_nil)))) pe_int (fun _ _ => rfl))))), ?_⟩
    refine ⟨_, rfl, _, rfl, ma, ca, (wd : Int), m, os, rfl, hma, hca, fun o ho => (badB_ok (hos o ho)).mpr (hos o ho), fun H1 sm1 => ?_⟩
    refine ⟨_, rfl, _, rfl, _, rfl, _, rfl, (by show 2 ≤ sizeLine; decide), fun tp htp => ⟨(by show 1 ≤ sizeLine; decide), fun st hst => ?_⟩⟩
    have s2 := new_same (o := .tup [.ref ia, .ref fa]) htp
    have s3 := new_same (o := .lst [.ref tp]) hst
    have sA := (sm1.trans s2).trans s3
    obtain ⟨dm, em⟩ := hma
    refine ⟨ma, ca, st, tp, ia, fa, wd, m, xs, fl, os, rfl, ⟨dm, sA _ _ em⟩, hca.same sA, upd_same, s3 _ _ upd_same, ?_, hfl.same sA, hxm, m3, m8, w1, w64, hos, hlen, fun t H' sm ht => ?_⟩
    · rcases hia with h | h
      · exact .inl (h.ext sA)
      · exact .inr (h.ext sA)
    · exact ⟨t, _, _, _, rfl, rfl, SqL.of ht, atI_nat (j := 0) rfl, k H' (sA.trans sm)⟩
theorem okX_run {f CM CC cI t0 : Addr} {fd : FuncData} (F : FunD K "run" "run" (defArgs s_run) (defBody s_run) (defScope s_run) [V.ref t0] [] f fd) {fc : Addr} {fdc : FuncData} (okc : FnOk P w K mg base (L2.CX P w) 3 fc fdc ["machine", "code"] (spChkX CM CC cI)) (gc : mg "check_registers" = some (.ref fc)) (kc : PySem.W.keepIn K (.ref fc) = true) (bc : Binds K fdc ["machine", "code"] []) : FnOk P w K mg base (L2.CX P w) 4 f fd ["machine", "code", "inputs", "fills"] (spRunX CM CC cI) := by
  refine F.ok sc_run (fun vs H Q E h => ?_) (fun cdv A outer s H vs Q E hr h => ?_)
  · obtain ⟨ma, ca, ia, fa, wd, m, os, i, rfl, _⟩ := h
    rfl
  · obtain ⟨ma, ca, ia, fa, wd, m, os, i, rfl, hma, hca, hok, hbad, k⟩ := h
    have nd := sc_run.nd
    refine ⟨_, (pss_cons (ps_expr (pe_callS okc (hr.mono (by decide)) (by rfl) gc kc bc (fun σ => passAt (takes_of rfl rfl rfl rfl) σ) (pa_cons (pv 0) (pa_cons (pv 1) pa_nil))))
    (pss_one ps_never)), ?_⟩
    exact ⟨_, rfl, _, rfl, ma, ca, wd, m, os, i, rfl, hma, hca, hok, hbad, k⟩
/-- what a call binds: all four, or three and the default -/
theorem run_binds {f t0 : Addr} {fd : FuncData} (F : FunD K "run" "run" (defArgs s_run) (defBody s_run) (defScope s_run) [V.ref t0] [] f fd) : Binds K fd ["machine", "code", "inputs", "fills"] [] ∧ ∃ ds, Vals [V.ref t0] ds ∧ Binds K fd ["machine", "code", "inputs", "fills"] ds := by
  constructor
  · obtain ⟨ds, hv, hb⟩ := F.binds1 (ps := ["machine", "code", "inputs", "fills"]) 4 1 (by simp) rfl (fun T kV doc pm an cdv ct us its h1 h2 => by
      match us, its, h1, h2 with
      | [a, b, c, d], [t], _, _ => exact ⟨_, rfl, rfl⟩)
    have hv : Vals [] ds := hv
    cases hv
    exact hb
  · exact F.binds1 (ps := ["machine", "code", "inputs", "fills"]) 3 0 (by simp) rfl (fun T kV doc pm an cdv ct us its h1 h2 => by
      match us, its, h1, h2 with
      | [a, b, c], [t], _, _ => exact ⟨_, rfl, rfl⟩)
end
end My

set_option pp.maxSteps 400
set_option Elab.async false
set_option linter.all false
set_option maxRecDepth 100000
set_option maxHeartbeats 1000000
namespace My
open PySem L2 MyR

theorem iteSN {a b : Str} {A B : Prop} (h : ¬ a = b) (q : B) : if decide (V.str a = V.str b) = true then A else B := by
  rw [decide_eq_false (show ¬ V.str a = V.str b from fun e => h (V.str.inj e))]
  exact iteF q
theorem iteSY {a : Str} {A B : Prop} (q : A) : if decide (V.str a = V.str a) = true then A else B := by
  rw [decide_eq_true (show V.str a = V.str a from rfl)]
  exact iteT q
/-- it puts a value into a register -/
def Op.puts : Op → Bool
  | .store _ _ => false
  | .skip _ _ _ _ => false
  | _ => true
def Op.to : Op → Nat
  | .set a _ => a
  | .copy a _ => a
  | .add a _ _ => a
  | .sub a _ _ => a
  | .mul a _ _ => a
  | .left a _ => a
  | .right a _ => a
  | .load a _ => a
  | .store _ a => a
  | .skip a _ _ _ => a
def Op.val (wd : Nat) (fill : Int) (s : Ms) : Op → Int
  | .set _ n => n % 2 ^ wd
  | .copy _ b => s.get b
  | .add _ b c => (s.get b + s.get c) % 2 ^ wd
  | .sub _ b c => (s.get b - s.get c) % 2 ^ wd
  | .mul _ b c => s.get b * s.get c % 2 ^ wd
  | .left _ b => 2 * s.get b % 2 ^ wd
  | .right _ b => s.get b / 2 + fill * 2 ^ (wd - 1)
  | .load _ n => s.sl n
  | _ => 0
/-- the law's slots -/
def LsAt (H : Hp) (sd : Addr) (sl : Int → Int) (cnt : Nat) : Prop := ∃ kvs : List (Key × V), H sd = some (.dK kvs) ∧ kvs.length ≤ cnt ∧ ∀ n : Int, valV kvs (Sum.inl n : Key) = some (.int (sl n)) ∨ (valV kvs (Sum.inl n : Key) = none ∧ sl n = 0)
theorem three_keys (x y z : Int) : valV (mergeK [] [((Sum.inr "add" : Key), V.int x), (.inr "sub", .int y), (.inr "mul", .int z)]) (Sum.inr "add" : Key) = some (.int x) ∧ valV (mergeK [] [((Sum.inr "add" : Key), V.int x), (.inr "sub", .int y), (.inr "mul", .int z)]) (Sum.inr "sub" : Key) = some (.int y) ∧
    valV (mergeK [] [((Sum.inr "add" : Key), V.int x), (.inr "sub", .int y), (.inr "mul", .int z)]) (Sum.inr "mul" : Key) = some (.int z) := by
  have k1 : ¬ ((Sum.inr "add" : Key) = .inr "sub") := fun h => absurd (Sum.inr.inj h) (by decide +kernel)
  have k2 : ¬ ((Sum.inr "add" : Key) = .inr "mul") := fun h => absurd (Sum.inr.inj h) (by decide +kernel)
  have k3 : ¬ ((Sum.inr "sub" : Key) = .inr "mul") := fun h => absurd (Sum.inr.inj h) (by decide +kernel)
  have e : mergeK [] [((Sum.inr "add" : Key), V.int x), (.inr "sub", .int y), (.inr "mul", .int z)] = putK (putK (putK [] (.inr "add") (.int x)) (.inr "sub") (.int y)) (.inr "mul") (.int z) := rfl
  rw [e]
  refine ⟨?_, ?_, ?_⟩
  · rw [valV_put, if_neg k2, valV_put, if_neg k1, valV_put, if_pos rfl]
  · rw [valV_put, if_neg k3, valV_put, if_pos rfl]
  · rw [valV_put, if_pos rfl]
def spComputed : Sp := fun vs H Q _ => ∃ (q nums sd : Addr) (o : Op) (s : Ms) (cnt wd m : Nat) (fill : Int), vs = [.ref q, .ref nums, .ref sd, .int fill, .int (wd : Int)] ∧ RowAt H o.rw q ∧ o.ok m ∧ o.puts = true ∧ H nums = some (.lst (s.rg.map V.int)) ∧ LsAt H sd s.sl cnt ∧ s.Ok wd m ∧ 1 ≤ wd ∧ wd ≤ 64 ∧ (fill = 0 ∨ fill = 1) ∧
  ∀ H', Same H H' → Q (.int (o.val wd fill s)) H'
section
variable {P : Program} {w : World} {K : PySem.W.Frag} {mg : Str → Option Value} {base : Heap}
abbrev s_law_computed : Stmt := top 48
abbrev N_law_computed : List Str := ["_law_row_here", "_law_numbers_here", "_law_slots", "_law_fill", "_law_width", "_law_word", "_law_one", "_law_other", "_law_made"]
theorem sc_law_computed : FnScope N_law_computed ["_law_row_here", "_law_numbers_here", "_law_slots", "_law_fill", "_law_width"] (defScope s_law_computed) := ⟨rfl, rfl, rfl, by decide +kernel, rfl, by decide +kernel, by decide +kernel⟩
theorem ok_law_computed {f : Addr} {fd : FuncData} (F : Fun K "_law_computed" "_law_computed" s_law_computed f fd) : FnOk P w K mg base CX0 1 f fd ["_law_row_here", "_law_numbers_here", "_law_slots", "_law_fill", "_law_width"] spComputed := by
  refine F.ok sc_law_computed (fun vs H Q E h => ?_) (fun cdv A outer s0 H vs Q E hr h => ?_)
  · obtain ⟨q, nums, sd, o, s, cnt, wd, m, fill, rfl, _⟩ := h
    rfl
  · obtain ⟨q, nums, sd, o, s, cnt, wd, m, fill, rfl, hq, ho, hp, hn, hsl, hok, w1, w64, hf, k⟩ := h
    have nd := sc_law_computed.nd
    have hu := hu_of hr
    refine ⟨_, (pss_cons (ps_set (i := 5) nd rfl (Or.inl rfl) (pe_ix ix_tup (pv 0) pe_int (fun _ _ => rfl)))
    (pss_cons (ps_if (pt_cmpR op_eq (pv 5) pe_str (nomark _))
    (pss_one (ps_ret (pe_op op_mod (pe_ix ix_tup (pv 0) pe_int (fun _ _ => rfl)) (pe_op op_shl pe_int (pv 4)))))
    pss_nil)
    (pss_cons (ps_if (pt_cmpR op_eq (pv 5) pe_str (nomark _))
    (pss_one (ps_ret (pe_dget2 hu (pv 2) (pe_ix ix_tup (pv 0) pe_int (fun _ _ => rfl)) pe_int ⟨rfl, rfl, rfl, rfl⟩)))
    pss_nil)
    (pss_cons (ps_set (i := 6) nd rfl (Or.inl rfl) (pe_ix ix_list (pv 1) (pe_ix ix_tup (pv 0) pe_int (fun _ _ => rfl)) (fun _ _ => rfl)))
    (pss_cons (ps_if (pt_cmpR op_eq (pv 5) pe_str (nomark _))
    (pss_one (ps_ret (pv 6)))
    pss_nil)
    (pss_cons (ps_if (pt_cmpR op_eq (pv 5) pe_str (nomark _))
    (pss_one (ps_ret (pe_op op_mod (pe_op op_mul pe_int (pv 6)) (pe_op op_shl pe_int (pv 4)))))
    pss_nil)
    (pss_cons (ps_if (pt_cmpR op_eq (pv 5) pe_str (nomark _))
    (pss_one (ps_ret (pe_op op_add (pe_op op_fdiv (pv 6) pe_int) (pe_op op_mul (pv 3) (pe_op op_shl pe_int (pe_op op_sub (pv 4) pe_int))))))
    pss_nil)
    (pss_cons (ps_set (i := 7) nd rfl (Or.inl rfl) (pe_ix ix_list (pv 1) (pe_ix ix_tup (pv 0) pe_int (fun _ _ => rfl)) (fun _ _ => rfl)))
    (pss_cons (ps_set (i := 8) nd rfl (Or.inl rfl) (pe_dget hu (pe_disp (pps_cons pe_str (pe_op op_add (pv 6) (pv 7)) (pps_cons pe_str (pe_op op_sub (pv 6) (pv 7)) (pps_cons pe_str (pe_op op_mul (pv 6) (pv 7)) pps_nil))) (by rfl) (by rfl) (fun z => by cases z) (by decide)) (pv 5) (fun _ _ => rfl)))
    (pss_one (ps_ret (pe_op op_mod (pv 8) (pe_op op_shl pe_int (pv 4)))))))))))))), ?_⟩
    have ew : (1 : Int) * 2 ^ ((wd : Int)).toNat = 2 ^ wd := by rw [Int.one_mul, Int.toNat_natCast]
    have ew1 : (1 : Int) * 2 ^ ((wd : Int) - 1).toNat = 2 ^ (wd - 1) := by rw [Int.one_mul, show ((wd : Int) - 1).toNat = wd - 1 by omega]
    have pp : (0 : Int) < 1 * 2 ^ ((wd : Int)).toNat := by rw [ew]; exact p2_pos wd
    have fb : -(2 ^ 64) < fill ∧ fill < 2 ^ 64 := by rcases hf with rfl | rfl <;> decide
    have ixn : ∀ {b : Nat}, b < m → (s.rg.map V.int)[b]? = some (.int (s.get b)) := fun {b} hb => by
      rw [List.getElem?_map]
      unfold Ms.get
      rw [List.getD_eq_getElem?_getD, List.getElem?_eq_getElem (by rw [hok.len]; exact hb)]
      rfl
    cases o with
    | set a n =>
      obtain ⟨h1, h2⟩ := ho
      refine ⟨_, rfl, q, _, _, .str "set", rfl, rfl, SqT.of hq, atI_nat (j := 0) rfl, ?_⟩
      refine ⟨_, rfl, rfl, _, rfl, iteSY ?_⟩
      refine ⟨_, rfl, q, _, _, .int n, rfl, rfl, SqT.of hq, atI_nat (j := 2) rfl, _, rfl, _, _, rfl, rfl, ⟨by omega, by omega, by decide⟩, _, _, rfl, rfl, pp, ?_⟩
      rw [ew]
      exact k H (Same.refl H)
    | load a n =>
      obtain ⟨h1, h2, h3⟩ := ho
      refine ⟨_, rfl, q, _, _, .str "load", rfl, rfl, SqT.of hq, atI_nat (j := 0) rfl, ?_⟩
      refine ⟨_, rfl, rfl, _, rfl, iteSN (show ¬ ("load" : Str) = ("set" : Str) by decide +kernel) ?_⟩
      refine ⟨_, rfl, rfl, _, rfl, iteSY ?_⟩
      obtain ⟨kvs, hkv, _, hv⟩ := hsl
      refine ⟨_, rfl, sd, rfl, .inl ⟨_, .inl hkv⟩, _, rfl, q, _, _, .int n, rfl, rfl, SqT.of hq, atI_nat (j := 2) rfl, _, DGet.k (k := Sum.inl n) hkv, ?_⟩
      rcases hv n with e | ⟨e, z⟩
      · rw [e]
        exact k H (Same.refl H)
      · rw [e]
        have q2 := k H (Same.refl H)
        rw [show Op.val wd fill s (.load a n) = 0 from z] at q2
        exact q2
    | copy a b =>
      obtain ⟨h1, h2⟩ := ho
      refine ⟨_, rfl, q, _, _, .str "copy", rfl, rfl, SqT.of hq, atI_nat (j := 0) rfl, ?_⟩
      refine ⟨_, rfl, rfl, _, rfl, iteSN (show ¬ ("copy" : Str) = ("set" : Str) by decide +kernel) ?_⟩
      refine ⟨_, rfl, rfl, _, rfl, iteSN (show ¬ ("copy" : Str) = ("load" : Str) by decide +kernel) ?_⟩
      refine ⟨_, rfl, _, rfl, q, _, _, .int (b : Int), rfl, rfl, SqT.of hq, atI_nat (j := 2) rfl, nums, _, _, .int (s.get b), rfl, rfl, SqL.of hn, atI_nat (ixn h2), ?_⟩
      refine ⟨_, rfl, rfl, _, rfl, iteSY ?_⟩
      exact ⟨_, rfl, k H (Same.refl H)⟩
    | left a b =>
      obtain ⟨h1, h2⟩ := ho
      refine ⟨_, rfl, q, _, _, .str "left", rfl, rfl, SqT.of hq, atI_nat (j := 0) rfl, ?_⟩
      refine ⟨_, rfl, rfl, _, rfl, iteSN (show ¬ ("left" : Str) = ("set" : Str) by decide +kernel) ?_⟩
      refine ⟨_, rfl, rfl, _, rfl, iteSN (show ¬ ("left" : Str) = ("load" : Str) by decide +kernel) ?_⟩
      refine ⟨_, rfl, _, rfl, q, _, _, .int (b : Int), rfl, rfl, SqT.of hq, atI_nat (j := 2) rfl, nums, _, _, .int (s.get b), rfl, rfl, SqL.of hn, atI_nat (ixn h2), ?_⟩
      refine ⟨_, rfl, rfl, _, rfl, iteSN (show ¬ ("left" : Str) = ("copy" : Str) by decide +kernel) ?_⟩
      refine ⟨_, rfl, rfl, _, rfl, iteSY ?_⟩
      refine ⟨_, rfl, _, _, rfl, rfl, .inl ⟨by decide, by decide⟩, _, rfl, _, _, rfl, rfl, ⟨by omega, by omega, by decide⟩, _, _, rfl, rfl, pp, ?_⟩
      rw [ew]
      exact k H (Same.refl H)
    | right a b =>
      obtain ⟨h1, h2⟩ := ho
      refine ⟨_, rfl, q, _, _, .str "right", rfl, rfl, SqT.of hq, atI_nat (j := 0) rfl, ?_⟩
      refine ⟨_, rfl, rfl, _, rfl, iteSN (show ¬ ("right" : Str) = ("set" : Str) by decide +kernel) ?_⟩
      refine ⟨_, rfl, rfl, _, rfl, iteSN (show ¬ ("right" : Str) = ("load" : Str) by decide +kernel) ?_⟩
      refine ⟨_, rfl, _, rfl, q, _, _, .int (b : Int), rfl, rfl, SqT.of hq, atI_nat (j := 2) rfl, nums, _, _, .int (s.get b), rfl, rfl, SqL.of hn, atI_nat (ixn h2), ?_⟩
      refine ⟨_, rfl, rfl, _, rfl, iteSN (show ¬ ("right" : Str) = ("copy" : Str) by decide +kernel) ?_⟩
      refine ⟨_, rfl, rfl, _, rfl, iteSN (show ¬ ("right" : Str) = ("left" : Str) by decide +kernel) ?_⟩
      refine ⟨_, rfl, rfl, _, rfl, iteSY ?_⟩
      refine ⟨_, rfl, _, _, rfl, rfl, ⟨by decide, by decide⟩, _, rfl, _, rfl, _, _, rfl, rfl, _, _, rfl, rfl, ⟨by omega, by omega, by decide⟩, _, _, rfl, rfl, .inl fb, _, _, rfl, rfl, ?_⟩
      rw [ew1]
      exact k H (Same.refl H)
    | add a b c =>
      obtain ⟨h1, h2, h3⟩ := ho
      refine ⟨_, rfl, q, _, _, .str "add", rfl, rfl, SqT.of hq, atI_nat (j := 0) rfl, ?_⟩
      refine ⟨_, rfl, rfl, _, rfl, iteSN (show ¬ ("add" : Str) = ("set" : Str) by decide +kernel) ?_⟩
      refine ⟨_, rfl, rfl, _, rfl, iteSN (show ¬ ("add" : Str) = ("load" : Str) by decide +kernel) ?_⟩
      refine ⟨_, rfl, _, rfl, q, _, _, .int (b : Int), rfl, rfl, SqT.of hq, atI_nat (j := 2) rfl, nums, _, _, .int (s.get b), rfl, rfl, SqL.of hn, atI_nat (ixn h2), ?_⟩
      refine ⟨_, rfl, rfl, _, rfl, iteSN (show ¬ ("add" : Str) = ("copy" : Str) by decide +kernel) ?_⟩
      refine ⟨_, rfl, rfl, _, rfl, iteSN (show ¬ ("add" : Str) = ("left" : Str) by decide +kernel) ?_⟩
      refine ⟨_, rfl, rfl, _, rfl, iteSN (show ¬ ("add" : Str) = ("right" : Str) by decide +kernel) ?_⟩
      refine ⟨_, rfl, _, rfl, q, _, _, .int (c : Int), rfl, rfl, SqT.of hq, atI_nat (j := 3) rfl, nums, _, _, .int (s.get c), rfl, rfl, SqL.of hn, atI_nat (ixn h3), ?_⟩
      have sb := hok.rg b
      have pw := p2_le w64
      have eg : s.get b = s.rg.getD b 0 := rfl
      refine fun d hd => ?_
      refine ⟨_, rfl, _, rfl, _, _, rfl, rfl, _, rfl, _, rfl, _, _, rfl, rfl, _, rfl, _, rfl, _, _, rfl, rfl, .inl ⟨by omega, by omega⟩, upd_same, [(.inr "add", .int (s.get b + s.get c)), (.inr "sub", .int (s.get b - s.get c)), (.inr "mul", .int (s.get b * s.get c))], rfl, (by show 3 ≤ 15; decide), ?_⟩
      have sm : Same H (upd (upd H d (.dK [])) d (.dK (mergeK [] [(.inr "add", .int (s.get b + s.get c)), (.inr "sub", .int (s.get b - s.get c)), (.inr "mul", .int (s.get b * s.get c))]))) := fun b o e => by rw [upd_ne (ne_of_none e hd), upd_ne (ne_of_none e hd)]; exact e
      have hm := three_keys (s.get b + s.get c) (s.get b - s.get c) (s.get b * s.get c)
      refine ⟨_, rfl, d, .int (s.get b + s.get c), rfl, hm.1 ▸ DGet.k (k := Sum.inr "add") upd_same, ?_⟩
      refine ⟨_, rfl, _, rfl, _, _, rfl, rfl, ⟨by omega, by omega, by decide⟩, _, _, rfl, rfl, pp, ?_⟩
      rw [ew]
      exact k _ sm
    | sub a b c =>
      obtain ⟨h1, h2, h3⟩ := ho
      refine ⟨_, rfl, q, _, _, .str "sub", rfl, rfl, SqT.of hq, atI_nat (j := 0) rfl, ?_⟩
      refine ⟨_, rfl, rfl, _, rfl, iteSN (show ¬ ("sub" : Str) = ("set" : Str) by decide +kernel) ?_⟩
      refine ⟨_, rfl, rfl, _, rfl, iteSN (show ¬ ("sub" : Str) = ("load" : Str) by decide +kernel) ?_⟩
      refine ⟨_, rfl, _, rfl, q, _, _, .int (b : Int), rfl, rfl, SqT.of hq, atI_nat (j := 2) rfl, nums, _, _, .int (s.get b), rfl, rfl, SqL.of hn, atI_nat (ixn h2), ?_⟩
      refine ⟨_, rfl, rfl, _, rfl, iteSN (show ¬ ("sub" : Str) = ("copy" : Str) by decide +kernel) ?_⟩
      refine ⟨_, rfl, rfl, _, rfl, iteSN (show ¬ ("sub" : Str) = ("left" : Str) by decide +kernel) ?_⟩
      refine ⟨_, rfl, rfl, _, rfl, iteSN (show ¬ ("sub" : Str) = ("right" : Str) by decide +kernel) ?_⟩
      refine ⟨_, rfl, _, rfl, q, _, _, .int (c : Int), rfl, rfl, SqT.of hq, atI_nat (j := 3) rfl, nums, _, _, .int (s.get c), rfl, rfl, SqL.of hn, atI_nat (ixn h3), ?_⟩
      have sb := hok.rg b
      have pw := p2_le w64
      have eg : s.get b = s.rg.getD b 0 := rfl
      refine fun d hd => ?_
      refine ⟨_, rfl, _, rfl, _, _, rfl, rfl, _, rfl, _, rfl, _, _, rfl, rfl, _, rfl, _, rfl, _, _, rfl, rfl, .inl ⟨by omega, by omega⟩, upd_same, [(.inr "add", .int (s.get b + s.get c)), (.inr "sub", .int (s.get b - s.get c)), (.inr "mul", .int (s.get b * s.get c))], rfl, (by show 3 ≤ 15; decide), ?_⟩
      have sm : Same H (upd (upd H d (.dK [])) d (.dK (mergeK [] [(.inr "add", .int (s.get b + s.get c)), (.inr "sub", .int (s.get b - s.get c)), (.inr "mul", .int (s.get b * s.get c))]))) := fun b o e => by rw [upd_ne (ne_of_none e hd), upd_ne (ne_of_none e hd)]; exact e
      have hm := three_keys (s.get b + s.get c) (s.get b - s.get c) (s.get b * s.get c)
      refine ⟨_, rfl, d, .int (s.get b - s.get c), rfl, hm.2.1 ▸ DGet.k (k := Sum.inr "sub") upd_same, ?_⟩
      refine ⟨_, rfl, _, rfl, _, _, rfl, rfl, ⟨by omega, by omega, by decide⟩, _, _, rfl, rfl, pp, ?_⟩
      rw [ew]
      exact k _ sm
    | mul a b c =>
      obtain ⟨h1, h2, h3⟩ := ho
      refine ⟨_, rfl, q, _, _, .str "mul", rfl, rfl, SqT.of hq, atI_nat (j := 0) rfl, ?_⟩
      refine ⟨_, rfl, rfl, _, rfl, iteSN (show ¬ ("mul" : Str) = ("set" : Str) by decide +kernel) ?_⟩
      refine ⟨_, rfl, rfl, _, rfl, iteSN (show ¬ ("mul" : Str) = ("load" : Str) by decide +kernel) ?_⟩
      refine ⟨_, rfl, _, rfl, q, _, _, .int (b : Int), rfl, rfl, SqT.of hq, atI_nat (j := 2) rfl, nums, _, _, .int (s.get b), rfl, rfl, SqL.of hn, atI_nat (ixn h2), ?_⟩
      refine ⟨_, rfl, rfl, _, rfl, iteSN (show ¬ ("mul" : Str) = ("copy" : Str) by decide +kernel) ?_⟩
      refine ⟨_, rfl, rfl, _, rfl, iteSN (show ¬ ("mul" : Str) = ("left" : Str) by decide +kernel) ?_⟩
      refine ⟨_, rfl, rfl, _, rfl, iteSN (show ¬ ("mul" : Str) = ("right" : Str) by decide +kernel) ?_⟩
      refine ⟨_, rfl, _, rfl, q, _, _, .int (c : Int), rfl, rfl, SqT.of hq, atI_nat (j := 3) rfl, nums, _, _, .int (s.get c), rfl, rfl, SqL.of hn, atI_nat (ixn h3), ?_⟩
      have sb := hok.rg b
      have pw := p2_le w64
      have eg : s.get b = s.rg.getD b 0 := rfl
      refine fun d hd => ?_
      refine ⟨_, rfl, _, rfl, _, _, rfl, rfl, _, rfl, _, rfl, _, _, rfl, rfl, _, rfl, _, rfl, _, _, rfl, rfl, .inl ⟨by omega, by omega⟩, upd_same, [(.inr "add", .int (s.get b + s.get c)), (.inr "sub", .int (s.get b - s.get c)), (.inr "mul", .int (s.get b * s.get c))], rfl, (by show 3 ≤ 15; decide), ?_⟩
      have sm : Same H (upd (upd H d (.dK [])) d (.dK (mergeK [] [(.inr "add", .int (s.get b + s.get c)), (.inr "sub", .int (s.get b - s.get c)), (.inr "mul", .int (s.get b * s.get c))]))) := fun b o e => by rw [upd_ne (ne_of_none e hd), upd_ne (ne_of_none e hd)]; exact e
      have hm := three_keys (s.get b + s.get c) (s.get b - s.get c) (s.get b * s.get c)
      refine ⟨_, rfl, d, .int (s.get b * s.get c), rfl, hm.2.2 ▸ DGet.k (k := Sum.inr "mul") upd_same, ?_⟩
      refine ⟨_, rfl, _, rfl, _, _, rfl, rfl, ⟨by omega, by omega, by decide⟩, _, _, rfl, rfl, pp, ?_⟩
      rw [ew]
      exact k _ sm
    | store n a => cases hp
    | skip a md c n => cases hp
end
end My

set_option pp.maxSteps 400
set_option Elab.async false
set_option linter.all false
set_option maxRecDepth 100000
set_option maxHeartbeats 1000000
namespace My
open PySem L2 MyR

/-- the fills of a list, or none -/
def FlR (K : PySem.W.Frag) (H : Hp) (fa : Addr) (fl : Nat → Int) : Prop := ∃ ys : List Int, (SqL K H fa (ys.map V.int) ∨ (ys = [] ∧ SqT K H fa [])) ∧ (∀ n, fl n = ys.getD n 0) ∧ ys.length ≤ 1000 ∧ ∀ x ∈ ys, x = 0 ∨ x = 1
theorem FlR.flAt {K : PySem.W.Frag} {H : Hp} {fa : Addr} {fl : Nat → Int} (h : FlR K H fa fl) : FlAt K H fa fl := by
  obtain ⟨ys, h1, h2, h3, h4⟩ := h
  refine ⟨ys, ?_, h3, h2, h4⟩
  rcases h1 with h | ⟨rfl, h⟩
  · exact .inl h
  · exact .inr h
theorem FlR.same {K : PySem.W.Frag} {H H' : Hp} {fa : Addr} {fl : Nat → Int} (h : FlR K H fa fl) (s : Same H H') : FlR K H' fa fl := by
  obtain ⟨ys, h1, h2⟩ := h
  refine ⟨ys, ?_, h2⟩
  rcases h1 with h | ⟨e, h⟩
  · exact .inl (h.ext s)
  · exact .inr ⟨e, h.ext s⟩
/-- no row skips beyond the end -/
def FitsO (os : List Op) : Prop := ∀ (i : Nat) o, os[i]? = some o → i + 1 + o.far ≤ os.length
def ranR (wd m : Nat) (fl : Nat → Int) (os : List Op) (xs : List Int) : Ms := goM wd fl 0 os ⟨initR wd m xs m, fun _ => 0, 0⟩
def spRan (K : PySem.W.Frag) : Sp := fun vs H Q _ => ∃ (rows ia fa : Addr) (as : List Addr) (os : List Op) (wd m : Nat) (xs : List Int) (fl : Nat → Int), vs = [.ref rows, .int (wd : Int), .int (m : Int), .ref ia, .ref fa] ∧ H rows = some (.lst (refs as)) ∧ RowsAt H (os.map Op.rw) as ∧ SqL K H ia (xs.map V.int) ∧ FlR K H fa fl ∧
  xs.length ≤ m ∧ 3 ≤ m ∧ m ≤ 8 ∧ 1 ≤ wd ∧ wd ≤ 64 ∧ (∀ o ∈ os, o.ok m) ∧ FitsO os ∧ os.length ≤ 900 ∧
  ∀ t H', Same H H' → H' t = some (.tup [.int ((ranR wd m fl os xs).get 0), .int ((ranR wd m fl os xs).rt : Int)]) → Q (.ref t) H'
theorem puts_to {o : Op} (h : o.puts = true) : o.rw.vs[1]? = some (.int (o.to : Int)) := by
  cases o <;> first | rfl | cases h
theorem puts_no {o : Op} (h : o.puts = true) : ¬ o.rw.w = ("skip" : Str) ∧ ¬ o.rw.w = ("store" : Str) ∧ (o.rw.w = ("right" : Str) ∨ (¬ o.rw.w = ("right" : Str) ∧ ∀ wd fl s f, o.run wd fl s = ⟨s.rg.set o.to (o.val wd f s), s.sl, s.rt⟩)) := by
  cases o with
  | store s a => cases h
  | skip a m c n => cases h
  | right a b => exact ⟨(by show ¬ ("right" : Str) = _; decide +kernel), (by show ¬ ("right" : Str) = _; decide +kernel), .inl rfl⟩
  | set a n => exact ⟨(by show ¬ ("set" : Str) = _; decide +kernel), (by show ¬ ("set" : Str) = _; decide +kernel), .inr ⟨(by show ¬ ("set" : Str) = _; decide +kernel), fun _ _ _ _ => rfl⟩⟩
  | copy a b => exact ⟨(by show ¬ ("copy" : Str) = _; decide +kernel), (by show ¬ ("copy" : Str) = _; decide +kernel), .inr ⟨(by show ¬ ("copy" : Str) = _; decide +kernel), fun _ _ _ _ => rfl⟩⟩
  | add a b c => exact ⟨(by show ¬ ("add" : Str) = _; decide +kernel), (by show ¬ ("add" : Str) = _; decide +kernel), .inr ⟨(by show ¬ ("add" : Str) = _; decide +kernel), fun _ _ _ _ => rfl⟩⟩
  | sub a b c => exact ⟨(by show ¬ ("sub" : Str) = _; decide +kernel), (by show ¬ ("sub" : Str) = _; decide +kernel), .inr ⟨(by show ¬ ("sub" : Str) = _; decide +kernel), fun _ _ _ _ => rfl⟩⟩
  | mul a b c => exact ⟨(by show ¬ ("mul" : Str) = _; decide +kernel), (by show ¬ ("mul" : Str) = _; decide +kernel), .inr ⟨(by show ¬ ("mul" : Str) = _; decide +kernel), fun _ _ _ _ => rfl⟩⟩
  | left a b => exact ⟨(by show ¬ ("left" : Str) = _; decide +kernel), (by show ¬ ("left" : Str) = _; decide +kernel), .inr ⟨(by show ¬ ("left" : Str) = _; decide +kernel), fun _ _ _ _ => rfl⟩⟩
  | load a n => exact ⟨(by show ¬ ("load" : Str) = _; decide +kernel), (by show ¬ ("load" : Str) = _; decide +kernel), .inr ⟨(by show ¬ ("load" : Str) = _; decide +kernel), fun _ _ _ _ => rfl⟩⟩
theorem right_run {o : Op} (h : o.rw.w = ("right" : Str)) (wd : Nat) (fl : Nat → Int) (s : Ms) : o.run wd fl s = ⟨s.rg.set o.to (o.val wd (fl s.rt) s), s.sl, s.rt + 1⟩ := by
  cases o with
  | right a b => rfl
  | set a n => exact absurd h (by show ¬ ("set" : Str) = _; decide +kernel)
  | copy a b => exact absurd h (by show ¬ ("copy" : Str) = _; decide +kernel)
  | add a b c => exact absurd h (by show ¬ ("add" : Str) = _; decide +kernel)
  | sub a b c => exact absurd h (by show ¬ ("sub" : Str) = _; decide +kernel)
  | mul a b c => exact absurd h (by show ¬ ("mul" : Str) = _; decide +kernel)
  | left a b => exact absurd h (by show ¬ ("left" : Str) = _; decide +kernel)
  | load a n => exact absurd h (by show ¬ ("load" : Str) = _; decide +kernel)
  | store n a => exact absurd h (by show ¬ ("store" : Str) = _; decide +kernel)
  | skip a m c n => exact absurd h (by show ¬ ("skip" : Str) = _; decide +kernel)
theorem puts_jump {o : Op} (h : o.puts = true) (s : Ms) : o.jump s = 0 := by
  cases o <;> first | rfl | cases h
theorem puts_to_lt {o : Op} {m : Nat} (h : o.ok m) : o.to < m := by
  cases o <;> exact h.1
theorem LsAt.same {H H' : Hp} {sd : Addr} {sl : Int → Int} {cnt : Nat} (h : LsAt H sd sl cnt) (e : ∀ kvs : List (Key × V), H sd = some (.dK kvs) → H' sd = some (.dK kvs)) : LsAt H' sd sl cnt := by
  obtain ⟨kvs, h1, h2⟩ := h
  exact ⟨kvs, e _ h1, h2⟩
theorem LsAt.more {H : Hp} {sd : Addr} {sl : Int → Int} {cnt k : Nat} (h : LsAt H sd sl cnt) (hk : cnt ≤ k) : LsAt H sd sl k := by
  obtain ⟨kvs, h1, h2, h3⟩ := h
  exact ⟨kvs, h1, Nat.le_trans h2 hk, h3⟩
theorem ixN_nat {n j : Nat} (h : j < n) : ixN n (j : Int) = some j := by
  unfold ixN
  rw [if_pos (Int.natCast_nonneg j), if_pos (by omega)]
  rfl
theorem rep_flat (m : Nat) : (List.replicate m [V.int 0]).flatten = List.replicate m (V.int 0) := by
  induction m with
  | zero => rfl
  | succ m ih => rw [List.replicate_succ, List.flatten_cons, ih, List.replicate_succ]; rfl
section
variable {P : Program} {w : World} {K : PySem.W.Frag} {mg : Str → Option Value} {base : Heap}
abbrev s_law_ran : Stmt := top 49
abbrev N_law_ran : List Str := ["_law_rows_here", "_law_width", "_law_registers", "_law_inputs", "_law_fills", "_law_numbers_here", "_law_slots", "_law_at", "_law_rights", "_law_place", "_law_row_here", "_law_fill"]
theorem sc_law_ran : FnScope N_law_ran ["_law_rows_here", "_law_width", "_law_registers", "_law_inputs", "_law_fills"] (defScope s_law_ran) := ⟨rfl, rfl, rfl, by decide +kernel, rfl, by decide +kernel, by decide +kernel⟩
theorem ok_law_ran {f : Addr} {fd : FuncData} (F : Fun K "_law_ran" "_law_ran" s_law_ran f fd) (T : Glob mg) (D_law_computed : Df P w K mg base 1 "_law_computed" ["_law_row_here", "_law_numbers_here", "_law_slots", "_law_fill", "_law_width"] spComputed) : FnOk P w K mg base CX0 2 f fd ["_law_rows_here", "_law_width", "_law_registers", "_law_inputs", "_law_fills"] (spRan K) := by
  refine F.ok sc_law_ran (fun vs H Q E h => ?_) (fun cdv A outer s0 H vs Q E hr h => ?_)
  · obtain ⟨rows, ia, fa, as, os, wd, m, xs, fl, rfl, _⟩ := h
    rfl
  · obtain ⟨rows, ia, fa, as, os, wd, m, xs, fl, rfl, hrows, hr1, hia, hfl, hxm, m3, m8, w1, w64, hos, hfit, hlen, k⟩ := h
    have nd := sc_law_ran.nd
    have hu := hu_of hr
    refine ⟨_, (pss_cons (ps_asg (pe_tup (pa_cons (pe_op op_rep (pe_lst (pa_cons pe_int pa_nil)) (pv 2)) (pa_cons pe_dnewK (pa_cons pe_int (pa_cons pe_int pa_nil))))) (pg_tup (by rfl) (pgs_cons (pg_name (i := 5) nd rfl (Or.inl rfl)) (pgs_cons (pg_name (i := 6) nd rfl (Or.inl rfl)) (pgs_cons (pg_name (i := 7) nd rfl (Or.inl rfl)) (pgs_cons (pg_name (i := 8) nd rfl (Or.inl rfl)) pgs_nil))))))
    (pss_cons (ps_for PassesOwn.never rfl (pi_range1 (by rfl) T.g_range (pa_cons (pe_callB call_len_seq (by rfl) T.g_len PySem.boot_len (pa_cons (pv 3) pa_nil)) pa_nil)) (pg_name (i := 9) nd rfl (Or.inl rfl))
    (pss_one (ps_asg (pe_op op_mod (pe_ix ix_list (pv 3) (pv 9) (fun _ _ => rfl)) (pe_op op_shl pe_int (pv 1))) (pg_sub (pv 5) (pv 9) set_list))))
    (pss_cons (ps_while PassesOwn.never (pt_cmpR op_lt (pv 7) (pe_callB call_len_seq (by rfl) T.g_len PySem.boot_len (pa_cons (pv 0) pa_nil)) (nomark _))
    (pss_cons (ps_par (i := 10) (j := 7) rfl nd rfl rfl (by decide) rfl rfl (pa_cons (pe_ix ix_list (pv 0) (pv 7) (fun _ _ => rfl)) (pa_cons (pe_op op_add (pv 7) pe_int) pa_nil)) (by rfl))
    (pss_one (ps_if (pt_cmpR op_eq (pe_ix ix_tup (pv 10) pe_int (fun _ _ => rfl)) pe_str (nomark _))
    (pss_one (ps_if (pt_cmpR op_eq (pe_op op_mod (pe_ix ix_list (pv 5) (pe_ix ix_tup (pv 10) pe_int (fun _ _ => rfl)) (fun _ _ => rfl)) (pe_ix ix_tup (pv 10) pe_int (fun _ _ => rfl))) (pe_ix ix_tup (pv 10) pe_int (fun _ _ => rfl)) (nomark _))
    (pss_one (ps_set (i := 7) nd rfl (Or.inl rfl) (pe_op op_add (pv 7) (pe_ix ix_tup (pv 10) pe_int (fun _ _ => rfl)))))
    pss_nil))
    (pss_one (ps_if (pt_cmpR op_eq (pe_ix ix_tup (pv 10) pe_int (fun _ _ => rfl)) pe_str (nomark _))
    (pss_one (ps_dput hu (pv 6) (pe_ix ix_tup (pv 10) pe_int (fun _ _ => rfl)) (pe_ix ix_list (pv 5) (pe_ix ix_tup (pv 10) pe_int (fun _ _ => rfl)) (fun _ _ => rfl)) rfl))
    (pss_cons (ps_set (i := 11) nd rfl (Or.inl rfl) pe_int)
    (pss_cons (ps_if (pt_cmpR op_eq (pe_ix ix_tup (pv 10) pe_int (fun _ _ => rfl)) pe_str (nomark _))
    (pss_cons (ps_set (i := 11) nd rfl (Or.inl rfl) (pe_ifExp (pt_cmpR op_lt (pv 8) (pe_callB call_len_seq (by rfl) T.g_len PySem.boot_len (pa_cons (pv 4) pa_nil)) (nomark _)) (pe_ix ix_list (pv 4) (pv 8) (fun _ _ => rfl)) pe_int))
    (pss_one (ps_set (i := 8) nd rfl (Or.inl rfl) (pe_op op_add (pv 8) pe_int))))
    pss_nil)
    (pss_one (ps_asg (pe_call D_law_computed.ok (hr.mono (by decide)) (by rfl) D_law_computed.g D_law_computed.kp D_law_computed.b .nil pass0 (pa_cons (pv 10) (pa_cons (pv 5) (pa_cons (pv 6) (pa_cons (pv 11) (pa_cons (pv 1) pa_nil)))))) (pg_sub (pv 5) (pe_ix ix_tup (pv 10) pe_int (fun _ _ => rfl)) set_list)))))))))))
    (pss_one (ps_ret (pe_tup (pa_cons (pe_ix ix_list (pv 5) pe_int (fun _ _ => rfl)) (pa_cons (pv 8) pa_nil)))))))), ?_⟩
    have ew : (1 : Int) * 2 ^ ((wd : Int)).toNat = 2 ^ wd := by rw [Int.one_mul, Int.toNat_natCast]
    have pp : (0 : Int) < 1 * 2 ^ ((wd : Int)).toNat := by rw [ew]; exact p2_pos wd
    have hrl : (refs as).length = os.length := by rw [refs_len, hr1.len, List.length_map]
    -- the start
    refine ⟨(by show 1 ≤ sizeLine; decide), fun z hz => ⟨_, rfl, z, _, _, rfl, rfl, upd_same, by omega, by omega, ?_, fun nums hnums => ?_⟩⟩
    · show 1 * ((m : Int)).toNat ≤ sizeLine
      rw [sizeLine_eq]
      omega
    rw [Int.toNat_natCast, rep_flat]
    have s1 := new_same (o := .lst [.int 0]) hz
    have s2 := s1.trans (new_same (o := .lst (List.replicate m (.int 0))) hnums)
    have nums0 : H nums = none := same_free s1 hnums
    refine fun sd hsd => ?_
    have s3 := s2.trans (new_same (o := .dK []) hsd)
    have sd0 : H sd = none := same_free s2 hsd
    have hn3 : (upd (upd (upd H z (.lst [.int 0])) nums (.lst (List.replicate m (.int 0)))) sd (.dK [])) nums = some (.lst (List.replicate m (.int 0))) := new_same hsd _ _ upd_same
    refine ⟨(by show 4 ≤ sizeLine; decide), fun t ht => ?_⟩
    have s4 := s3.trans (new_same (o := .tup [.ref nums, .ref sd, .int 0, .int 0]) ht)
    have hn4 := new_same (o := .tup [.ref nums, .ref sd, .int 0, .int 0]) ht _ _ hn3
    have hd4 := new_same (o := .tup [.ref nums, .ref sd, .int 0, .int 0]) ht sd (.dK []) upd_same
    refine ⟨t, _, rfl, SqT.of upd_same, rfl, _, _, rfl, _, _, rfl, _, _, rfl, _, _, rfl, rfl, ?_⟩
    dsimp only [List.set_cons_succ, List.set_cons_zero]
    -- the inputs
    refine ⟨_, rfl, ia, _, rfl, .inl (hia.ext s4), _, rfl, by rw [List.length_map]; omega, by rw [List.length_map]; omega, ?_⟩
    rw [List.length_map, Int.toNat_natCast]
    refine for_range (lo := 0) (n := xs.length) (fun i σ H1 => ∃ x : Option V, σ = [some (.ref rows), some (.int (wd : Int)), some (.int (m : Int)), some (.ref ia), some (.ref fa), some (.ref nums), some (.ref sd), some (.int 0), some (.int 0), x, none, none] ∧ Same H H1 ∧ H1 nums = some (.lst ((initR wd m xs i).map V.int)) ∧ H1 sd = some (.dK []))
      ⟨none, rfl, s4, by rw [initR_zero, List.map_replicate]; exact hn4, hd4⟩ ?_ ?_
    · rintro i σ H1 hi ⟨x, rfl, sm, hn, hd⟩
      rw [show (0 : Int) + (i : Int) = (i : Int) from Int.zero_add _]
      have hx : (xs.map V.int)[i]? = some (.int xs[i]) := by rw [List.getElem?_map, List.getElem?_eq_getElem hi]; rfl
      refine ⟨_, rfl, _, rfl, ia, _, _, .int xs[i], rfl, rfl, hia.ext sm, atI_nat hx, _, rfl, _, _, rfl, rfl, ⟨by omega, by omega, by decide⟩, _, _, rfl, rfl, pp, ?_⟩
      have hl : ((initR wd m xs i).map V.int).length = m := by rw [List.length_map, initR_len]
      refine ⟨_, rfl, _, rfl, nums, _, _, i, rfl, rfl, hn, by rw [hl]; exact ixN_nat (by omega), ?_⟩
      have ne : sd ≠ nums := ne_of hd hn (by intro z; cases z)
      refine ⟨_, rfl, same_upd sm nums0, ?_, by rw [upd_ne ne]; exact hd⟩
      rw [upd_same, ew]
      congr 2
      refine List.ext_getElem? fun j => ?_
      rw [List.getElem?_set, List.getElem?_map, List.getElem?_map]
      unfold initR
      rw [List.length_map, List.length_map, List.length_range, List.getElem?_map, List.getElem?_map]
      by_cases hj : j < m
      · rw [List.getElem?_range hj]
        by_cases e : i = j
        · subst e
          rw [if_pos rfl, if_pos hj]
          show _ = some (V.int (if i < i + 1 then xs.getD i 0 % 2 ^ wd else 0))
          rw [if_pos (by omega), List.getD_eq_getElem?_getD, List.getElem?_eq_getElem hi]
          rfl
        · rw [if_neg e]
          show some (V.int (if j < i then xs.getD j 0 % 2 ^ wd else 0)) = some (V.int (if j < i + 1 then xs.getD j 0 % 2 ^ wd else 0))
          by_cases h2 : j < i
          · rw [if_pos h2, if_pos (by omega)]
          · rw [if_neg h2, if_neg (by omega)]
      · rw [List.getElem?_eq_none (by rw [List.length_range]; omega)]
        by_cases e : i = j
        · subst e
          rw [if_pos rfl, if_neg hj]
          rfl
        · rw [if_neg e]
          rfl
    rintro σ H5 ⟨x, rfl, s5, hn5, hd5⟩
    rw [initR_all hxm] at hn5
    -- row by row
    refine while_by (fun σ H1 => ∃ (at_ : Nat) (s : Ms) (a b c : Option V), σ = [some (.ref rows), some (.int (wd : Int)), some (.int (m : Int)), some (.ref ia), some (.ref fa), some (.ref nums), some (.ref sd), some (.int (at_ : Int)), some (.int (s.rt : Int)), a, b, c] ∧ Same H H1 ∧ H1 nums = some (.lst (s.rg.map V.int)) ∧ LsAt H1 sd s.sl at_ ∧ s.Ok wd m ∧ at_ ≤ os.length ∧ goM wd fl 0 (os.drop at_) s = ranR wd m fl os xs)
      (fun (σ : L2.St) (_ : Hp) => match σ[7]? with | some (some (V.int z)) => os.length - z.toNat | _ => 0) ⟨0, ⟨initR wd m xs m, fun _ => 0, 0⟩, x, none, none, rfl, s5, hn5, ⟨[], hd5, Nat.zero_le _, fun n => .inr ⟨rfl, rfl⟩⟩, init_ok, Nat.zero_le _, rfl⟩ ?_ ?_
    · rintro σ H1 ⟨at_, s, a, b, c, rfl, sm, hn, hsl, hok, hat, hR⟩
      refine ⟨_, rfl, _, rfl, rows, _, rfl, .inl (SqL.of (sm _ _ hrows)), _, _, rfl, rfl, _, rfl, ?_⟩
      rw [hrl]
      refine ite2 (fun hlt => ?_) (fun hlt => ?_)
      · have hlt := of_decide_eq_true hlt
        have hil : at_ < os.length := by omega
        obtain ⟨q, e1, e2⟩ := hr1.at_ at_ os[at_].rw (by rw [List.getElem?_map, List.getElem?_eq_getElem hil]; rfl)
        have ho := hos _ (List.getElem_mem hil)
        have hfo := hfit at_ os[at_] (List.getElem?_eq_getElem hil)
        have hq1 : RowAt H1 os[at_].rw q := e2.same sm
        rw [List.drop_eq_getElem_cons hil] at hR
        have hR : goM wd fl (os[at_].jump s) (os.drop (at_ + 1)) (os[at_].run wd fl s) = ranR wd m fl os xs := hR
        generalize os[at_] = o at ho hfo hq1 hR
        refine ⟨_, rfl, _, rfl, rows, _, _, .ref q, rfl, rfl, SqL.of (sm _ _ hrows), atI_nat (refs_at e1), _, rfl, _, _, rfl, rfl, _, _, rfl, ?_⟩
        dsimp only [List.set_cons_succ, List.set_cons_zero]
        have ixn : ∀ {b : Nat}, b < m → (s.rg.map V.int)[b]? = some (.int (s.get b)) := fun {b} hb => by
          rw [List.getElem?_map]
          unfold Ms.get
          rw [List.getD_eq_getElem?_getD, List.getElem?_eq_getElem (by rw [hok.len]; exact hb)]
          rfl
        have nsn : sd ≠ nums := by
          obtain ⟨kvs, h1, _⟩ := hsl
          exact ne_of h1 hn (by intro z; cases z)
        refine ⟨_, rfl, q, _, _, .str o.rw.w, rfl, rfl, SqT.of hq1, atI_nat (j := 0) rfl, rfl, _, rfl, ?_⟩
        cases hp : o.puts with
        | false =>
          cases o with
          | skip a md c n =>
            obtain ⟨ha, hmd, hc0, hc1, hn9⟩ := ho
            have hm0 := mods_bound _ hmd
            refine iteSY ?_
            refine ⟨_, rfl, _, rfl, q, _, _, .int (a : Int), rfl, rfl, SqT.of hq1, atI_nat (j := 1) rfl, nums, _, _, .int (s.get a), rfl, rfl, SqL.of hn, atI_nat (ixn ha), _, rfl, q, _, _, .int md, rfl, rfl, SqT.of hq1, atI_nat (j := 2) rfl, _, _, rfl, rfl, by omega, _, rfl, q, _, _, .int c, rfl, rfl, SqT.of hq1, atI_nat (j := 3) rfl, rfl, _, rfl, ?_⟩
            have hR : goM wd fl (if s.get a % md = c then n else 0) (os.drop (at_ + 1)) s = ranR wd m fl os xs := hR
            refine ite2 (fun h => ?_) (fun h => ?_)
            · have h := V.int.inj (of_decide_eq_true h)
              rw [if_pos h, goM_skip, List.drop_drop] at hR
              refine ⟨_, rfl, _, rfl, q, _, _, .int (n : Int), rfl, rfl, SqT.of hq1, atI_nat (j := 4) rfl, _, _, rfl, rfl, ?_⟩
              have hfo : at_ + 1 + n ≤ os.length := hfo
              refine ⟨⟨at_ + 1 + n, s, _, _, _, rfl, sm, hn, hsl.more (by omega), hok, hfo, hR⟩, ?_⟩
              show os.length - (((at_ : Int) + 1 + (n : Int))).toNat < os.length - ((at_ : Int)).toNat
              omega
            · have h : ¬ s.get a % md = c := fun e => h (decide_eq_true (show V.int (s.get a % md) = V.int c by rw [e]))
              rw [if_neg h] at hR
              refine ⟨⟨at_ + 1, s, _, _, _, rfl, sm, hn, hsl.more (by omega), hok, by omega, hR⟩, ?_⟩
              show os.length - (((at_ : Int) + 1)).toNat < os.length - ((at_ : Int)).toNat
              omega
          | store n a =>
            obtain ⟨ha, hn0, hn9⟩ := ho
            refine iteSN (show ¬ ("store" : Str) = ("skip" : Str) by decide +kernel) ?_
            refine ⟨_, rfl, q, _, _, .str "store", rfl, rfl, SqT.of hq1, atI_nat (j := 0) rfl, rfl, _, rfl, iteSY ?_⟩
            obtain ⟨kvs, hkv, hkl, hv⟩ := hsl
            refine ⟨_, rfl, _, rfl, q, _, _, .int (a : Int), rfl, rfl, SqT.of hq1, atI_nat (j := 2) rfl, nums, _, _, .int (s.get a), rfl, rfl, SqL.of hn, atI_nat (ixn ha), _, rfl, _, rfl, q, _, _, .int n, rfl, rfl, SqT.of hq1, atI_nat (j := 1) rfl, sd, _, rfl, DPut.k (k := Sum.inl n) hkv (small1000 (by omega)), ?_⟩
            refine ⟨⟨at_ + 1, Op.run wd fl s (.store n a), _, _, _, rfl, same_upd sm sd0, by rw [upd_ne (Ne.symm nsn)]; exact hn, ⟨_, upd_same, Nat.le_trans (putK_le _ _ _) (by omega), fun j => ?_⟩, hok.run w1 hfl.flAt.bit _, by omega, hR⟩, ?_⟩
            · show valV (putK kvs (Sum.inl n) (V.int (s.get a))) (Sum.inl j : Key) = some (V.int (if j = n then s.get a else s.sl j)) ∨ (valV (putK kvs (Sum.inl n) (V.int (s.get a))) (Sum.inl j : Key) = none ∧ (if j = n then s.get a else s.sl j) = 0)
              rw [valV_put]
              by_cases e : j = n
              · subst e
                rw [if_pos rfl, if_pos rfl]
                exact .inl rfl
              · rw [if_neg (fun z => e (Sum.inl.inj z)), if_neg e]
                exact hv j
            · show os.length - (((at_ : Int) + 1)).toNat < os.length - ((at_ : Int)).toNat
              omega
          | set a n => cases hp
          | copy a b => cases hp
          | add a b c => cases hp
          | sub a b c => cases hp
          | mul a b c => cases hp
          | left a b => cases hp
          | right a b => cases hp
          | load a n => cases hp
        | true =>
          obtain ⟨n1, n2, n3⟩ := puts_no hp
          have hto := puts_to_lt ho
          rw [puts_jump hp] at hR
          refine iteSN n1 ?_
          refine ⟨_, rfl, q, _, _, .str o.rw.w, rfl, rfl, SqT.of hq1, atI_nat (j := 0) rfl, rfl, _, rfl, iteSN n2 ?_⟩
          refine seq_by (fun σ H2 => H2 = H1 ∧ σ = [some (.ref rows), some (.int (wd : Int)), some (.int (m : Int)), some (.ref ia), some (.ref fa), some (.ref nums), some (.ref sd), some (.int ((at_ : Int) + 1)), some (.int (s.rt : Int)), a, some (.ref q), some (.int 0)]) (fun D' hD' => hD' _ _ ⟨rfl, rfl⟩) ?_
          rintro σ H2 ⟨rfl, rfl⟩
          refine seq_by (fun σ H3 => H3 = H2 ∧ ∃ (fill : Int) (r : Nat), σ = [some (.ref rows), some (.int (wd : Int)), some (.int (m : Int)), some (.ref ia), some (.ref fa), some (.ref nums), some (.ref sd), some (.int ((at_ : Int) + 1)), some (.int (r : Int)), a, some (.ref q), some (.int fill)] ∧ (fill = 0 ∨ fill = 1) ∧ o.run wd fl s = ⟨s.rg.set o.to (o.val wd fill s), s.sl, r⟩) (fun D' hD' => ?_) ?_
          · refine ⟨_, rfl, q, _, _, .str o.rw.w, rfl, rfl, SqT.of hq1, atI_nat (j := 0) rfl, rfl, _, rfl, ?_⟩
            rcases n3 with e | ⟨e, erun⟩
            · rw [e]
              refine iteSY ?_
              obtain ⟨ys, hys, hyv, hyl, hyb⟩ := hfl.same sm
              have hlen : SqL K H2 fa (ys.map V.int) ∨ SqT K H2 fa (ys.map V.int) := by
                rcases hys with h | ⟨rfl, h⟩
                · exact .inl h
                · exact .inr h
              refine ⟨_, rfl, _, rfl, fa, _, rfl, hlen, _, _, rfl, rfl, _, rfl, ?_⟩
              rw [List.length_map]
              have hb := hfl.flAt.bit s.rt
              refine ite2 (fun h => ?_) (fun h => ?_)
              · have h := of_decide_eq_true h
                have hlt : s.rt < ys.length := by omega
                have hy : (ys.map V.int)[s.rt]? = some (.int (fl s.rt)) := by
                  rw [List.getElem?_map, hyv, List.getD_eq_getElem?_getD, List.getElem?_eq_getElem hlt]
                  rfl
                rcases hys with h2 | ⟨h2, _⟩
                · refine ⟨_, rfl, _, rfl, fa, _, _, .int (fl s.rt), rfl, rfl, h2, atI_nat hy, _, rfl, _, _, rfl, rfl, ?_⟩
                  exact hD' _ _ ⟨rfl, fl s.rt, s.rt + 1, rfl, hb, right_run e wd fl s⟩
                · rw [h2] at hlt
                  exact absurd hlt (by simp)
              · have h := of_decide_eq_false (Bool.eq_false_iff.mpr h)
                have e0 : fl s.rt = 0 := by
                  rw [hyv, List.getD_eq_getElem?_getD, List.getElem?_eq_none (by omega)]
                  rfl
                refine ⟨_, rfl, _, _, rfl, rfl, ?_⟩
                refine hD' _ _ ⟨rfl, 0, s.rt + 1, rfl, .inl rfl, ?_⟩
                have q2 := right_run e wd fl s
                rw [e0] at q2
                exact q2
            · exact iteSN e (hD' _ _ ⟨rfl, 0, s.rt, rfl, .inl rfl, erun wd fl s 0⟩)
          · rintro σ H4 ⟨rfl, fill, r, rfl, hf, erun⟩
            refine ⟨_, rfl, _, rfl, _, rfl, _, rfl, _, rfl, q, nums, sd, o, s, at_, wd, m, fill, rfl, hq1, ho, hp, hn, hsl, hok, w1, w64, hf, fun H3 sm3 => ?_⟩
            have hn3 := sm3 _ _ hn
            have hl : (s.rg.map V.int).length = m := by rw [List.length_map, hok.len]
            refine ⟨_, rfl, _, rfl, q, _, _, .int (o.to : Int), rfl, rfl, SqT.of (hq1.same sm3), atI_nat (j := 1) (puts_to hp), nums, _, _, o.to, rfl, rfl, hn3, by rw [hl]; exact ixN_nat hto, ?_⟩
            refine ⟨⟨at_ + 1, o.run wd fl s, _, _, _, by rw [erun]; rfl, same_upd (sm.trans sm3) nums0, ?_, ?_, hok.run w1 hfl.flAt.bit o, by omega, hR⟩, ?_⟩
            · rw [upd_same, erun, List.map_set]
            · rw [erun]
              exact (hsl.same fun kvs h => by rw [upd_ne nsn]; exact sm3 _ _ h).more (by omega)
            · show os.length - (((at_ : Int) + 1)).toNat < os.length - ((at_ : Int)).toNat
              omega
      · have hlt : ¬ ((at_ : Int) < (os.length : Int)) := of_decide_eq_false (Bool.eq_false_iff.mpr hlt)
        have ea : at_ = os.length := by omega
        rw [ea, List.drop_length] at hR
        have hR : s = ranR wd m fl os xs := by
          rw [← hR]
          unfold goM
          rfl
        have h0 : (s.rg.map V.int)[0]? = some (.int (s.get 0)) := by
          rw [List.getElem?_map]
          unfold Ms.get
          rw [List.getD_eq_getElem?_getD, List.getElem?_eq_getElem (by rw [hok.len]; omega)]
          rfl
        refine ⟨_, rfl, nums, _, _, .int (s.get 0), rfl, rfl, SqL.of hn, atI_nat h0, _, rfl, (by show 2 ≤ sizeLine; decide), fun t ht => ?_⟩
        refine k t _ (sm.trans (new_same ht)) ?_
        rw [upd_same, hR]
    · intro σ H1 Q1 Q2 hq hc
      obtain ⟨x1, e1, x2, e2, p1, ys1, e3, sq, i1, j1, e4, e5, k1, e6, hc⟩ := hc
      exact ⟨x1, e1, x2, e2, p1, ys1, e3, sq, i1, j1, e4, e5, k1, e6, hq _ _ hc⟩
end
end My

set_option pp.maxSteps 400
set_option Elab.async false
set_option linter.all false
set_option maxRecDepth 100000
set_option maxHeartbeats 1000000
namespace My
open PySem L2 MyR
theorem cut_front (a b : List V) (k : Nat) (hk : a.length = k) : cutV (a ++ b) none (some (k : Int)) = a := by
  unfold cutV
  rw [HT.sIx_nat]
  show ((a ++ b).drop 0).take (min k (a ++ b).length - 0) = a
  rw [List.drop_zero, List.length_append, Nat.sub_zero, show min k (a.length + b.length) = a.length by omega, List.take_left]
theorem not_whole_front (a b : List V) (k : Nat) (hk : a.length = k) (hb : b ≠ []) : ¬ (HT.sIx (a ++ b).length 0 none = 0 ∧ HT.sIx (a ++ b).length (a ++ b).length (some (k : Int)) = (a ++ b).length) := by
  rintro ⟨_, h⟩
  rw [HT.sIx_nat, List.length_append] at h
  have : 0 < b.length := List.length_pos_iff.mpr hb
  omega

theorem atI_in {xs : List V} {i : Int} (h0 : 0 ≤ i) (h1 : i < xs.length) : ∃ v, v ∈ xs ∧ atI xs i = some v := by
  obtain ⟨j, rfl⟩ : ∃ j : Nat, i = (j : Int) := ⟨i.toNat, by omega⟩
  have hj : j < xs.length := by omega
  exact ⟨xs[j], List.getElem_mem hj, atI_nat (List.getElem?_eq_getElem hj)⟩
theorem ix_draw {K : PySem.W.Frag} {H : Hp} {L : Addr} {xs : List V} {r : Int} {Q : VK} (h : H L = some (.lst xs)) (h0 : 0 ≤ r) (h1 : r < xs.length) (k : ∀ v ∈ xs, Q v H) : rIxL K (.ref L) (.int r) H Q := by
  obtain ⟨v, hv, e⟩ := atI_in h0 h1
  exact ⟨L, xs, r, v, rfl, rfl, SqL.of h, e, k v hv⟩
theorem pow_le {j : Nat} (h : j < 64) : (1 : Int) ≤ 2 ^ j ∧ (2 : Int) ^ j ≤ 9223372036854775808 := by
  have q : ∀ j < 64, (1 : Int) ≤ 2 ^ j ∧ (2 : Int) ^ j ≤ 9223372036854775808 := by decide +kernel
  exact q j h
theorem pow_mods {j : Nat} (h : j < 7) : (1 : Int) * 2 ^ j ∈ mods := by
  have q : ∀ j < 7, (1 : Int) * 2 ^ j ∈ mods := by decide +kernel
  exact q j h
/-! ### rows by their forms -/
theorem ok_of {w f : Str} {xs : List Int} {cs : List Nat} (hm : (w, f) ∈ forms) (hf : f.cps = cs.toArray) (hl : xs.length = cs.length) (hit : ∀ (i c : Nat) (z : Int), cs[i]? = some c → xs[i]? = some z → itOk c z) (ns : w = ("skip" : Str) → ∃ a m c n : Int, xs = [a, m, c, n] ∧ c < m) : Rw.ok ⟨w, xs⟩ :=
  ⟨⟨f, hm, by rw [hf]; simpa using hl, fun i c z hc hz => hit i c z (by rw [hf] at hc; simpa using hc) hz⟩, ns⟩
theorem ok2 {w f : Str} {a b : Int} {c0 c1 : Nat} (hm : (w, f) ∈ forms) (hf : f.cps = #[c0, c1]) (ns : w ≠ ("skip" : Str)) (h0 : itOk c0 a) (h1 : itOk c1 b) : Rw.ok ⟨w, [a, b]⟩ :=
  ok_of (cs := [c0, c1]) hm hf rfl (fun i c z hc hz => by
    match i, hc, hz with
    | 0, hc, hz => cases hc; cases hz; exact h0
    | 1, hc, hz => cases hc; cases hz; exact h1
    | i + 2, hc, hz => simp at hc) (fun e => absurd e ns)
theorem ok3 {w f : Str} {a b c : Int} {c0 c1 c2 : Nat} (hm : (w, f) ∈ forms) (hf : f.cps = #[c0, c1, c2]) (ns : w ≠ ("skip" : Str)) (h0 : itOk c0 a) (h1 : itOk c1 b) (h2 : itOk c2 c) : Rw.ok ⟨w, [a, b, c]⟩ :=
  ok_of (cs := [c0, c1, c2]) hm hf rfl (fun i c z hc hz => by
    match i, hc, hz with
    | 0, hc, hz => cases hc; cases hz; exact h0
    | 1, hc, hz => cases hc; cases hz; exact h1
    | 2, hc, hz => cases hc; cases hz; exact h2
    | i + 3, hc, hz => simp at hc) (fun e => absurd e ns)
theorem ok4 {a m c n : Int} (h0 : 0 ≤ a) (h0' : a ≤ 7) (h1 : m ∈ mods) (h2 : 0 ≤ c) (h2' : c < m) (h3 : 0 ≤ n) (h3' : n ≤ 1000) : Rw.ok ⟨"skip", [a, m, c, n]⟩ :=
  ok_of (f := "RMCN") (cs := [82, 77, 67, 78]) (by decide +kernel) (by decide +kernel) rfl (fun i cc z hc hz => by
    have hb := mods_bound m h1
    match i, hc, hz with
    | 0, hc, hz => cases hc; cases hz; unfold itOk; omega
    | 1, hc, hz => cases hc; cases hz; exact .inr (.inr (.inr (.inl ⟨rfl, h1⟩)))
    | 2, hc, hz => cases hc; cases hz; unfold itOk; omega
    | 3, hc, hz => cases hc; cases hz; unfold itOk; omega
    | i + 4, hc, hz => simp at hc) (fun _ => ⟨a, m, c, n, rfl, h2'⟩)
theorem itW {c : Nat} {z : Int} (h : c = 87 ∨ c = 82) (h0 : 0 ≤ z) (h1 : z ≤ 7) : itOk c z := .inr (.inl ⟨h, h0, h1⟩)
theorem itS {z : Int} (h0 : 0 ≤ z) (h1 : z ≤ 999) : itOk 83 z := .inr (.inr (.inl ⟨rfl, h0, h1⟩))
def spNum : Sp := fun vs H Q _ => ∃ (d l : Addr), vs = [.ref d] ∧ Deal H d l ∧
  ∀ (z : Int) (H' : Hp), -18446744073709551616 < z → z < 18446744073709551616 → Deal H' d l → Kept d l H H' → Q (.int z) H'
/-- a row that may stand at a place behind which `left` rows stand -/
def spRowO : Sp := fun vs H Q _ => ∃ (d l : Addr) (m : Nat) (left : Int), vs = [.ref d, .int (m : Int), .int left] ∧ Deal H d l ∧ 3 ≤ m ∧ m ≤ 8 ∧ 0 ≤ left ∧ left ≤ 900 ∧
  ∀ (q : Addr) (o : Op) (H' : Hp), Deal H' d l → Kept d l H H' → RowAt H' o.rw q → o.ok m → (o.far : Int) ≤ left → Q (.ref q) H'

/-- drawn rows, a new list -/
def OsOk (m : Nat) (os : List Op) : Prop := (∀ o ∈ os, o.ok m) ∧ FitsO os
def spRowsO (extra : List V) : Sp := fun vs H Q _ => ∃ (d l : Addr) (m n : Nat), vs = [.ref d, .int (m : Int), .int (n : Int)] ++ extra ∧ Deal H d l ∧ 3 ≤ m ∧ m ≤ 8 ∧ n ≤ 900 ∧
  ∀ (q : Addr) (os : List Op) (H' : Hp), H q = none → Deal H' d l → Kept d l H H' → LstAt H' (os.map Op.rw) q → OsOk m os → os.length = n → Q (.ref q) H'
theorem snoc_at {α : Type} {xs : List α} {y z : α} {j : Nat} (h : (xs ++ [y])[j]? = some z) : (j < xs.length ∧ xs[j]? = some z) ∨ (j = xs.length ∧ y = z) := by
  by_cases hj : j < xs.length
  · rw [List.getElem?_append_left hj] at h
    exact .inl ⟨hj, h⟩
  · rw [List.getElem?_append_right (by omega)] at h
    cases e : j - xs.length with
    | zero => rw [e] at h; exact .inr ⟨by omega, Option.some.inj h⟩
    | succ k => rw [e] at h; simp at h
/-- rows that stand so far, of n -/
def PreO (m n : Nat) (os : List Op) : Prop := ∀ (j : Nat) o, os[j]? = some o → o.ok m ∧ j + 1 + o.far ≤ n
theorem PreO.snoc {m n : Nat} {os : List Op} {o : Op} (h : PreO m n os) (ho : o.ok m) (hf : os.length + 1 + o.far ≤ n) : PreO m n (os ++ [o]) := fun j o' e => by
  rcases snoc_at e with ⟨_, e⟩ | ⟨e1, rfl⟩
  · exact h j o' e
  · rw [e1]
    exact ⟨ho, hf⟩
theorem PreO.all {m n : Nat} {os : List Op} (h : PreO m n os) (hn : os.length = n) : OsOk m os := ⟨fun o ho => by
  obtain ⟨j, hj⟩ := List.mem_iff_getElem?.mp ho
  exact (h j o hj).1, fun j o e => by rw [hn]; exact (h j o e).2⟩
section
variable {P : Program} {w : World} {K : PySem.W.Frag} {mg : Str → Option Value} {base : Heap}
abbrev s_law_number : Stmt := top 46
abbrev N_law_number : List Str := ["_law_deal_here", "_law_form", "_law_number_here"]
theorem sc_law_number : FnScope N_law_number ["_law_deal_here"] (defScope s_law_number) := ⟨rfl, rfl, rfl, by decide +kernel, rfl, by decide +kernel, by decide +kernel⟩
theorem ok_law_number {f : Addr} {fd : FuncData} (F : Fun K "_law_number" "_law_number" s_law_number f fd) (T : Glob mg) (D_law_draw : Df P w K mg base 1 "_law_draw" ["_law_deal_here", "_law_many"] spDraw) :
    FnOk P w K mg base CX0 2 f fd ["_law_deal_here"] spNum := by
  refine F.ok sc_law_number (fun vs H Q E h => ?_) (fun cdv A outer s H vs Q E hr h => ?_)
  · obtain ⟨d, l, rfl, _⟩ := h
    rfl
  · obtain ⟨d, l, rfl, D, k⟩ := h
    have hu := hu_of hr
    have nd := sc_law_number.nd
    refine ⟨_, (pss_cons (ps_set (i := 1) nd rfl (Or.inl rfl) (pe_call D_law_draw.ok (hr.mono (by decide)) (by rfl) D_law_draw.g D_law_draw.kp D_law_draw.b .nil pass0 (pa_cons (pv 0) (pa_cons pe_int pa_nil))))
    (pss_cons (ps_set (i := 2) nd rfl (Or.inl rfl) (pe_call D_law_draw.ok (hr.mono (by decide)) (by rfl) D_law_draw.g D_law_draw.kp D_law_draw.b .nil pass0 (pa_cons (pv 0) (pa_cons pe_int pa_nil))))
    (pss_cons (ps_if (pt_cmpR op_eq (pv 1) pe_int (nomark _))
    (pss_one (ps_set (i := 2) nd rfl (Or.inl rfl) (pe_op op_sub (pe_op op_shl pe_int (pe_call D_law_draw.ok (hr.mono (by decide)) (by rfl) D_law_draw.g D_law_draw.kp D_law_draw.b .nil pass0 (pa_cons (pv 0) (pa_cons pe_int pa_nil)))) (pe_call D_law_draw.ok (hr.mono (by decide)) (by rfl) D_law_draw.g D_law_draw.kp D_law_draw.b .nil pass0 (pa_cons (pv 0) (pa_cons pe_int pa_nil))))))
    pss_nil)
    (pss_cons (ps_if (pt_cmpR op_eq (pv 1) pe_int (nomark _))
    (pss_one (ps_set (i := 2) nd rfl (Or.inl rfl) (pe_call D_law_draw.ok (hr.mono (by decide)) (by rfl) D_law_draw.g D_law_draw.kp D_law_draw.b .nil pass0 (pa_cons (pv 0) (pa_cons (pe_op op_shl pe_int pe_int) pa_nil)))))
    pss_nil)
    (pss_one (ps_ret (pe_ix ix_list (pe_lst (pa_cons (pv 2) (pa_cons (pe_op op_sub pe_int (pv 2)) pa_nil))) (pe_call D_law_draw.ok (hr.mono (by decide)) (by rfl) D_law_draw.g D_law_draw.kp D_law_draw.b .nil pass0 (pa_cons (pv 0) (pa_cons pe_int pa_nil))) (fun _ _ => rfl)))))))), ?_⟩
    refine ⟨_, rfl, d, l, _, rfl, D, by decide, by decide, fun fo H1 fo0 fo1 D1 kp1 => ?_⟩
    refine ⟨_, rfl, d, l, _, rfl, D1, by decide, by decide, fun a H2 a0 a1 D2 kp2 => ?_⟩
    dsimp only
    refine seq_by (fun σ H3 => ∃ z : Int, σ = [some (.ref d), some (.int fo), some (.int z)] ∧ 0 ≤ z ∧ z < 18446744073709551616 ∧ Deal H3 d l ∧ Kept d l H H3) (fun D' hD' => ?_) ?_
    · refine ⟨_, rfl, rfl, _, rfl, ?_⟩
      refine ite2 (fun _ => ?_) (fun _ => hD' _ _ ⟨a, rfl, a0, by omega, D2, kp1.trans kp2⟩)
      refine ⟨_, rfl, d, l, _, rfl, D2, by decide, by decide, fun b H3 b0 b1 D3 kp3 => ?_⟩
      refine ⟨_, _, rfl, rfl, ⟨by omega, by omega, by decide⟩, ?_⟩
      refine ⟨_, rfl, d, l, _, rfl, D3, by decide, by decide, fun e H4 e0 e1 D4 kp4 => ?_⟩
      have hb := pow_le (j := b.toNat) (by omega)
      exact ⟨_, _, rfl, rfl, hD' _ _ ⟨_, rfl, by omega, by omega, D4, ((kp1.trans kp2).trans kp3).trans kp4⟩⟩
    rintro σ H3 ⟨z, rfl, z0, z1, D3, kp3⟩
    refine seq_by (fun σ H4 => ∃ z : Int, σ = [some (.ref d), some (.int fo), some (.int z)] ∧ 0 ≤ z ∧ z < 18446744073709551616 ∧ Deal H4 d l ∧ Kept d l H H4) (fun D' hD' => ?_) ?_
    · refine ⟨_, rfl, rfl, _, rfl, ?_⟩
      refine ite2 (fun _ => ?_) (fun _ => hD' _ _ ⟨z, rfl, z0, z1, D3, kp3⟩)
      refine ⟨_, rfl, _, _, rfl, rfl, ⟨by decide, by decide, by decide⟩, d, l, _, rfl, D3, by decide, by decide, fun b H4 b0 b1 D4 kp4 => ?_⟩
      have e64 : (1 : Int) * 2 ^ (64 : Int).toNat = 18446744073709551616 := by decide +kernel
      rw [e64] at b1
      exact hD' _ _ ⟨b, rfl, b0, b1, D4, kp3.trans kp4⟩
    rintro σ H4 ⟨y, rfl, y0, y1, D4, kp4⟩
    refine ⟨_, rfl, _, rfl, _, _, rfl, rfl, (by show 2 ≤ sizeLine; decide), fun t ht => ?_⟩
    obtain ⟨ntd, ntl⟩ := D4.free ht
    have D5 := D4.new (o := .lst [V.int y, V.int (0 - y)]) ht
    refine ⟨_, rfl, d, l, _, rfl, D5, by decide, by decide, fun j H6 j0 j1 D6 kp6 => ?_⟩
    have h6 : H6 t = some (.lst [V.int y, V.int (0 - y)]) := kp6 _ _ upd_same ntd ntl
    have kp : Kept d l H H6 := (kp4.new (kp4.free D4 ht)).trans kp6
    refine ix_draw h6 j0 j1 (fun v hv => ?_)
    have hv' : v = V.int y ∨ v = V.int (0 - y) := by simpa using hv
    rcases hv' with rfl | rfl
    · exact k y H6 (by omega) (by omega) D6 kp
    · exact k (0 - y) H6 (by omega) (by omega) D6 kp
abbrev s_law_row : Stmt := top 50
abbrev N_law_row : List Str := ["_law_deal_here", "_law_registers", "_law_left", "_law_words", "_law_word", "_law_r", "_law_a", "_law_b", "_law_turn", "_law_modulus"]
theorem sc_law_row : FnScope N_law_row ["_law_deal_here", "_law_registers", "_law_left"] (defScope s_law_row) := ⟨rfl, rfl, rfl, by decide +kernel, rfl, by decide +kernel, by decide +kernel⟩
def wordsL : List Str := ["set", "copy", "add", "sub", "mul", "add", "mul", "left", "right", "right", "load", "store", "skip"]
theorem word_cases : ∀ z ∈ wordsL, z = ("set" : Str) ∨ (z = ("copy" : Str) ∨ z = ("left" : Str) ∨ z = ("right" : Str)) ∨ z = ("load" : Str) ∨ z = ("store" : Str) ∨ z = ("skip" : Str) ∨ (z = ("add" : Str) ∨ z = ("sub" : Str) ∨ z = ("mul" : Str)) := by decide +kernel
def two : List Str := ["copy", "left", "right"]
theorem inV_strs (z : Str) (zs : List Str) : inV (.str z) (zs.map V.str) = true ↔ z ∈ zs := by
  unfold inV
  rw [List.any_map, List.any_eq_true]
  constructor
  · rintro ⟨y, hy, e⟩
    have e' : (y == z) = true := e
    rw [← beq_iff_eq.mp e']
    exact hy
  · intro h
    exact ⟨z, h, by show (z == z) = true; exact beq_self_eq_true z⟩
theorem ok_law_row {f : Addr} {fd : FuncData} (F : Fun K "_law_row" "_law_row" s_law_row f fd) (T : Glob mg) (D_law_draw : Df P w K mg base 1 "_law_draw" ["_law_deal_here", "_law_many"] spDraw) (D_law_number : Df P w K mg base 2 "_law_number" ["_law_deal_here"] spNum) :
    FnOk P w K mg base CX0 3 f fd ["_law_deal_here", "_law_registers", "_law_left"] spRowO := by
  refine F.ok sc_law_row (fun vs H Q E h => ?_) (fun cdv A outer s H vs Q E hr h => ?_)
  · obtain ⟨d, l, m, left, rfl, _⟩ := h
    rfl
  · obtain ⟨d, l, m, left, rfl, D, m1, m8, l0, l9, k⟩ := h
    have l0' : ((0 : Nat) : Int) ≤ left := l0
    have hu := hu_of hr
    have nd := sc_law_row.nd
    refine ⟨_, (pss_cons (ps_set (i := 3) nd rfl (Or.inl rfl) (pe_tup (pa_cons pe_str (pa_cons pe_str (pa_cons pe_str (pa_cons pe_str (pa_cons pe_str (pa_cons pe_str (pa_cons pe_str (pa_cons pe_str (pa_cons pe_str (pa_cons pe_str (pa_cons pe_str (pa_cons pe_str (pa_cons pe_str pa_nil)))))))))))))))
    (pss_cons (ps_set (i := 4) nd rfl (Or.inl rfl) (pe_ix ix_tup (pv 3) (pe_call D_law_draw.ok (hr.mono (by decide)) (by rfl) D_law_draw.g D_law_draw.kp D_law_draw.b .nil pass0 (pa_cons (pv 0) (pa_cons pe_int pa_nil))) (fun _ _ => rfl)))
    (pss_cons (ps_asg (pe_lc (own := [("_law_turn", 8)]) (g := gName 8) (tt := tYes) rfl nd (pi_range1 (by rfl) T.g_range (pa_cons pe_int pa_nil)) (blkOk_by (N := N_law_row) (sc := defScope s_law_row) (by decide +kernel)) (fun _ _ _ _ _ => pg_name (i := 8) nd rfl (Or.inl rfl)) (fun _ _ _ _ _ => pts_nil) (fun _ _ _ _ _ => (pe_call D_law_draw.ok (hr.mono (by decide)) (by rfl) D_law_draw.g D_law_draw.kp D_law_draw.b .nil pass0 (pa_cons (pv 0) (pa_cons (pv 1) pa_nil))))) (pg_unl (by rfl) (pgs_cons (pg_name (i := 5) nd rfl (Or.inl rfl)) (pgs_cons (pg_name (i := 6) nd rfl (Or.inl rfl)) (pgs_cons (pg_name (i := 7) nd rfl (Or.inl rfl)) pgs_nil)))))
    (pss_cons (ps_if (pt_cmpR op_eq (pv 4) pe_str (nomark _))
    (pss_one (ps_ret (pe_tup (pa_cons (pv 4) (pa_cons (pv 5) (pa_cons (pe_call D_law_number.ok (hr.mono (by decide)) (by rfl) D_law_number.g D_law_number.kp D_law_number.b .nil pass0 (pa_cons (pv 0) pa_nil)) pa_nil))))))
    pss_nil)
    (pss_cons (ps_if (pt_cmpR op_in_seq (pv 4) (pe_tup (pa_cons pe_str (pa_cons pe_str (pa_cons pe_str pa_nil)))) (by rfl))
    (pss_one (ps_ret (pe_tup (pa_cons (pv 4) (pa_cons (pv 5) (pa_cons (pv 6) pa_nil))))))
    pss_nil)
    (pss_cons (ps_if (pt_cmpR op_eq (pv 4) pe_str (nomark _))
    (pss_one (ps_ret (pe_tup (pa_cons (pv 4) (pa_cons (pv 5) (pa_cons (pe_ix ix_list (pe_lst (pa_cons pe_int (pa_cons pe_int (pa_cons pe_int pa_nil)))) (pe_call D_law_draw.ok (hr.mono (by decide)) (by rfl) D_law_draw.g D_law_draw.kp D_law_draw.b .nil pass0 (pa_cons (pv 0) (pa_cons pe_int pa_nil))) (fun _ _ => rfl)) pa_nil))))))
    pss_nil)
    (pss_cons (ps_if (pt_cmpR op_eq (pv 4) pe_str (nomark _))
    (pss_one (ps_ret (pe_tup (pa_cons (pv 4) (pa_cons (pe_ix ix_list (pe_lst (pa_cons pe_int (pa_cons pe_int (pa_cons pe_int pa_nil)))) (pe_call D_law_draw.ok (hr.mono (by decide)) (by rfl) D_law_draw.g D_law_draw.kp D_law_draw.b .nil pass0 (pa_cons (pv 0) (pa_cons pe_int pa_nil))) (fun _ _ => rfl)) (pa_cons (pv 6) pa_nil))))))
    pss_nil)
    (pss_cons (ps_if (pt_cmpR op_eq (pv 4) pe_str (nomark _))
    (pss_cons (ps_set (i := 9) nd rfl (Or.inl rfl) (pe_op op_shl pe_int (pe_call D_law_draw.ok (hr.mono (by decide)) (by rfl) D_law_draw.g D_law_draw.kp D_law_draw.b .nil pass0 (pa_cons (pv 0) (pa_cons pe_int pa_nil)))))
    (pss_one (ps_ret (pe_tup (pa_cons (pv 4) (pa_cons (pv 6) (pa_cons (pv 9) (pa_cons (pe_call D_law_draw.ok (hr.mono (by decide)) (by rfl) D_law_draw.g D_law_draw.kp D_law_draw.b .nil pass0 (pa_cons (pv 0) (pa_cons (pv 9) pa_nil))) (pa_cons (pe_call D_law_draw.ok (hr.mono (by decide)) (by rfl) D_law_draw.g D_law_draw.kp D_law_draw.b .nil pass0 (pa_cons (pv 0) (pa_cons (pe_op op_add (pv 2) pe_int) pa_nil))) pa_nil)))))))))
    pss_nil)
    (pss_one (ps_ret (pe_tup (pa_cons (pv 4) (pa_cons (pv 5) (pa_cons (pv 6) (pa_cons (pv 7) pa_nil))))))))))))))), ?_⟩
    refine ⟨(by show 13 ≤ sizeLine; decide), fun t ht => ?_⟩
    obtain ⟨ntd, ntl⟩ := D.free ht
    have D1 := D.new (o := .tup (wordsL.map V.str)) ht
    refine ⟨_, rfl, _, rfl, d, l, _, rfl, D1, by decide, by decide, fun wi H1 w0 w1 D2 kp2 => ?_⟩
    have ht1 : H1 t = some (.tup (wordsL.map V.str)) := kp2 _ _ upd_same ntd ntl
    have kpA : Kept d l H H1 := (Kept.refl.new ht).trans kp2
    obtain ⟨v, hv, hat⟩ := atI_in (xs := wordsL.map V.str) w0 (by show wi < (13 : Int); exact w1)
    obtain ⟨z, hz, rfl⟩ := List.mem_map.mp hv
    have hz := word_cases z hz
    refine ⟨t, _, _, _, rfl, rfl, SqT.of ht1, hat, ?_⟩
    -- three registers
    refine ⟨3, rfl, by decide, by decide, fun L hL => ?_⟩
    obtain ⟨nLd, nLl⟩ := D2.free hL
    refine lc_range (lo := 0) (n := 3) (fun i H2 => ∃ rs : List Int, H2 L = some (.lst (rs.map V.int)) ∧ rs.length = i ∧ (∀ r ∈ rs, 0 ≤ r ∧ r < (m : Int)) ∧ Deal H2 d l ∧ Kept d l H H2) ⟨[], upd_same, rfl, fun r h => (nomatch h), D2.new hL, kpA.new (kpA.free D2 hL)⟩ ?_ ?_
    · rintro i H2 hi ⟨rs, h2, hl2, hrs, D3, kp3⟩
      refine ⟨rfl, ?_⟩
      refine ⟨_, rfl, _, rfl, d, l, _, rfl, D3, by omega, by omega, fun x H3 x0 x1 D4 kp4 => ?_⟩
      refine ⟨rs.map V.int, kp4 _ _ h2 nLd nLl, by rw [List.length_map]; exact small1000 (by omega), rs ++ [x], ?_, by rw [List.length_append, hl2]; rfl, fun r hr => ?_, D4.other nLd nLl, (kp3.trans kp4).new (kpA.free D2 hL)⟩
      · rw [upd_same, List.map_append]
        rfl
      · rcases List.mem_append.mp hr with h | h
        · exact hrs r h
        · rw [List.mem_singleton.mp h]
          omega
    rintro H2 ⟨rs, h2, hl2, hrs, D3, kp3⟩
    obtain ⟨x, a, b, rfl⟩ : ∃ x a b : Int, rs = [x, a, b] := by
      match rs, hl2 with
      | [x, a, b], _ => exact ⟨x, a, b, rfl⟩
    have hx := hrs x (by simp)
    have ha := hrs a (by simp)
    have hb := hrs b (by simp)
    obtain ⟨x, rfl⟩ : ∃ n : Nat, x = (n : Int) := ⟨x.toNat, by omega⟩
    obtain ⟨a, rfl⟩ : ∃ n : Nat, a = (n : Int) := ⟨a.toNat, by omega⟩
    obtain ⟨b, rfl⟩ : ∃ n : Nat, b = (n : Int) := ⟨b.toNat, by omega⟩
    have hx : x < m := by omega
    have ha : a < m := by omega
    have hb : b < m := by omega
    refine ⟨L, _, rfl, SqL.of h2, rfl, _, _, rfl, _, _, rfl, _, _, rfl, rfl, ?_⟩
    -- a new row
    have fin : ∀ (H3 : Hp) (o : Op), Deal H3 d l → Kept d l H H3 → o.ok m → (o.far : Int) ≤ left → ∀ q, H3 q = none → Q (.ref q) (upd H3 q (.tup o.rw.vs)) := fun H3 o D4 kp4 ok hf q hq => k q o _ (D4.new hq) (kp4.new (kp4.free D4 hq)) upd_same ok hf
    refine ⟨_, rfl, rfl, _, rfl, ?_⟩
    refine ite2 (fun h => ?_) (fun n1 => ?_)
    · obtain rfl := V.str.inj (of_decide_eq_true h)
      refine ⟨_, rfl, _, rfl, _, rfl, d, l, rfl, D3, fun n H3 n0 n1 D4 kp4 => ?_⟩
      refine ⟨(by show 3 ≤ sizeLine; decide), fin H3 (.set x n) D4 (kp3.trans kp4) ⟨hx, n0, n1⟩ l0'⟩
    have n1 : ¬ z = ("set" : Str) := fun e => n1 (decide_eq_true (by rw [e]))
    refine ⟨_, rfl, (by show 3 ≤ sizeLine; decide), fun u hu0 => ?_⟩
    have D4 := D3.new (o := .tup (two.map V.str)) hu0
    have kp4 : Kept d l H (upd H2 u (.tup (two.map V.str))) := kp3.new (kp3.free D3 hu0)
    refine ⟨u, _, rfl, .inr (SqT.of upd_same), rfl, by rfl, _, rfl, ?_⟩
    refine ite2 (fun h => ?_) (fun n2 => ?_)
    · have h := (inV_strs z two).mp h
      have h : z = ("copy" : Str) ∨ z = ("left" : Str) ∨ z = ("right" : Str) := by simpa [two] using h
      refine ⟨_, rfl, _, rfl, _, rfl, (by show 3 ≤ sizeLine; decide), ?_⟩
      rcases h with rfl | rfl | rfl
      · exact fin _ (.copy x a) D4 kp4 ⟨hx, ha⟩ l0'
      · exact fin _ (.left x a) D4 kp4 ⟨hx, ha⟩ l0'
      · exact fin _ (.right x a) D4 kp4 ⟨hx, ha⟩ l0'
    have n2 : ¬ (z = ("copy" : Str) ∨ z = ("left" : Str) ∨ z = ("right" : Str)) := fun e => n2 ((inV_strs z two).mpr (by simpa [two] using e))
    refine ⟨_, rfl, rfl, _, rfl, ?_⟩
    refine ite2 (fun h => ?_) (fun n3 => ?_)
    · obtain rfl := V.str.inj (of_decide_eq_true h)
      refine ⟨_, rfl, _, rfl, (by show 3 ≤ sizeLine; decide), fun t2 ht2 => ?_⟩
      obtain ⟨nad, nal⟩ := D4.free ht2
      have D5 := D4.new (o := .lst ([0, 7, 999].map V.int)) ht2
      have kp5 := kp4.new (o := .lst ([0, 7, 999].map V.int)) (kp4.free D4 ht2)
      refine ⟨_, rfl, d, l, _, rfl, D5, by decide, by decide, fun j H6 j0 j1 D6 kp6 => ?_⟩
      refine ix_draw (xs := [0, 7, 999].map V.int) (kp6 _ _ upd_same nad nal) j0 j1 (fun v hv => ?_)
      obtain ⟨s0, hs0, rfl⟩ := List.mem_map.mp hv
      have hs : 0 ≤ s0 ∧ s0 ≤ 999 := by
        have q : ∀ s ∈ ([0, 7, 999] : List Int), 0 ≤ s ∧ s ≤ 999 := by decide
        exact q s0 hs0
      exact ⟨(by show 3 ≤ sizeLine; decide), fin H6 (.load x s0) D6 (kp5.trans kp6) ⟨hx, hs⟩ l0'⟩
    have n3 : ¬ z = ("load" : Str) := fun e => n3 (decide_eq_true (by rw [e]))
    refine ⟨_, rfl, rfl, _, rfl, ?_⟩
    refine ite2 (fun h => ?_) (fun n4 => ?_)
    · obtain rfl := V.str.inj (of_decide_eq_true h)
      refine ⟨_, rfl, (by show 3 ≤ sizeLine; decide), fun t2 ht2 => ?_⟩
      obtain ⟨nad, nal⟩ := D4.free ht2
      have D5 := D4.new (o := .lst ([0, 7, 999].map V.int)) ht2
      have kp5 := kp4.new (o := .lst ([0, 7, 999].map V.int)) (kp4.free D4 ht2)
      refine ⟨_, rfl, d, l, _, rfl, D5, by decide, by decide, fun j H6 j0 j1 D6 kp6 => ?_⟩
      refine ix_draw (xs := [0, 7, 999].map V.int) (kp6 _ _ upd_same nad nal) j0 j1 (fun v hv => ?_)
      obtain ⟨s0, hs0, rfl⟩ := List.mem_map.mp hv
      have hs : 0 ≤ s0 ∧ s0 ≤ 999 := by
        have q : ∀ s ∈ ([0, 7, 999] : List Int), 0 ≤ s ∧ s ≤ 999 := by decide
        exact q s0 hs0
      exact ⟨_, rfl, (by show 3 ≤ sizeLine; decide), fin H6 (.store s0 a) D6 (kp5.trans kp6) ⟨ha, hs⟩ l0'⟩
    have n4 : ¬ z = ("store" : Str) := fun e => n4 (decide_eq_true (by rw [e]))
    refine ⟨_, rfl, rfl, _, rfl, ?_⟩
    refine ite2 (fun h => ?_) (fun n5 => ?_)
    · obtain rfl := V.str.inj (of_decide_eq_true h)
      refine ⟨_, rfl, d, l, _, rfl, D4, by decide, by decide, fun j H5 j0 j1 D5 kp5 => ?_⟩
      refine ⟨_, _, rfl, rfl, ⟨by omega, by omega, by decide⟩, ?_⟩
      have hm := pow_mods (j := j.toNat) (by omega)
      have hmb := mods_bound _ hm
      refine ⟨_, rfl, _, rfl, _, rfl, _, rfl, _, rfl, d, l, _, rfl, D5, by omega, by omega, fun c H6 c0 c1 D6 kp6 => ?_⟩
      refine ⟨_, rfl, _, rfl, _, _, rfl, rfl, d, l, _, rfl, D6, by omega, by omega, fun n H7 n0 n1 D7 kp7 => ?_⟩
      obtain ⟨n, rfl⟩ : ∃ k : Nat, n = (k : Int) := ⟨n.toNat, by omega⟩
      have n1 : (n : Int) ≤ left := by omega
      exact ⟨(by show 5 ≤ sizeLine; decide), fin H7 (.skip a (1 * 2 ^ j.toNat) c n) D7 (((kp4.trans kp5).trans kp6).trans kp7) ⟨ha, hm, c0, c1, by omega⟩ n1⟩
    have n5 : ¬ z = ("skip" : Str) := fun e => n5 (decide_eq_true (by rw [e]))
    refine ⟨_, rfl, _, rfl, _, rfl, _, rfl, (by show 4 ≤ sizeLine; decide), ?_⟩
    rcases hz with h | h | h | h | h | h | h | h
    · exact absurd h n1
    · exact absurd h n2
    · exact absurd h n3
    · exact absurd h n4
    · exact absurd h n5
    · subst h; exact fin _ (.add x a b) D4 kp4 ⟨hx, ha, hb⟩ l0'
    · subst h; exact fin _ (.sub x a b) D4 kp4 ⟨hx, ha, hb⟩ l0'
    · subst h; exact fin _ (.mul x a b) D4 kp4 ⟨hx, ha, hb⟩ l0'

abbrev s_law_far_row : Stmt := top 52
abbrev N_law_far_row : List Str := ["_law_deal_here", "_law_registers", "_law_left", "_law_row_here", "_law_modulus"]
theorem sc_law_far_row : FnScope N_law_far_row ["_law_deal_here", "_law_registers", "_law_left"] (defScope s_law_far_row) := ⟨rfl, rfl, rfl, by decide +kernel, rfl, by decide +kernel, by decide +kernel⟩
theorem ok_law_far_row {f : Addr} {fd : FuncData} (F : Fun K "_law_far_row" "_law_far_row" s_law_far_row f fd) (T : Glob mg) (D_law_draw : Df P w K mg base 1 "_law_draw" ["_law_deal_here", "_law_many"] spDraw)
    (D_law_row : Df P w K mg base 3 "_law_row" ["_law_deal_here", "_law_registers", "_law_left"] spRowO) : FnOk P w K mg base CX0 4 f fd ["_law_deal_here", "_law_registers", "_law_left"] spRowO := by
  refine F.ok sc_law_far_row (fun vs H Q E h => ?_) (fun cdv A outer s H vs Q E hr h => ?_)
  · obtain ⟨d, l, m, left, rfl, _⟩ := h
    rfl
  · obtain ⟨d, l, m, left, rfl, D, m1, m8, l0, l9, k⟩ := h
    have hu := hu_of hr
    have nd := sc_law_far_row.nd
    have l0' : ((0 : Nat) : Int) ≤ left := l0
    refine ⟨_, (pss_cons (ps_set (i := 3) nd rfl (Or.inl rfl) (pe_call D_law_row.ok (hr.mono (by decide)) (by rfl) D_law_row.g D_law_row.kp D_law_row.b .nil pass0 (pa_cons (pv 0) (pa_cons (pv 1) (pa_cons (pv 2) pa_nil)))))
    (pss_cons (ps_if (pt_cmpR op_eq (pe_ix ix_tup (pv 3) pe_int (fun _ _ => rfl)) pe_str (nomark _))
    (pss_one (ps_ret (pe_op op_catT (pe_slice sl_tup (pv 3) po_none (po_some pe_int)) (pe_tup (pa_cons (pe_call D_law_draw.ok (hr.mono (by decide)) (by rfl) D_law_draw.g D_law_draw.kp D_law_draw.b .nil pass0 (pa_cons (pv 0) (pa_cons pe_int pa_nil))) pa_nil)))))
    pss_nil)
    (pss_cons (ps_if (pt_cmpR op_eq (pe_ix ix_tup (pv 3) pe_int (fun _ _ => rfl)) pe_str (nomark _))
    (pss_one (ps_ret (pe_tup (pa_cons (pe_ix ix_tup (pv 3) pe_int (fun _ _ => rfl)) (pa_cons (pe_call D_law_draw.ok (hr.mono (by decide)) (by rfl) D_law_draw.g D_law_draw.kp D_law_draw.b .nil pass0 (pa_cons (pv 0) (pa_cons pe_int pa_nil))) (pa_cons (pe_ix ix_tup (pv 3) pe_int (fun _ _ => rfl)) pa_nil))))))
    pss_nil)
    (pss_cons (ps_if (pt_cmpR op_eq (pe_ix ix_tup (pv 3) pe_int (fun _ _ => rfl)) pe_str (nomark _))
    (pss_cons (ps_set (i := 4) nd rfl (Or.inl rfl) (pe_op op_shl pe_int (pe_call D_law_draw.ok (hr.mono (by decide)) (by rfl) D_law_draw.g D_law_draw.kp D_law_draw.b .nil pass0 (pa_cons (pv 0) (pa_cons pe_int pa_nil)))))
    (pss_one (ps_ret (pe_op op_catT (pe_slice sl_tup (pv 3) po_none (po_some pe_int)) (pe_tup (pa_cons (pv 4) (pa_cons (pe_call D_law_draw.ok (hr.mono (by decide)) (by rfl) D_law_draw.g D_law_draw.kp D_law_draw.b .nil pass0 (pa_cons (pv 0) (pa_cons (pv 4) pa_nil))) (pa_cons (pe_ix ix_tup (pv 3) pe_int (fun _ _ => rfl)) pa_nil))))))))
    pss_nil)
    (pss_one (ps_ret (pv 3))))))), ?_⟩
    refine ⟨_, rfl, _, rfl, _, rfl, d, l, m, left, rfl, D, m1, m8, l0, l9, fun q o H1 D1 kp1 hq hok hfar => ?_⟩
    obtain ⟨nqd, nql⟩ := D1.nt hq
    refine ⟨_, rfl, q, _, _, .str o.rw.w, rfl, rfl, SqT.of hq, atI_nat (j := 0) rfl, rfl, _, rfl, ?_⟩
    cases o with
    | load a s0 =>
      refine iteSY ?_
      refine ⟨_, rfl, _, rfl, q, _, rfl, SqT.of (show H1 q = some (.tup ([.str "load", .int (a : Int)] ++ [.int s0])) from hq), not_whole_front _ _ 2 rfl (by simp), fun u hu0 => ?_⟩
      rw [show cutV ([V.str "load", V.int (a : Int)] ++ [V.int s0]) none (some 2) = [.str "load", .int (a : Int)] from cut_front _ _ 2 rfl]
      obtain ⟨nud, nul⟩ := D1.free hu0
      have D2 := D1.new (o := .tup [.str "load", .int (a : Int)]) hu0
      have kp2 := kp1.new (o := .tup [.str "load", .int (a : Int)]) (kp1.free D1 hu0)
      refine ⟨_, rfl, d, l, _, rfl, D2, by decide, by decide, fun s1 H3 s10 s11 D3 kp3 => ?_⟩
      refine ⟨(by show 1 ≤ sizeLine; decide), fun u2 hu2 => ?_⟩
      have D4 := D3.new (o := .tup [.int s1]) hu2
      have kp4 := (kp2.trans kp3).new (o := .tup [.int s1]) ((kp2.trans kp3).free D3 hu2)
      have hu3 : H3 u = some (.tup [.str "load", .int (a : Int)]) := kp3 _ _ upd_same nud nul
      refine ⟨u, u2, _, _, rfl, rfl, SqT.of (by rw [upd_ne (ne_of_none hu3 hu2)]; exact hu3), SqT.of upd_same, by simp, (by show 2 + 1 ≤ sizeLine; decide), fun e => absurd e (by simp), fun _ u3 hu4 => ?_⟩
      exact k u3 (.load a s1) _ (D4.new hu4) (kp4.new (kp4.free D4 hu4)) upd_same ⟨hok.1, s10, by omega⟩ l0'
    | store s0 a =>
      refine iteSN (show ¬ ("store" : Str) = ("load" : Str) by decide +kernel) ?_
      refine ⟨_, rfl, q, _, _, .str "store", rfl, rfl, SqT.of hq, atI_nat (j := 0) rfl, rfl, _, rfl, iteSY ?_⟩
      refine ⟨_, rfl, q, _, _, .str "store", rfl, rfl, SqT.of hq, atI_nat (j := 0) rfl, ?_⟩
      refine ⟨_, rfl, d, l, _, rfl, D1, by decide, by decide, fun s1 H3 s10 s11 D3 kp3 => ?_⟩
      refine ⟨_, rfl, q, _, _, .int (a : Int), rfl, rfl, SqT.of (kp3 _ _ hq nqd nql), atI_nat (j := 2) rfl, ?_⟩
      refine ⟨(by show 3 ≤ sizeLine; decide), fun u2 hu2 => ?_⟩
      exact k u2 (.store s1 a) _ (D3.new hu2) ((kp1.trans kp3).new ((kp1.trans kp3).free D3 hu2)) upd_same ⟨hok.1, s10, by omega⟩ l0'
    | skip a m0 c0 n =>
      refine iteSN (show ¬ ("skip" : Str) = ("load" : Str) by decide +kernel) ?_
      refine ⟨_, rfl, q, _, _, .str "skip", rfl, rfl, SqT.of hq, atI_nat (j := 0) rfl, rfl, _, rfl, iteSN (show ¬ ("skip" : Str) = ("store" : Str) by decide +kernel) ?_⟩
      refine ⟨_, rfl, q, _, _, .str "skip", rfl, rfl, SqT.of hq, atI_nat (j := 0) rfl, rfl, _, rfl, iteSY ?_⟩
      refine ⟨_, rfl, d, l, _, rfl, D1, by decide, by decide, fun j H2 j0 j1 D2 kp2 => ?_⟩
      refine ⟨_, _, rfl, rfl, ⟨by omega, by omega, by decide⟩, ?_⟩
      have hm := pow_mods (j := j.toNat) (by omega)
      have hmb := mods_bound _ hm
      have hq' : H1 q = some (.tup ([.str "skip", .int (a : Int)] ++ [.int m0, .int c0, .int (n : Int)])) := hq
      have hq2 := kp2 _ _ hq' nqd nql
      refine ⟨_, rfl, _, rfl, q, _, rfl, SqT.of hq2, not_whole_front _ _ 2 rfl (by simp), fun u hu0 => ?_⟩
      rw [show cutV ([V.str "skip", V.int (a : Int)] ++ [V.int m0, V.int c0, V.int (n : Int)]) none (some 2) = [.str "skip", .int (a : Int)] from cut_front _ _ 2 rfl]
      obtain ⟨nud, nul⟩ := D2.free hu0
      have D3 := D2.new (o := .tup [.str "skip", .int (a : Int)]) hu0
      have kp3 := (kp1.trans kp2).new (o := .tup [.str "skip", .int (a : Int)]) ((kp1.trans kp2).free D2 hu0)
      have hq3 : (upd H2 u (.tup [.str "skip", .int (a : Int)])) q = some (.tup ([.str "skip", .int (a : Int)] ++ [.int m0, .int c0, .int (n : Int)])) := by rw [upd_ne (ne_of_none hq2 hu0)]; exact hq2
      refine ⟨_, rfl, _, rfl, _, rfl, d, l, _, rfl, D3, by omega, by omega, fun c H4 c00 c01 D4 kp4 => ?_⟩
      have hq4 := kp4 _ _ hq3 nqd nql
      have hu4 : H4 u = some (.tup [.str "skip", .int (a : Int)]) := kp4 _ _ upd_same nud nul
      refine ⟨_, rfl, q, _, _, .int (n : Int), rfl, rfl, SqT.of hq4, atI_nat (j := 4) rfl, ?_⟩
      refine ⟨(by show 3 ≤ sizeLine; decide), fun u2 hu2 => ?_⟩
      have D5 := D4.new (o := .tup [.int (1 * 2 ^ j.toNat), .int c, .int (n : Int)]) hu2
      have kp5 := (kp3.trans kp4).new (o := .tup [.int (1 * 2 ^ j.toNat), .int c, .int (n : Int)]) ((kp3.trans kp4).free D4 hu2)
      refine ⟨u, u2, _, _, rfl, rfl, SqT.of (by rw [upd_ne (ne_of_none hu4 hu2)]; exact hu4), SqT.of upd_same, by simp, (by show 2 + 3 ≤ sizeLine; decide), fun e => absurd e (by simp), fun _ u3 hu5 => ?_⟩
      exact k u3 (.skip a (1 * 2 ^ j.toNat) c n) _ (D5.new hu5) (kp5.new (kp5.free D5 hu5)) upd_same ⟨hok.1, hm, c00, c01, hok.2.2.2.2⟩ hfar
    | set a n =>
      refine iteSN (show ¬ ("set" : Str) = ("load" : Str) by decide +kernel) ?_
      refine ⟨_, rfl, q, _, _, .str "set", rfl, rfl, SqT.of hq, atI_nat (j := 0) rfl, rfl, _, rfl, iteSN (show ¬ ("set" : Str) = ("store" : Str) by decide +kernel) ?_⟩
      refine ⟨_, rfl, q, _, _, .str "set", rfl, rfl, SqT.of hq, atI_nat (j := 0) rfl, rfl, _, rfl, iteSN (show ¬ ("set" : Str) = ("skip" : Str) by decide +kernel) ?_⟩
      exact ⟨_, rfl, k q _ H1 D1 kp1 hq hok hfar⟩
    | copy a b =>
      refine iteSN (show ¬ ("copy" : Str) = ("load" : Str) by decide +kernel) ?_
      refine ⟨_, rfl, q, _, _, .str "copy", rfl, rfl, SqT.of hq, atI_nat (j := 0) rfl, rfl, _, rfl, iteSN (show ¬ ("copy" : Str) = ("store" : Str) by decide +kernel) ?_⟩
      refine ⟨_, rfl, q, _, _, .str "copy", rfl, rfl, SqT.of hq, atI_nat (j := 0) rfl, rfl, _, rfl, iteSN (show ¬ ("copy" : Str) = ("skip" : Str) by decide +kernel) ?_⟩
      exact ⟨_, rfl, k q _ H1 D1 kp1 hq hok hfar⟩
    | add a b c =>
      refine iteSN (show ¬ ("add" : Str) = ("load" : Str) by decide +kernel) ?_
      refine ⟨_, rfl, q, _, _, .str "add", rfl, rfl, SqT.of hq, atI_nat (j := 0) rfl, rfl, _, rfl, iteSN (show ¬ ("add" : Str) = ("store" : Str) by decide +kernel) ?_⟩
      refine ⟨_, rfl, q, _, _, .str "add", rfl, rfl, SqT.of hq, atI_nat (j := 0) rfl, rfl, _, rfl, iteSN (show ¬ ("add" : Str) = ("skip" : Str) by decide +kernel) ?_⟩
      exact ⟨_, rfl, k q _ H1 D1 kp1 hq hok hfar⟩
    | sub a b c =>
      refine iteSN (show ¬ ("sub" : Str) = ("load" : Str) by decide +kernel) ?_
      refine ⟨_, rfl, q, _, _, .str "sub", rfl, rfl, SqT.of hq, atI_nat (j := 0) rfl, rfl, _, rfl, iteSN (show ¬ ("sub" : Str) = ("store" : Str) by decide +kernel) ?_⟩
      refine ⟨_, rfl, q, _, _, .str "sub", rfl, rfl, SqT.of hq, atI_nat (j := 0) rfl, rfl, _, rfl, iteSN (show ¬ ("sub" : Str) = ("skip" : Str) by decide +kernel) ?_⟩
      exact ⟨_, rfl, k q _ H1 D1 kp1 hq hok hfar⟩
    | mul a b c =>
      refine iteSN (show ¬ ("mul" : Str) = ("load" : Str) by decide +kernel) ?_
      refine ⟨_, rfl, q, _, _, .str "mul", rfl, rfl, SqT.of hq, atI_nat (j := 0) rfl, rfl, _, rfl, iteSN (show ¬ ("mul" : Str) = ("store" : Str) by decide +kernel) ?_⟩
      refine ⟨_, rfl, q, _, _, .str "mul", rfl, rfl, SqT.of hq, atI_nat (j := 0) rfl, rfl, _, rfl, iteSN (show ¬ ("mul" : Str) = ("skip" : Str) by decide +kernel) ?_⟩
      exact ⟨_, rfl, k q _ H1 D1 kp1 hq hok hfar⟩
    | left a b =>
      refine iteSN (show ¬ ("left" : Str) = ("load" : Str) by decide +kernel) ?_
      refine ⟨_, rfl, q, _, _, .str "left", rfl, rfl, SqT.of hq, atI_nat (j := 0) rfl, rfl, _, rfl, iteSN (show ¬ ("left" : Str) = ("store" : Str) by decide +kernel) ?_⟩
      refine ⟨_, rfl, q, _, _, .str "left", rfl, rfl, SqT.of hq, atI_nat (j := 0) rfl, rfl, _, rfl, iteSN (show ¬ ("left" : Str) = ("skip" : Str) by decide +kernel) ?_⟩
      exact ⟨_, rfl, k q _ H1 D1 kp1 hq hok hfar⟩
    | right a b =>
      refine iteSN (show ¬ ("right" : Str) = ("load" : Str) by decide +kernel) ?_
      refine ⟨_, rfl, q, _, _, .str "right", rfl, rfl, SqT.of hq, atI_nat (j := 0) rfl, rfl, _, rfl, iteSN (show ¬ ("right" : Str) = ("store" : Str) by decide +kernel) ?_⟩
      refine ⟨_, rfl, q, _, _, .str "right", rfl, rfl, SqT.of hq, atI_nat (j := 0) rfl, rfl, _, rfl, iteSN (show ¬ ("right" : Str) = ("skip" : Str) by decide +kernel) ?_⟩
      exact ⟨_, rfl, k q _ H1 D1 kp1 hq hok hfar⟩
abbrev s_law_far_rows : Stmt := top 53
abbrev N_law_far_rows : List Str := ["_law_deal_here", "_law_registers", "_law_many", "_law_at"]
theorem sc_law_far_rows : FnScope N_law_far_rows ["_law_deal_here", "_law_registers", "_law_many"] (defScope s_law_far_rows) := ⟨rfl, rfl, rfl, by decide +kernel, rfl, by decide +kernel, by decide +kernel⟩
theorem ok_law_far_rows {f : Addr} {fd : FuncData} (F : Fun K "_law_far_rows" "_law_far_rows" s_law_far_rows f fd) (T : Glob mg) (D_law_far_row : Df P w K mg base 4 "_law_far_row" ["_law_deal_here", "_law_registers", "_law_left"] spRowO) : FnOk P w K mg base CX0 5 f fd ["_law_deal_here", "_law_registers", "_law_many"] (spRowsO []) := by
  refine F.ok sc_law_far_rows (fun vs H Q E h => ?_) (fun cdv A outer s H vs Q E hr h => ?_)
  · obtain ⟨d, l, m, n, rfl, _⟩ := h
    rfl
  · obtain ⟨d, l, m, n, rfl, D, m3, m8, hn, k⟩ := h
    have nd := sc_law_far_rows.nd
    refine ⟨_, (pss_one (ps_ret (pe_lc (own := [("_law_at", 3)]) (g := gName 3) (tt := tYes) rfl nd (pi_range1 (by rfl) T.g_range (pa_cons (pv 2) pa_nil)) (blkOk_by (N := N_law_far_rows) (sc := defScope s_law_far_rows) (by decide +kernel)) (fun _ _ _ _ _ => pg_name (i := 3) nd rfl (Or.inl rfl)) (fun _ _ _ _ _ => pts_nil) (fun _ _ _ _ _ => (pe_call D_law_far_row.ok (hr.mono (by decide)) (by rfl) D_law_far_row.g D_law_far_row.kp D_law_far_row.b .nil pass0 (pa_cons (pv 0) (pa_cons (pv 1) (pa_cons (pe_op op_sub (pe_op op_sub (pv 2) (pv 3)) pe_int) pa_nil)))))))), ?_⟩
    refine ⟨_, rfl, (n : Int), rfl, by omega, by omega, fun L hL => ?_⟩
    obtain ⟨nLd, nLl⟩ := D.free hL
    rw [Int.toNat_natCast]
    refine lc_range (lo := 0) (n := n) (fun i H1 => ∃ as os, H1 L = some (.lst (refs as)) ∧ RowsAt H1 (os.map Op.rw) as ∧ os.length = i ∧ PreO m n os ∧ Deal H1 d l ∧ Kept d l H H1) ⟨[], [], upd_same, RowsAt.nil, rfl, fun j r h => by simp at h, D.new hL, Kept.refl.new hL⟩ ?_ ?_
    · rintro i H1 hi ⟨as, os, h1, hr1, hl1, hok, D1, kp1⟩
      refine ⟨rfl, ?_⟩
      refine ⟨_, rfl, _, rfl, _, rfl, _, rfl, _, _, rfl, rfl, _, _, rfl, rfl, d, l, m, (n : Int) - (0 + (i : Int)) - 1, rfl, D1, m3, m8, by omega, by omega, fun q o H2 D2 kp2 hq ok1 fit1 => ?_⟩
      have h2 : H2 L = some (.lst (refs as)) := kp2 _ _ h1 nLd nLl
      refine ⟨_, h2, by rw [refs_len, hr1.len, List.length_map, hl1]; exact small1000 (by omega), as ++ [q], os ++ [o], ?_, ?_, by rw [List.length_append, hl1]; rfl, hok.snoc ok1 (by omega), D2.other nLd nLl, (kp1.trans kp2).new hL⟩
      · rw [upd_same]
        unfold refs
        rw [List.map_append]
        rfl
      · rw [List.map_append]
        exact ((hr1.kept D1 kp2).snoc hq).upd h2
    · rintro H1 ⟨as, os, h1, hr1, hl1, hok, D1, kp1⟩
      exact k L os H1 hL D1 kp1 ⟨as, h1, hr1⟩ (hok.all hl1) hl1
abbrev s_law_rows : Stmt := top 51
abbrev N_law_rows : List Str := ["_law_deal_here", "_law_registers", "_law_many", "_law_skips", "_law_found", "_law_seen", "_law_at", "_law_row_here"]
theorem sc_law_rows : FnScope N_law_rows ["_law_deal_here", "_law_registers", "_law_many", "_law_skips"] (defScope s_law_rows) := ⟨rfl, rfl, rfl, by decide +kernel, rfl, by decide +kernel, by decide +kernel⟩
theorem ok_law_rows {f : Addr} {fd : FuncData} (F : Fun K "_law_rows" "_law_rows" s_law_rows f fd) (T : Glob mg) (D_law_row : Df P w K mg base 3 "_law_row" ["_law_deal_here", "_law_registers", "_law_left"] spRowO) : FnOk P w K mg base CX0 4 f fd ["_law_deal_here", "_law_registers", "_law_many", "_law_skips"] (spRowsO [.int 8]) := by
  refine F.ok sc_law_rows (fun vs H Q E h => ?_) (fun cdv A outer s H vs Q E hr h => ?_)
  · obtain ⟨d, l, m, n, rfl, _⟩ := h
    rfl
  · obtain ⟨d, l, m, n, rfl, D, m3, m8, hn, k⟩ := h
    have nd := sc_law_rows.nd
    have hu := hu_of hr
    refine ⟨_, (pss_cons (ps_par (i := 4) (j := 5) rfl nd rfl rfl (by decide) rfl rfl (pa_cons (pe_lst pa_nil) (pa_cons pe_int pa_nil)) (by rfl))
    (pss_cons (ps_for PassesOwn.never rfl (pi_range1 (by rfl) T.g_range (pa_cons (pv 2) pa_nil)) (pg_name (i := 6) nd rfl (Or.inl rfl))
    (pss_cons (ps_set (i := 7) nd rfl (Or.inl rfl) (pe_call D_law_row.ok (hr.mono (by decide)) (by rfl) D_law_row.g D_law_row.kp D_law_row.b .nil pass0 (pa_cons (pv 0) (pa_cons (pv 1) (pa_cons (pe_op op_sub (pe_op op_sub (pv 2) (pv 6)) pe_int) pa_nil)))))
    (pss_cons (ps_if (pt_cmpR op_eq (pe_ix ix_tup (pv 7) pe_int (fun _ _ => rfl)) pe_str (nomark _))
    (pss_cons (ps_set (i := 5) nd rfl (Or.inl rfl) (pe_op op_add (pv 5) pe_int))
    (pss_one (ps_if (pt_cmpR op_gt (pv 5) (pv 3) (nomark _))
    (pss_one (ps_set (i := 7) nd rfl (Or.inl rfl) (pe_tup (pa_cons pe_str (pa_cons pe_int (pa_cons (pe_ix ix_tup (pv 7) pe_int (fun _ _ => rfl)) (pa_cons pe_int pa_nil)))))))
    pss_nil)))
    pss_nil)
    (pss_one (ps_expr (pe_bm PySem.F.plainAttrs_list PySem.F.slot_list_append PySem.F.type_list_append mt_append (pv 4) (pa_cons (pv 7) pa_nil)))))))
    (pss_one (ps_ret (pv 4))))), ?_⟩
    refine ⟨(by show 0 ≤ sizeLine; decide), fun L hL => ?_⟩
    obtain ⟨nLd, nLl⟩ := D.free hL
    refine ⟨_, _, rfl, ?_⟩
    dsimp only [List.set_cons_succ, List.set_cons_zero]
    refine ⟨_, rfl, (n : Int), rfl, by omega, by omega, ?_⟩
    rw [Int.toNat_natCast]
    refine for_range (lo := 0) (n := n) (fun i σ H1 => ∃ (as : List Addr) (os : List Op) (z : Int) (a b : Option V), σ = [some (.ref d), some (.int (m : Int)), some (.int (n : Int)), some (.int 8), some (.ref L), some (.int z), a, b] ∧ H1 L = some (.lst (refs as)) ∧ RowsAt H1 (os.map Op.rw) as ∧ os.length = i ∧ PreO m n os ∧ Deal H1 d l ∧ Kept d l H H1)
      ⟨[], [], 0, none, none, rfl, upd_same, RowsAt.nil, rfl, fun j r h => by simp at h, D.new hL, Kept.refl.new hL⟩ ?_ ?_
    · rintro i σ H1 hi ⟨as, os, z, a, b, rfl, h1, hr1, hl1, hok, D1, kp1⟩
      refine ⟨_, rfl, _, rfl, _, rfl, _, rfl, _, _, rfl, rfl, _, _, rfl, rfl, d, l, m, (n : Int) - (0 + (i : Int)) - 1, rfl, D1, m3, m8, by omega, by omega, fun q o H2 D2 kp2 hq ok1 fit1 => ?_⟩
      have h2 : H2 L = some (.lst (refs as)) := kp2 _ _ h1 nLd nLl
      have hr2 := hr1.kept D1 kp2
      have kp := kp1.trans kp2
      dsimp only [List.set_cons_succ, List.set_cons_zero]
      refine seq_by (fun σ H3 => ∃ (z : Int) (q : Addr) (o : Op), σ = [some (.ref d), some (.int (m : Int)), some (.int (n : Int)), some (.int 8), some (.ref L), some (.int z), some (.int (0 + (i : Int))), some (.ref q)] ∧ H3 L = some (.lst (refs as)) ∧ RowsAt H3 (os.map Op.rw) as ∧ Deal H3 d l ∧ Kept d l H H3 ∧ RowAt H3 o.rw q ∧ o.ok m ∧ os.length + 1 + o.far ≤ n) (fun D' hD' => ?_) ?_
      · refine ⟨_, rfl, q, _, _, .str o.rw.w, rfl, rfl, SqT.of hq, atI_nat (j := 0) rfl, rfl, _, rfl, ?_⟩
        refine ite2 (fun hs => ?_) (fun _ => hD' _ _ ⟨z, q, o, rfl, h2, hr2, D2, kp, hq, ok1, by omega⟩)
        have hs := V.str.inj (of_decide_eq_true hs)
        refine ⟨_, rfl, _, _, rfl, rfl, ?_⟩
        refine ⟨_, rfl, _, rfl, _, _, rfl, rfl, _, rfl, ?_⟩
        refine ite2 (fun _ => ?_) (fun _ => hD' _ _ ⟨z + 1, q, o, rfl, h2, hr2, D2, kp, hq, ok1, by omega⟩)
        obtain ⟨a', md, c', n', rfl⟩ : ∃ a' md c' n', o = .skip a' md c' n' := by
          cases o with
          | skip a' md c' n' => exact ⟨_, _, _, _, rfl⟩
          | set a n => exact absurd hs (by show ¬ ("set" : Str) = _; decide +kernel)
          | copy a b => exact absurd hs (by show ¬ ("copy" : Str) = _; decide +kernel)
          | add a b c => exact absurd hs (by show ¬ ("add" : Str) = _; decide +kernel)
          | sub a b c => exact absurd hs (by show ¬ ("sub" : Str) = _; decide +kernel)
          | mul a b c => exact absurd hs (by show ¬ ("mul" : Str) = _; decide +kernel)
          | left a b => exact absurd hs (by show ¬ ("left" : Str) = _; decide +kernel)
          | right a b => exact absurd hs (by show ¬ ("right" : Str) = _; decide +kernel)
          | load a n => exact absurd hs (by show ¬ ("load" : Str) = _; decide +kernel)
          | store n a => exact absurd hs (by show ¬ ("store" : Str) = _; decide +kernel)
        refine ⟨_, rfl, q, _, _, .int (a' : Int), rfl, rfl, SqT.of hq, atI_nat (j := 1) rfl, (by show 4 ≤ sizeLine; decide), fun u hu0 => ?_⟩
        refine hD' _ _ ⟨z + 1, u, .add 0 a' 0, rfl, ?_, hr2.updN hu0, D2.new hu0, kp.new (kp.free D2 hu0), upd_same, ⟨by omega, ok1.1, by omega⟩, ?_⟩
        · rw [upd_ne (ne_of_none h2 hu0)]
          exact h2
        · show os.length + 1 + 0 ≤ n
          omega
      · rintro σ H3 ⟨z, q, o, rfl, h3, hr3, D3, kp3, hq3, ok3, fit3⟩
        refine ⟨_, rfl, .inl ⟨rfl, _, SqL.of h3⟩, _, rfl, L, _, _, rfl, rfl, h3, by rw [refs_len, hr3.len, List.length_map, hl1]; exact small1000 (by omega), ?_⟩
        refine ⟨as ++ [q], os ++ [o], z, _, _, rfl, ?_, ?_, by rw [List.length_append, hl1]; rfl, hok.snoc ok3 fit3, D3.other nLd nLl, kp3.new hL⟩
        · rw [upd_same]
          unfold refs
          rw [List.map_append]
          rfl
        · rw [List.map_append]
          exact (hr3.snoc hq3).upd h3
    · rintro σ H1 ⟨as, os, z, a, b, rfl, h1, hr1, hl1, hok, D1, kp1⟩
      exact ⟨_, rfl, k L os H1 hL D1 kp1 ⟨as, h1, hr1⟩ (hok.all hl1) hl1⟩
end
end My

set_option pp.maxSteps 400
set_option Elab.async false
set_option linter.all false
set_option maxRecDepth 100000
set_option maxHeartbeats 1000000
namespace My
open PySem L2 MyR

def three : List Str := ["set", "load", "skip"]
/-- a new row beside the others -/
theorem RowsAt.grow {H : Hp} {os : List Op} {as : List Addr} (h : RowsAt H (os.map Op.rw) as) {o : Op} {p : Addr} (hp : H p = none) : RowsAt (L2.upd H p (.tup o.rw.vs)) ((os ++ [o]).map Op.rw) (as ++ [p]) := by
  rw [List.map_append]
  exact (h.updN hp).snoc upd_same
theorem RowsAt.mem {H : Hp} {os : List Op} {as : List Addr} (h : RowsAt H (os.map Op.rw) as) {v : V} (hv : v ∈ refs as) : ∃ p o, v = .ref p ∧ o ∈ os ∧ RowAt H o.rw p := by
  unfold refs at hv
  obtain ⟨p, hp, rfl⟩ := List.mem_map.mp hv
  obtain ⟨i, hi⟩ := List.mem_iff_getElem?.mp hp
  have hl := h.len
  rw [List.length_map] at hl
  have hlt : i < os.length := by
    have := (List.getElem?_eq_some_iff.mp hi).1
    omega
  obtain ⟨p', e1, e2⟩ := h.at_ i os[i].rw (by rw [List.getElem?_map, List.getElem?_eq_getElem hlt]; rfl)
  rw [hi] at e1
  obtain rfl := Option.some.inj e1
  exact ⟨p, os[i], rfl, List.getElem_mem hlt, e2⟩
def spNumbers : Sp := fun vs H Q _ => ∃ (q : Addr) (o : Op), vs = [.ref q] ∧ RowAt H o.rw q ∧ ∀ D H', Same H H' → H' D = some (.lst (o.regs.map V.int)) → Q (.ref D) H'
def spPoint : Sp := fun vs H Q _ => ∃ (d l : Addr) (n : Nat), vs = [.ref d, .int (n : Int)] ∧ Deal H d l ∧ n ≤ 8 ∧ ∀ (q : Addr) (xs : List Int) H', H q = none → Deal H' d l → Kept d l H H' → H' q = some (.lst (xs.map V.int)) → xs.length = n → Q (.ref q) H'
def spStrange : Sp := fun vs H Q _ => ∃ (d l : Addr) (c : Nat), vs = [.ref d, .int (c : Int)] ∧ Deal H d l ∧ 3 ≤ c ∧ c ≤ 7 ∧ ∀ (q : Addr) (o : Op) H', Deal H' d l → Kept d l H H' → RowAt H' o.rw q → o.ok 8 → badB c o = true → o.far = 0 → Q (.ref q) H'
def spTold (CM CC : Addr) : Sp := fun vs H Q _ => ∃ (ma ca : Addr) (ia fa : V) (wd : Int) (m : Nat) (os : List Op) (i : Nat), vs = [.ref ma, .ref ca, ia, fa] ∧ MachAt CM H wd (m : Int) ma ∧ CodeAt CC H (os.map Op.rw) ca ∧ (∀ o ∈ os.take i, badB m o = false) ∧ (∃ o, os[i]? = some o ∧ badB m o = true) ∧
  ∀ (t : Addr) H', Same H H' → H' t = some (.tup [.str "register", .int (i : Int)]) → Q (.ref t) H'
def tsTold (cI : Addr) : Addr → Value → Option Addr → TS := fun a cls d D σ H => cls = .ref cI ∧ ∃ (dd : Addr) (w : Str) (i : Int), d = some dd ∧ σ[5]? = some (some (.ref a)) ∧ H dd = some (.xd [("row", .int i), ("word", .str w)]) ∧
  ∀ p H', Same H H' → H' p = some (.tup [.str w, .int i]) → D.rt (.ref p) H'
theorem bad_of {c : Nat} {o : Op} {r : Nat} (h : (r : Int) ∈ o.regs) (hr : c ≤ r) : badB c o = true := List.any_eq_true.mpr ⟨true, List.mem_map.mpr ⟨(r : Int), h, decide_eq_true (by omega)⟩, rfl⟩
section
variable {P : Program} {w : World} {K : PySem.W.Frag} {mg : Str → Option Value} {base : Heap}
abbrev s_law_numbers : Stmt := top 57
abbrev N_law_numbers : List Str := ["_law_row_here"]
theorem sc_law_numbers : FnScope N_law_numbers ["_law_row_here"] (defScope s_law_numbers) := ⟨rfl, rfl, rfl, by decide +kernel, rfl, by decide +kernel, by decide +kernel⟩
theorem ok_law_numbers {f : Addr} {fd : FuncData} (F : Fun K "_law_numbers" "_law_numbers" s_law_numbers f fd) (T : Glob mg) : FnOk P w K mg base CX0 1 f fd ["_law_row_here"] spNumbers := by
  refine F.ok sc_law_numbers (fun vs H Q E h => ?_) (fun cdv A outer s H vs Q E hr h => ?_)
  · obtain ⟨q, o, rfl, _⟩ := h
    rfl
  · obtain ⟨q, o, rfl, hq, k⟩ := h
    refine ⟨_, (pss_cons (ps_if (pt_cmpR op_in_seq (pe_ix ix_tup (pv 0) pe_int (fun _ _ => rfl)) (pe_tup (pa_cons pe_str (pa_cons pe_str (pa_cons pe_str pa_nil)))) (by rfl))
    (pss_one (ps_ret (pe_lst (pa_cons (pe_ix ix_tup (pv 0) pe_int (fun _ _ => rfl)) pa_nil))))
    pss_nil)
    (pss_one (ps_ret (pe_ifExp (pt_cmpR op_eq (pe_ix ix_tup (pv 0) pe_int (fun _ _ => rfl)) pe_str (nomark _)) (pe_lst (pa_cons (pe_ix ix_tup (pv 0) pe_int (fun _ _ => rfl)) pa_nil)) (pe_callTy call_list_of (by rfl) T.g_list (by decide +kernel) (pa_cons (pe_slice sl_tup (pv 0) (po_some pe_int) po_none) pa_nil)))))), ?_⟩
    refine ⟨_, rfl, q, _, _, .str o.rw.w, rfl, rfl, SqT.of hq, atI_nat (j := 0) rfl, (by show 3 ≤ sizeLine; decide), fun u hu0 => ?_⟩
    have sm := new_same (o := .tup (three.map V.str)) hu0
    refine ⟨u, _, rfl, .inr (SqT.of upd_same), rfl, by rfl, _, rfl, ?_⟩
    show (if inV (.str o.rw.w) (three.map V.str) = true then _ else _)
    cases o with
    | set a n =>
      rw [show inV (V.str (Op.rw (.set a n)).w) (three.map V.str) = true from (inV_strs "set" three).mpr (by decide +kernel)]
      refine iteT ?_
      refine ⟨_, rfl, q, _, _, .int (a : Int), rfl, rfl, SqT.of (sm _ _ hq), atI_nat (j := 1) rfl, (by show 1 ≤ sizeLine; decide), fun D hD => ?_⟩
      exact k D _ (sm.trans (new_same hD)) upd_same
    | load a n =>
      rw [show inV (V.str (Op.rw (.load a n)).w) (three.map V.str) = true from (inV_strs "load" three).mpr (by decide +kernel)]
      refine iteT ?_
      refine ⟨_, rfl, q, _, _, .int (a : Int), rfl, rfl, SqT.of (sm _ _ hq), atI_nat (j := 1) rfl, (by show 1 ≤ sizeLine; decide), fun D hD => ?_⟩
      exact k D _ (sm.trans (new_same hD)) upd_same
    | skip a md c n =>
      rw [show inV (V.str (Op.rw (.skip a md c n)).w) (three.map V.str) = true from (inV_strs "skip" three).mpr (by decide +kernel)]
      refine iteT ?_
      refine ⟨_, rfl, q, _, _, .int (a : Int), rfl, rfl, SqT.of (sm _ _ hq), atI_nat (j := 1) rfl, (by show 1 ≤ sizeLine; decide), fun D hD => ?_⟩
      exact k D _ (sm.trans (new_same hD)) upd_same
    | store n a =>
      rw [show inV (V.str (Op.rw (.store n a)).w) (three.map V.str) = false from Bool.eq_false_iff.mpr (fun e => absurd ((inV_strs "store" three).mp e) (by decide +kernel))]
      refine iteF ?_
      refine ⟨_, rfl, q, _, _, .str "store", rfl, rfl, SqT.of (sm _ _ hq), atI_nat (j := 0) rfl, rfl, _, rfl, ?_⟩
      refine iteSY ?_
      refine ⟨_, rfl, q, _, _, .int (a : Int), rfl, rfl, SqT.of (sm _ _ hq), atI_nat (j := 2) rfl, (by show 1 ≤ sizeLine; decide), fun D hD => ?_⟩
      exact k D _ (sm.trans (new_same hD)) upd_same
    | copy a b =>
      rw [show inV (V.str (Op.rw (.copy a b)).w) (three.map V.str) = false from Bool.eq_false_iff.mpr (fun e => absurd ((inV_strs "copy" three).mp e) (by decide +kernel))]
      refine iteF ?_
      refine ⟨_, rfl, q, _, _, .str "copy", rfl, rfl, SqT.of (sm _ _ hq), atI_nat (j := 0) rfl, rfl, _, rfl, ?_⟩
      refine iteSN (show ¬ ("copy" : Str) = ("store" : Str) by decide +kernel) ?_
      refine ⟨_, rfl, _, rfl, q, _, rfl, SqT.of (sm _ _ hq), not_whole_tail _ _, fun v hv => ?_⟩
      have s2 := sm.trans (new_same (o := .tup (cutV (Op.rw (.copy a b)).vs (some 1) none)) hv)
      have e : cutV (Op.rw (.copy a b)).vs (some 1) none = (Op.regs (.copy a b)).map V.int := cut_tail _ _
      refine ⟨v, _, rfl, .inr (SqT.of upd_same), fun D hD => ?_⟩
      refine k D _ (s2.trans (new_same hD)) ?_
      rw [upd_same]
      exact congrArg (fun z => some (HO.lst z)) e
    | add a b c =>
      rw [show inV (V.str (Op.rw (.add a b c)).w) (three.map V.str) = false from Bool.eq_false_iff.mpr (fun e => absurd ((inV_strs "add" three).mp e) (by decide +kernel))]
      refine iteF ?_
      refine ⟨_, rfl, q, _, _, .str "add", rfl, rfl, SqT.of (sm _ _ hq), atI_nat (j := 0) rfl, rfl, _, rfl, ?_⟩
      refine iteSN (show ¬ ("add" : Str) = ("store" : Str) by decide +kernel) ?_
      refine ⟨_, rfl, _, rfl, q, _, rfl, SqT.of (sm _ _ hq), not_whole_tail _ _, fun v hv => ?_⟩
      have s2 := sm.trans (new_same (o := .tup (cutV (Op.rw (.add a b c)).vs (some 1) none)) hv)
      have e : cutV (Op.rw (.add a b c)).vs (some 1) none = (Op.regs (.add a b c)).map V.int := cut_tail _ _
      refine ⟨v, _, rfl, .inr (SqT.of upd_same), fun D hD => ?_⟩
      refine k D _ (s2.trans (new_same hD)) ?_
      rw [upd_same]
      exact congrArg (fun z => some (HO.lst z)) e
    | sub a b c =>
      rw [show inV (V.str (Op.rw (.sub a b c)).w) (three.map V.str) = false from Bool.eq_false_iff.mpr (fun e => absurd ((inV_strs "sub" three).mp e) (by decide +kernel))]
      refine iteF ?_
      refine ⟨_, rfl, q, _, _, .str "sub", rfl, rfl, SqT.of (sm _ _ hq), atI_nat (j := 0) rfl, rfl, _, rfl, ?_⟩
      refine iteSN (show ¬ ("sub" : Str) = ("store" : Str) by decide +kernel) ?_
      refine ⟨_, rfl, _, rfl, q, _, rfl, SqT.of (sm _ _ hq), not_whole_tail _ _, fun v hv => ?_⟩
      have s2 := sm.trans (new_same (o := .tup (cutV (Op.rw (.sub a b c)).vs (some 1) none)) hv)
      have e : cutV (Op.rw (.sub a b c)).vs (some 1) none = (Op.regs (.sub a b c)).map V.int := cut_tail _ _
      refine ⟨v, _, rfl, .inr (SqT.of upd_same), fun D hD => ?_⟩
      refine k D _ (s2.trans (new_same hD)) ?_
      rw [upd_same]
      exact congrArg (fun z => some (HO.lst z)) e
    | mul a b c =>
      rw [show inV (V.str (Op.rw (.mul a b c)).w) (three.map V.str) = false from Bool.eq_false_iff.mpr (fun e => absurd ((inV_strs "mul" three).mp e) (by decide +kernel))]
      refine iteF ?_
      refine ⟨_, rfl, q, _, _, .str "mul", rfl, rfl, SqT.of (sm _ _ hq), atI_nat (j := 0) rfl, rfl, _, rfl, ?_⟩
      refine iteSN (show ¬ ("mul" : Str) = ("store" : Str) by decide +kernel) ?_
      refine ⟨_, rfl, _, rfl, q, _, rfl, SqT.of (sm _ _ hq), not_whole_tail _ _, fun v hv => ?_⟩
      have s2 := sm.trans (new_same (o := .tup (cutV (Op.rw (.mul a b c)).vs (some 1) none)) hv)
      have e : cutV (Op.rw (.mul a b c)).vs (some 1) none = (Op.regs (.mul a b c)).map V.int := cut_tail _ _
      refine ⟨v, _, rfl, .inr (SqT.of upd_same), fun D hD => ?_⟩
      refine k D _ (s2.trans (new_same hD)) ?_
      rw [upd_same]
      exact congrArg (fun z => some (HO.lst z)) e
    | left a b =>
      rw [show inV (V.str (Op.rw (.left a b)).w) (three.map V.str) = false from Bool.eq_false_iff.mpr (fun e => absurd ((inV_strs "left" three).mp e) (by decide +kernel))]
      refine iteF ?_
      refine ⟨_, rfl, q, _, _, .str "left", rfl, rfl, SqT.of (sm _ _ hq), atI_nat (j := 0) rfl, rfl, _, rfl, ?_⟩
      refine iteSN (show ¬ ("left" : Str) = ("store" : Str) by decide +kernel) ?_
      refine ⟨_, rfl, _, rfl, q, _, rfl, SqT.of (sm _ _ hq), not_whole_tail _ _, fun v hv => ?_⟩
      have s2 := sm.trans (new_same (o := .tup (cutV (Op.rw (.left a b)).vs (some 1) none)) hv)
      have e : cutV (Op.rw (.left a b)).vs (some 1) none = (Op.regs (.left a b)).map V.int := cut_tail _ _
      refine ⟨v, _, rfl, .inr (SqT.of upd_same), fun D hD => ?_⟩
      refine k D _ (s2.trans (new_same hD)) ?_
      rw [upd_same]
      exact congrArg (fun z => some (HO.lst z)) e
    | right a b =>
      rw [show inV (V.str (Op.rw (.right a b)).w) (three.map V.str) = false from Bool.eq_false_iff.mpr (fun e => absurd ((inV_strs "right" three).mp e) (by decide +kernel))]
      refine iteF ?_
      refine ⟨_, rfl, q, _, _, .str "right", rfl, rfl, SqT.of (sm _ _ hq), atI_nat (j := 0) rfl, rfl, _, rfl, ?_⟩
      refine iteSN (show ¬ ("right" : Str) = ("store" : Str) by decide +kernel) ?_
      refine ⟨_, rfl, _, rfl, q, _, rfl, SqT.of (sm _ _ hq), not_whole_tail _ _, fun v hv => ?_⟩
      have s2 := sm.trans (new_same (o := .tup (cutV (Op.rw (.right a b)).vs (some 1) none)) hv)
      have e : cutV (Op.rw (.right a b)).vs (some 1) none = (Op.regs (.right a b)).map V.int := cut_tail _ _
      refine ⟨v, _, rfl, .inr (SqT.of upd_same), fun D hD => ?_⟩
      refine k D _ (s2.trans (new_same hD)) ?_
      rw [upd_same]
      exact congrArg (fun z => some (HO.lst z)) e
abbrev s_law_point : Stmt := top 47
abbrev N_law_point : List Str := ["_law_deal_here", "_law_many", "_law_found", "_law_at", "_law_number_here"]
theorem sc_law_point : FnScope N_law_point ["_law_deal_here", "_law_many"] (defScope s_law_point) := ⟨rfl, rfl, rfl, by decide +kernel, rfl, by decide +kernel, by decide +kernel⟩
theorem ok_law_point {f : Addr} {fd : FuncData} (F : Fun K "_law_point" "_law_point" s_law_point f fd) (T : Glob mg) (D_law_draw : Df P w K mg base 1 "_law_draw" ["_law_deal_here", "_law_many"] spDraw) : FnOk P w K mg base CX0 2 f fd ["_law_deal_here", "_law_many"] spPoint := by
  refine F.ok sc_law_point (fun vs H Q E h => ?_) (fun cdv A outer s H vs Q E hr h => ?_)
  · obtain ⟨d, l, n, rfl, _⟩ := h
    rfl
  · obtain ⟨d, l, n, rfl, D, hn, k⟩ := h
    have nd := sc_law_point.nd
    have hu := hu_of hr
    refine ⟨_, (pss_cons (ps_set (i := 2) nd rfl (Or.inl rfl) (pe_lst pa_nil))
    (pss_cons (ps_for PassesOwn.never rfl (pi_range1 (by rfl) T.g_range (pa_cons (pv 1) pa_nil)) (pg_name (i := 3) nd rfl (Or.inl rfl))
    (pss_cons (ps_set (i := 4) nd rfl (Or.inl rfl) (pe_ix ix_list (pe_lst (pa_cons (pe_call D_law_draw.ok (hr.mono (by decide)) (by rfl) D_law_draw.g D_law_draw.kp D_law_draw.b .nil pass0 (pa_cons (pv 0) (pa_cons pe_int pa_nil))) (pa_cons (pe_call D_law_draw.ok (hr.mono (by decide)) (by rfl) D_law_draw.g D_law_draw.kp D_law_draw.b .nil pass0 (pa_cons (pv 0) (pa_cons pe_int pa_nil))) (pa_cons (pe_call D_law_draw.ok (hr.mono (by decide)) (by rfl) D_law_draw.g D_law_draw.kp D_law_draw.b .nil pass0 (pa_cons (pv 0) (pa_cons (pe_op op_pow pe_int pe_int) pa_nil))) pa_nil)))) (pe_call D_law_draw.ok (hr.mono (by decide)) (by rfl) D_law_draw.g D_law_draw.kp D_law_draw.b .nil pass0 (pa_cons (pv 0) (pa_cons pe_int pa_nil))) (fun _ _ => rfl)))
    (pss_one (ps_expr (pe_bm PySem.F.plainAttrs_list PySem.F.slot_list_append PySem.F.type_list_append mt_append (pv 2) (pa_cons (pe_ix ix_list (pe_lst (pa_cons (pv 4) (pa_cons (pe_op op_sub pe_int (pv 4)) pa_nil))) (pe_call D_law_draw.ok (hr.mono (by decide)) (by rfl) D_law_draw.g D_law_draw.kp D_law_draw.b .nil pass0 (pa_cons (pv 0) (pa_cons pe_int pa_nil))) (fun _ _ => rfl)) pa_nil))))))
    (pss_one (ps_ret (pv 2))))), ?_⟩
    refine ⟨(by show 0 ≤ sizeLine; decide), fun L hL => ?_⟩
    obtain ⟨nLd, nLl⟩ := D.free hL
    dsimp only [List.set_cons_succ, List.set_cons_zero]
    refine ⟨_, rfl, (n : Int), rfl, by omega, by omega, ?_⟩
    rw [Int.toNat_natCast]
    refine for_range (lo := 0) (n := n) (fun i σ H1 => ∃ (xs : List Int) (a b : Option V), σ = [some (.ref d), some (.int (n : Int)), some (.ref L), a, b] ∧ H1 L = some (.lst (xs.map V.int)) ∧ xs.length = i ∧ Deal H1 d l ∧ Kept d l H H1) ⟨[], none, none, rfl, upd_same, rfl, D.new hL, Kept.refl.new hL⟩ ?_ ?_
    · rintro i σ H1 hi ⟨xs, a, b, rfl, h1, hl1, D1, kp1⟩
      refine ⟨_, rfl, d, l, _, rfl, D1, by decide, by decide, fun x1 H2 x10 x11 D2 kp2 => ?_⟩
      refine ⟨_, rfl, d, l, _, rfl, D2, by decide, by decide, fun x2 H3 x20 x21 D3 kp3 => ?_⟩
      refine ⟨_, rfl, _, _, rfl, rfl, ⟨by decide, by decide, by decide⟩, d, l, _, rfl, D3, by decide +kernel, by decide +kernel, fun x3 H4 x30 x31 D4 kp4 => ?_⟩
      refine ⟨(by show 3 ≤ sizeLine; decide), fun t ht => ?_⟩
      obtain ⟨ntd, ntl⟩ := D4.free ht
      have D5 := D4.new (o := .lst ([x1, x2, x3].map V.int)) ht
      have kpA := ((kp1.trans kp2).trans kp3).trans kp4
      have kp5 := kpA.new (o := .lst ([x1, x2, x3].map V.int)) (kpA.free D4 ht)
      refine ⟨_, rfl, d, l, _, rfl, D5, by decide, by decide, fun j H6 j0 j1 D6 kp6 => ?_⟩
      refine ix_draw (xs := [x1, x2, x3].map V.int) (kp6 _ _ upd_same ntd ntl) j0 j1 (fun v hv => ?_)
      obtain ⟨y, _, rfl⟩ := List.mem_map.mp hv
      have h4 : H4 L = some (.lst (xs.map V.int)) := (((kp2.trans kp3).trans kp4)) _ _ h1 nLd nLl
      have ntL : L ≠ t := ne_of_none h4 ht
      have h6 : H6 L = some (.lst (xs.map V.int)) := kp6 _ _ (by rw [upd_ne ntL]; exact h4) nLd nLl
      have kp7 := kp5.trans kp6
      dsimp only [List.set_cons_succ, List.set_cons_zero]
      refine ⟨_, rfl, .inl ⟨rfl, _, SqL.of h6⟩, ?_⟩
      refine ⟨_, rfl, _, rfl, _, _, rfl, rfl, (by show 2 ≤ sizeLine; decide), fun t2 ht2 => ?_⟩
      obtain ⟨n2d, n2l⟩ := D6.free ht2
      have D7 := D6.new (o := .lst ([y, 0 - y].map V.int)) ht2
      have kp8 := kp7.new (o := .lst ([y, 0 - y].map V.int)) (kp7.free D6 ht2)
      refine ⟨_, rfl, d, l, _, rfl, D7, by decide, by decide, fun j2 H8 j20 j21 D8 kp9 => ?_⟩
      refine ix_draw (xs := [y, 0 - y].map V.int) (kp9 _ _ upd_same n2d n2l) j20 j21 (fun v hv => ?_)
      obtain ⟨z, _, rfl⟩ := List.mem_map.mp hv
      have nt2L : L ≠ t2 := ne_of_none h6 ht2
      have h8 : H8 L = some (.lst (xs.map V.int)) := kp9 _ _ (by rw [upd_ne nt2L]; exact h6) nLd nLl
      refine ⟨L, _, _, rfl, rfl, h8, by rw [List.length_map, hl1]; exact small1000 (by omega), ?_⟩
      refine ⟨xs ++ [z], _, _, rfl, ?_, by rw [List.length_append, hl1]; rfl, D8.other nLd nLl, (kp8.trans kp9).new hL⟩
      rw [upd_same, List.map_append]
      rfl
    · rintro σ H1 ⟨xs, a, b, rfl, h1, hl1, D1, kp1⟩
      exact ⟨_, rfl, k L xs H1 hL D1 kp1 h1 hl1⟩
abbrev s_law_told : Stmt := top 54
abbrev N_law_told : List Str := ["_law_machine", "_law_code", "_law_inputs", "_law_fills", "_law_found", "e"]
theorem sc_law_told : FnScope N_law_told ["_law_machine", "_law_code", "_law_inputs", "_law_fills"] (defScope s_law_told) := ⟨rfl, rfl, rfl, by decide +kernel, rfl, by decide +kernel, by decide +kernel⟩
theorem ok_law_told {f CM CC cI : Addr} {fd : FuncData} (F : Fun K "_law_told" "_law_told" s_law_told f fd) (gI : mg "InvalidCode" = some (.ref cI)) (ex : PySem.W.exmOne K (.ref cI) (.ref cI) = some true) (xf : XfC K cI) (n1 : PySem.W.findIn K (.ref cI) "word" = some none) (n2 : PySem.W.findIn K (.ref cI) "row" = some none)
    {fr : Addr} {fdr : FuncData} (okr : FnOk P w K mg base (L2.CX P w) 4 fr fdr ["machine", "code", "inputs", "fills"] (spRunX CM CC cI)) (gr : mg "run" = some (.ref fr)) (kr : PySem.W.keepIn K (.ref fr) = true) (br : Binds K fdr ["machine", "code", "inputs", "fills"] []) : FnOk P w K mg base CX0 5 f fd ["_law_machine", "_law_code", "_law_inputs", "_law_fills"] (spTold CM CC) := by
  refine F.ok sc_law_told (fun vs H Q E h => ?_) (fun cdv A outer s H vs Q E hr h => ?_)
  · obtain ⟨ma, ca, ia, fa, wd, m, os, i, rfl, _⟩ := h
    rfl
  · obtain ⟨ma, ca, ia, fa, wd, m, os, i, rfl, hma, hca, hok, hbad, k⟩ := h
    have nd := sc_law_told.nd
    refine ⟨_, (pss_cons (ps_set (i := 4) nd rfl (Or.inl rfl) pe_non)
    (pss_cons (ps_try_as (i := 5) (ts := tsTold cI) (Wout := fun _ _ _ _ => False) rfl rfl nd rfl rfl ⟨rfl, by decide, .inl gI⟩ takes0
      (fun W pn xe tk _ => (pss_one (ps_set (i := 4) nd rfl (Or.inl rfl) (pe_callS okr (hr.mono (by decide)) (by rfl) gr kr br (fun σ => passAt tk σ) (pa_cons (pv 0) (pa_cons (pv 1) (pa_cons (pv 2) (pa_cons (pv 3) pa_nil))))))))
      (fun a oe cls d pn hz hf => ⟨fun pins s σ H D I q => by
        obtain ⟨rfl, dd, w, i, rfl, hσ, hd, k⟩ := q
        refine (pss_one (ps_ret (pe_tup (pa_cons (pe_xf xf n1 hz hf (pv 5)) (pa_cons (pe_xf xf n2 hz hf (pv 5)) pa_nil))))).run pins s σ H D I ?_
        refine ⟨_, hσ, rfl, rfl, dd, _, _, rfl, hd, rfl, _, hσ, rfl, rfl, dd, _, _, rfl, hd, rfl, (by show 2 ≤ sizeLine; decide), fun p hp => ?_⟩
        exact k p _ (new_same hp) upd_same⟩))
    (pss_one ps_never))), ?_⟩
    refine ⟨_, rfl, _, rfl, _, rfl, _, rfl, ma, ca, ia, fa, wd, m, os, i, rfl, hma, hca, hok, hbad, fun y H' sm hy => ?_⟩
    refine ⟨true, ex, fun _ e he => ?_, fun q => Bool.noConfusion q⟩
    exact ⟨rfl, y, _, _, rfl, rfl, hy, fun p H2 sm2 hp2 => k p H2 (sm.trans sm2) hp2⟩
abbrev s_law_strange : Stmt := top 55
abbrev N_law_strange : List Str := ["_law_deal_here", "_law_count", "_law_some", "_law_word"]
theorem sc_law_strange : FnScope N_law_strange ["_law_deal_here", "_law_count"] (defScope s_law_strange) := ⟨rfl, rfl, rfl, by decide +kernel, rfl, by decide +kernel, by decide +kernel⟩
theorem ok_law_strange {f : Addr} {fd : FuncData} (F : Fun K "_law_strange" "_law_strange" s_law_strange f fd) (D_law_draw : Df P w K mg base 1 "_law_draw" ["_law_deal_here", "_law_many"] spDraw) : FnOk P w K mg base CX0 2 f fd ["_law_deal_here", "_law_count"] spStrange := by
  refine F.ok sc_law_strange (fun vs H Q E h => ?_) (fun cdv A outer s H vs Q E hr h => ?_)
  · obtain ⟨d, l, c, rfl, _⟩ := h
    rfl
  · obtain ⟨d, l, c, rfl, D0, c3, c7, k⟩ := h
    have nd := sc_law_strange.nd
    have hu := hu_of hr
    refine ⟨_, (pss_cons (ps_set (i := 2) nd rfl (Or.inl rfl) (pe_lst (pa_cons (pe_tup (pa_cons pe_str (pa_cons pe_int (pa_cons (pv 1) pa_nil)))) (pa_cons (pe_tup (pa_cons pe_str (pa_cons (pv 1) (pa_cons pe_int pa_nil)))) (pa_cons (pe_tup (pa_cons pe_str (pa_cons pe_int (pa_cons pe_int pa_nil)))) (pa_cons (pe_tup (pa_cons pe_str (pa_cons pe_int (pa_cons pe_int pa_nil)))) (pa_cons (pe_tup (pa_cons pe_str (pa_cons (pv 1) (pa_cons pe_int pa_nil)))) pa_nil)))))))
    (pss_cons (ps_set (i := 2) nd rfl (Or.inl rfl) (pe_op op_cat (pv 2) (pe_lst (pa_cons (pe_tup (pa_cons pe_str (pa_cons (pv 1) (pa_cons pe_int pa_nil)))) (pa_cons (pe_tup (pa_cons pe_str (pa_cons pe_int (pa_cons pe_int pa_nil)))) (pa_cons (pe_tup (pa_cons pe_str (pa_cons pe_int (pa_cons pe_int pa_nil)))) (pa_cons (pe_tup (pa_cons pe_str (pa_cons pe_int (pa_cons (pv 1) pa_nil)))) (pa_cons (pe_tup (pa_cons pe_str (pa_cons pe_int (pa_cons pe_int (pa_cons pe_int (pa_cons pe_int pa_nil)))))) pa_nil))))))))
    (pss_cons (ps_set (i := 3) nd rfl (Or.inl rfl) (pe_ix ix_list (pe_lst (pa_cons pe_str (pa_cons pe_str (pa_cons pe_str pa_nil)))) (pe_call D_law_draw.ok (hr.mono (by decide)) (by rfl) D_law_draw.g D_law_draw.kp D_law_draw.b .nil pass0 (pa_cons (pv 0) (pa_cons pe_int pa_nil))) (fun _ _ => rfl)))
    (pss_one (ps_ret (pe_ix ix_list (pe_op op_cat (pv 2) (pe_lst (pa_cons (pe_tup (pa_cons (pv 3) (pa_cons pe_int (pa_cons pe_int (pa_cons pe_int pa_nil))))) (pa_cons (pe_tup (pa_cons (pv 3) (pa_cons pe_int (pa_cons (pv 1) (pa_cons pe_int pa_nil))))) (pa_cons (pe_tup (pa_cons (pv 3) (pa_cons pe_int (pa_cons pe_int (pa_cons pe_int pa_nil))))) pa_nil))))) (pe_call D_law_draw.ok (hr.mono (by decide)) (by rfl) D_law_draw.g D_law_draw.kp D_law_draw.b .nil pass0 (pa_cons (pv 0) (pa_cons pe_int pa_nil))) (fun _ _ => rfl))))))), ?_⟩
    have kp0 : Kept d l H H := Kept.refl
    have R0 : RowsAt H (([] : List Op).map Op.rw) [] := RowsAt.nil
    refine ⟨_, rfl, (by first | (show 3 ≤ sizeLine; decide) | (show 4 ≤ sizeLine; decide) | (show 5 ≤ sizeLine; decide)), fun p1 h1 => ?_⟩
    have R1 := R0.grow (o := .copy 0 c) h1
    have kp1 := kp0.new (o := .tup (Op.rw (.copy 0 c)).vs) (kp0.free D0 h1)
    have D1 := D0.new (o := .tup (Op.rw (.copy 0 c)).vs) h1
    refine ⟨_, rfl, (by first | (show 3 ≤ sizeLine; decide) | (show 4 ≤ sizeLine; decide) | (show 5 ≤ sizeLine; decide)), fun p2 h2 => ?_⟩
    have R2 := R1.grow (o := .copy c 0) h2
    have kp2 := kp1.new (o := .tup (Op.rw (.copy c 0)).vs) (kp1.free D1 h2)
    have D2 := D1.new (o := .tup (Op.rw (.copy c 0)).vs) h2
    refine ⟨(by first | (show 3 ≤ sizeLine; decide) | (show 4 ≤ sizeLine; decide) | (show 5 ≤ sizeLine; decide)), fun p3 h3 => ?_⟩
    have R3 := R2.grow (o := .store 9 7) h3
    have kp3 := kp2.new (o := .tup (Op.rw (.store 9 7)).vs) (kp2.free D2 h3)
    have D3 := D2.new (o := .tup (Op.rw (.store 9 7)).vs) h3
    refine ⟨(by first | (show 3 ≤ sizeLine; decide) | (show 4 ≤ sizeLine; decide) | (show 5 ≤ sizeLine; decide)), fun p4 h4 => ?_⟩
    have R4 := R3.grow (o := .load 7 0) h4
    have kp4 := kp3.new (o := .tup (Op.rw (.load 7 0)).vs) (kp3.free D3 h4)
    have D4 := D3.new (o := .tup (Op.rw (.load 7 0)).vs) h4
    refine ⟨_, rfl, (by first | (show 3 ≤ sizeLine; decide) | (show 4 ≤ sizeLine; decide) | (show 5 ≤ sizeLine; decide)), fun p5 h5 => ?_⟩
    have R5 := R4.grow (o := .set c 1) h5
    have kp5 := kp4.new (o := .tup (Op.rw (.set c 1)).vs) (kp4.free D4 h5)
    have D5 := D4.new (o := .tup (Op.rw (.set c 1)).vs) h5
    refine ⟨(by show 5 ≤ sizeLine; decide), fun L1 hL1 => ?_⟩
    have DA := D5.new (o := .lst [.ref p1, .ref p2, .ref p3, .ref p4, .ref p5]) hL1
    have kpA := kp5.new (o := .lst [.ref p1, .ref p2, .ref p3, .ref p4, .ref p5]) (kp5.free D5 hL1)
    have RA := R5.updN (o := .lst [.ref p1, .ref p2, .ref p3, .ref p4, .ref p5]) hL1
    have eA : (upd (upd (upd (upd (upd (upd H p1 (.tup (Op.rw (.copy 0 c)).vs)) p2 (.tup (Op.rw (.copy c 0)).vs)) p3 (.tup (Op.rw (.store 9 7)).vs)) p4 (.tup (Op.rw (.load 7 0)).vs)) p5 (.tup (Op.rw (.set c 1)).vs)) L1 (.lst [.ref p1, .ref p2, .ref p3, .ref p4, .ref p5])) L1 = some (.lst [.ref p1, .ref p2, .ref p3, .ref p4, .ref p5]) := upd_same
    refine ⟨_, rfl, _, rfl, (by first | (show 3 ≤ sizeLine; decide) | (show 4 ≤ sizeLine; decide) | (show 5 ≤ sizeLine; decide)), fun p6 h6 => ?_⟩
    have R6 := RA.grow (o := .right c 0) h6
    have kp6 := kpA.new (o := .tup (Op.rw (.right c 0)).vs) (kpA.free DA h6)
    have e6 := new_same (o := .tup (Op.rw (.right c 0)).vs) h6 _ _ eA
    have D6 := DA.new (o := .tup (Op.rw (.right c 0)).vs) h6
    refine ⟨(by first | (show 3 ≤ sizeLine; decide) | (show 4 ≤ sizeLine; decide) | (show 5 ≤ sizeLine; decide)), fun p7 h7 => ?_⟩
    have R7 := R6.grow (o := .right 0 7) h7
    have kp7 := kp6.new (o := .tup (Op.rw (.right 0 7)).vs) (kp6.free D6 h7)
    have e7 := new_same (o := .tup (Op.rw (.right 0 7)).vs) h7 _ _ e6
    have D7 := D6.new (o := .tup (Op.rw (.right 0 7)).vs) h7
    refine ⟨(by first | (show 3 ≤ sizeLine; decide) | (show 4 ≤ sizeLine; decide) | (show 5 ≤ sizeLine; decide)), fun p8 h8 => ?_⟩
    have R8 := R7.grow (o := .left 7 0) h8
    have kp8 := kp7.new (o := .tup (Op.rw (.left 7 0)).vs) (kp7.free D7 h8)
    have e8 := new_same (o := .tup (Op.rw (.left 7 0)).vs) h8 _ _ e7
    have D8 := D7.new (o := .tup (Op.rw (.left 7 0)).vs) h8
    refine ⟨_, rfl, (by first | (show 3 ≤ sizeLine; decide) | (show 4 ≤ sizeLine; decide) | (show 5 ≤ sizeLine; decide)), fun p9 h9 => ?_⟩
    have R9 := R8.grow (o := .left 1 c) h9
    have kp9 := kp8.new (o := .tup (Op.rw (.left 1 c)).vs) (kp8.free D8 h9)
    have e9 := new_same (o := .tup (Op.rw (.left 1 c)).vs) h9 _ _ e8
    have D9 := D8.new (o := .tup (Op.rw (.left 1 c)).vs) h9
    refine ⟨(by first | (show 3 ≤ sizeLine; decide) | (show 4 ≤ sizeLine; decide) | (show 5 ≤ sizeLine; decide)), fun p10 h10 => ?_⟩
    have R10 := R9.grow (o := .skip 7 2 1 0) h10
    have kp10 := kp9.new (o := .tup (Op.rw (.skip 7 2 1 0)).vs) (kp9.free D9 h10)
    have e10 := new_same (o := .tup (Op.rw (.skip 7 2 1 0)).vs) h10 _ _ e9
    have D10 := D9.new (o := .tup (Op.rw (.skip 7 2 1 0)).vs) h10
    refine ⟨(by show 5 ≤ sizeLine; decide), fun L2 hL2 => ?_⟩
    have DB := D10.new (o := .lst [.ref p6, .ref p7, .ref p8, .ref p9, .ref p10]) hL2
    have kpB := kp10.new (o := .lst [.ref p6, .ref p7, .ref p8, .ref p9, .ref p10]) (kp10.free D10 hL2)
    have RB := R10.updN (o := .lst [.ref p6, .ref p7, .ref p8, .ref p9, .ref p10]) hL2
    have eB := new_same (o := .lst [.ref p6, .ref p7, .ref p8, .ref p9, .ref p10]) hL2 _ _ e10
    refine ⟨_, _, _, _, rfl, rfl, eB, upd_same, (by show 5 + 5 ≤ sizeLine; decide), fun L3 hL3 => ?_⟩
    have DC := DB.new (o := .lst [.ref p1, .ref p2, .ref p3, .ref p4, .ref p5, .ref p6, .ref p7, .ref p8, .ref p9, .ref p10]) hL3
    have kpC := kpB.new (o := .lst [.ref p1, .ref p2, .ref p3, .ref p4, .ref p5, .ref p6, .ref p7, .ref p8, .ref p9, .ref p10]) (kpB.free DB hL3)
    have RC := RB.updN (o := .lst [.ref p1, .ref p2, .ref p3, .ref p4, .ref p5, .ref p6, .ref p7, .ref p8, .ref p9, .ref p10]) hL3
    -- the word
    refine ⟨(by show 3 ≤ sizeLine; decide), fun L4 hL4 => ?_⟩
    obtain ⟨n4d, n4l⟩ := DC.free hL4
    have DE := DC.new (o := .lst [.str "add", .str "sub", .str "mul"]) hL4
    have kpE := kpC.new (o := .lst [.str "add", .str "sub", .str "mul"]) (kpC.free DC hL4)
    have RE := RC.updN (o := .lst [.str "add", .str "sub", .str "mul"]) hL4
    have eE := new_same (o := .lst [.str "add", .str "sub", .str "mul"]) hL4 L3 (.lst [.ref p1, .ref p2, .ref p3, .ref p4, .ref p5, .ref p6, .ref p7, .ref p8, .ref p9, .ref p10]) upd_same
    obtain ⟨n3d, n3l⟩ := DB.free hL3
    refine ⟨_, rfl, d, l, _, rfl, DE, by decide, by decide, fun j H5 j0 j1 DG kp' => ?_⟩
    have h4 : H5 L4 = some (.lst [.str "add", .str "sub", .str "mul"]) := kp' _ _ upd_same n4d n4l
    have eG := kp' _ _ eE n3d n3l
    have kpG := kpE.trans kp'
    have RG := RE.kept DE kp'
    refine ix_draw h4 j0 j1 (fun v hv => ?_)
    obtain ⟨z, mk, rfl, hmk, hrg, hokm, hfar⟩ : ∃ (z : Str) (mk : Nat → Nat → Nat → Op), v = .str z ∧ (∀ a b c, (mk a b c).rw.vs = [.str z, .int (a : Int), .int (b : Int), .int (c : Int)]) ∧ (∀ a b c, (mk a b c).regs = [(a : Int), (b : Int), (c : Int)]) ∧ (∀ a b c, a < 8 → b < 8 → c < 8 → (mk a b c).ok 8) ∧ ∀ a b c, (mk a b c).far = 0 := by
      have hv' : v = V.str "add" ∨ v = V.str "sub" ∨ v = V.str "mul" := by simpa using hv
      rcases hv' with rfl | rfl | rfl
      · exact ⟨_, .add, rfl, fun _ _ _ => rfl, fun _ _ _ => rfl, fun _ _ _ h1 h2 h3 => ⟨h1, h2, h3⟩, fun _ _ _ => rfl⟩
      · exact ⟨_, .sub, rfl, fun _ _ _ => rfl, fun _ _ _ => rfl, fun _ _ _ h1 h2 h3 => ⟨h1, h2, h3⟩, fun _ _ _ => rfl⟩
      · exact ⟨_, .mul, rfl, fun _ _ _ => rfl, fun _ _ _ => rfl, fun _ _ _ h1 h2 h3 => ⟨h1, h2, h3⟩, fun _ _ _ => rfl⟩
    clear hv h4
    dsimp only [List.set_cons_succ, List.set_cons_zero]
    refine ⟨_, rfl, _, rfl, (by show 4 ≤ sizeLine; decide), fun p11 h11 => ?_⟩
    have R11 := RG.grow (o := mk 7 0 1) h11
    have kp11 := kpG.new (o := .tup [.str z, .int ((7 : Nat) : Int), .int ((0 : Nat) : Int), .int ((1 : Nat) : Int)]) (kpG.free DG h11)
    have e11 := new_same (o := .tup [.str z, .int ((7 : Nat) : Int), .int ((0 : Nat) : Int), .int ((1 : Nat) : Int)]) h11 _ _ eG
    have D11 := DG.new (o := .tup [.str z, .int ((7 : Nat) : Int), .int ((0 : Nat) : Int), .int ((1 : Nat) : Int)]) h11
    rw [hmk] at R11
    refine ⟨_, rfl, _, rfl, (by show 4 ≤ sizeLine; decide), fun p12 h12 => ?_⟩
    have R12 := R11.grow (o := mk 0 c 1) h12
    have kp12 := kp11.new (o := .tup [.str z, .int ((0 : Nat) : Int), .int ((c : Nat) : Int), .int ((1 : Nat) : Int)]) (kp11.free D11 h12)
    have e12 := new_same (o := .tup [.str z, .int ((0 : Nat) : Int), .int ((c : Nat) : Int), .int ((1 : Nat) : Int)]) h12 _ _ e11
    have D12 := D11.new (o := .tup [.str z, .int ((0 : Nat) : Int), .int ((c : Nat) : Int), .int ((1 : Nat) : Int)]) h12
    rw [hmk] at R12
    refine ⟨_, rfl, (by show 4 ≤ sizeLine; decide), fun p13 h13 => ?_⟩
    have R13 := R12.grow (o := mk 1 0 7) h13
    have kp13 := kp12.new (o := .tup [.str z, .int ((1 : Nat) : Int), .int ((0 : Nat) : Int), .int ((7 : Nat) : Int)]) (kp12.free D12 h13)
    have e13 := new_same (o := .tup [.str z, .int ((1 : Nat) : Int), .int ((0 : Nat) : Int), .int ((7 : Nat) : Int)]) h13 _ _ e12
    have D13 := D12.new (o := .tup [.str z, .int ((1 : Nat) : Int), .int ((0 : Nat) : Int), .int ((7 : Nat) : Int)]) h13
    rw [hmk] at R13
    refine ⟨(by show 3 ≤ sizeLine; decide), fun L5 hL5 => ?_⟩
    have D14 := D13.new (o := .lst [.ref p11, .ref p12, .ref p13]) hL5
    have kp14 := kp13.new (o := .lst [.ref p11, .ref p12, .ref p13]) (kp13.free D13 hL5)
    have R14 := R13.updN (o := .lst [.ref p11, .ref p12, .ref p13]) hL5
    have e14 := new_same (o := .lst [.ref p11, .ref p12, .ref p13]) hL5 _ _ e13
    refine ⟨_, _, _, _, rfl, rfl, e14, upd_same, (by show 10 + 3 ≤ sizeLine; decide), fun L6 hL6 => ?_⟩
    have D15 := D14.new (o := .lst [.ref p1, .ref p2, .ref p3, .ref p4, .ref p5, .ref p6, .ref p7, .ref p8, .ref p9, .ref p10, .ref p11, .ref p12, .ref p13]) hL6
    have kp15 := kp14.new (o := .lst [.ref p1, .ref p2, .ref p3, .ref p4, .ref p5, .ref p6, .ref p7, .ref p8, .ref p9, .ref p10, .ref p11, .ref p12, .ref p13]) (kp14.free D14 hL6)
    have R15 := R14.updN (o := .lst [.ref p1, .ref p2, .ref p3, .ref p4, .ref p5, .ref p6, .ref p7, .ref p8, .ref p9, .ref p10, .ref p11, .ref p12, .ref p13]) hL6
    obtain ⟨n6d, n6l⟩ := D14.free hL6
    refine ⟨_, rfl, d, l, _, rfl, D15, by decide, by decide, fun i H7 i0 i1 D16 kp' => ?_⟩
    have h6 : H7 L6 = some (.lst [.ref p1, .ref p2, .ref p3, .ref p4, .ref p5, .ref p6, .ref p7, .ref p8, .ref p9, .ref p10, .ref p11, .ref p12, .ref p13]) := kp' _ _ upd_same n6d n6l
    have R16 := R15.kept D15 kp'
    refine ix_draw h6 i0 i1 (fun v hv => ?_)
    obtain ⟨q, o, rfl, ho, hq⟩ := R16.mem (v := v) hv
    have key : o.ok 8 ∧ badB c o = true ∧ o.far = 0 := by
      have ho' : o = .copy 0 c ∨ o = .copy c 0 ∨ o = .store 9 7 ∨ o = .load 7 0 ∨ o = .set c 1 ∨ o = .right c 0 ∨ o = .right 0 7 ∨ o = .left 7 0 ∨ o = .left 1 c ∨ o = .skip 7 2 1 0 ∨ o = mk 7 0 1 ∨ o = mk 0 c 1 ∨ o = mk 1 0 7 := by simpa using ho
      rcases ho' with rfl | rfl | rfl | rfl | rfl | rfl | rfl | rfl | rfl | rfl | rfl | rfl | rfl
      · exact ⟨⟨by omega, by omega⟩, bad_of (r := c) (by simp [Op.regs]) (by omega), rfl⟩
      · exact ⟨⟨by omega, by omega⟩, bad_of (r := c) (by simp [Op.regs]) (by omega), rfl⟩
      · exact ⟨⟨by omega, by omega, by omega⟩, bad_of (r := 7) (by simp [Op.regs]) (by omega), rfl⟩
      · exact ⟨⟨by omega, by omega, by omega⟩, bad_of (r := 7) (by simp [Op.regs]) (by omega), rfl⟩
      · exact ⟨⟨by omega, by omega, by omega⟩, bad_of (r := c) (by simp [Op.regs]) (by omega), rfl⟩
      · exact ⟨⟨by omega, by omega⟩, bad_of (r := c) (by simp [Op.regs]) (by omega), rfl⟩
      · exact ⟨⟨by omega, by omega⟩, bad_of (r := 7) (by simp [Op.regs]) (by omega), rfl⟩
      · exact ⟨⟨by omega, by omega⟩, bad_of (r := 7) (by simp [Op.regs]) (by omega), rfl⟩
      · exact ⟨⟨by omega, by omega⟩, bad_of (r := c) (by simp [Op.regs]) (by omega), rfl⟩
      · exact ⟨⟨by omega, by decide, by omega, by omega, by omega⟩, bad_of (r := 7) (by simp [Op.regs]) (by omega), rfl⟩
      · exact ⟨hokm _ _ _ (by omega) (by omega) (by omega), bad_of (r := 7) (by rw [hrg]; simp) (by omega), hfar _ _ _⟩
      · exact ⟨hokm _ _ _ (by omega) (by omega) (by omega), bad_of (r := c) (by rw [hrg]; simp) (by omega), hfar _ _ _⟩
      · exact ⟨hokm _ _ _ (by omega) (by omega) (by omega), bad_of (r := 7) (by rw [hrg]; simp) (by omega), hfar _ _ _⟩
    exact k q o H7 D16 (kp15.trans kp') hq key.1 key.2.1 key.2.2
end
end My

set_option pp.maxSteps 400
set_option Elab.async false
set_option linter.all false
set_option maxRecDepth 100000
set_option maxHeartbeats 1000000
namespace My
open PySem L2 MyR

theorem cr_maxN {X : Cx} {K : PySem.W.Frag} (h : X.K = K) (hc : X.calm = true) : CallR X (.builtin "max") (rMax K) := h ▸ cr_max hc
theorem sl_tupN {X : Cx} {K : PySem.W.Frag} (h : X.K = K) : SlR X (rSlT K) := h ▸ sl_tup
theorem op_catTN {X : Cx} {K : PySem.W.Frag} (h : X.K = K) : OpR X (binaryOp .Add) (rCatT K) := h ▸ op_catT
theorem cut_take (xs : List V) (i : Nat) : cutV xs none (some (i : Int)) = xs.take i := by
  unfold cutV
  rw [HT.sIx_nat]
  show (xs.drop 0).take (min i xs.length - 0) = xs.take i
  rw [List.drop_zero, Nat.sub_zero]
  by_cases h : i ≤ xs.length
  · rw [Nat.min_eq_left h]
  · rw [Nat.min_eq_right (by omega), List.take_length, List.take_of_length_le (by omega)]
theorem cut_drop (xs : List V) (i : Nat) : cutV xs (some (i : Int)) none = xs.drop i := by
  unfold cutV
  rw [HT.sIx_nat]
  show (xs.drop (min i xs.length)).take (xs.length - min i xs.length) = xs.drop i
  by_cases h : i ≤ xs.length
  · rw [Nat.min_eq_left h, List.take_of_length_le (by rw [List.length_drop]; omega)]
  · rw [Nat.min_eq_right (by omega), List.drop_length, List.take_nil, List.drop_of_length_le (by omega)]
def spMach (C : Addr) : Sp := fun vs H Q _ => ∃ (p dx : Addr) (a b : Int), vs = [.ref p, .int a, .int b] ∧ H p = some (.ins C dx []) ∧ ∀ H', H' p = some (.ins C dx [("width", .int a), ("registers", .int b)]) → (∀ b o, H b = some o → b ≠ p → H' b = some o) → Q .non H'
/-- the classes as their users know them -/
structure MacX (P : Program) (w : World) (K : PySem.W.Frag) (mg : Str → Option Value) (base : Heap) (C : Addr) where
  f : Addr
  fd : FuncData
  m : Mk K C f
  ok : FnOk P w K mg base CX0 1 f fd ["self", "width", "registers"] (spMach C)
  g : mg "Machine" = some (.ref C)
  b : Binds K fd ["self", "width", "registers"] []
structure CodX (P : Program) (w : World) (K : PySem.W.Frag) (mg : Str → Option Value) (base : Heap) (C : Addr) where
  f : Addr
  fd : FuncData
  m : Mk K C f
  ok : FnOk P w K mg base CX0 5 f fd ["self", "rows"] (spCode C)
  g : mg "Code" = some (.ref C)
  b : Binds K fd ["self", "rows"] []
theorem mach_make {C x dx : Addr} {H : Hp} {a b : Int} {E : XK} {R : V → Hp → Prop} (hx : H x = none) (hd : H dx = none) (k : ∀ H', Same H H' → MachAt C H' a b x → R .non H') : spMach C [.ref x, .int a, .int b] (upd (upd H dx (.own x)) x (.ins C dx [])) R E := by
  refine ⟨x, dx, a, b, rfl, upd_same, fun H' e keep => k H' (fun b o e => keep b o ?_ (ne_of_none e hx)) ⟨dx, e⟩⟩
  rw [upd_ne (ne_of_none e hx), upd_ne (ne_of_none e hd)]
  exact e
theorem code_make {C x dx a : Addr} {as : List Addr} {os : List Op} {H : Hp} {E : XK} {R : V → Hp → Prop} (hx : H x = none) (hd : H dx = none) (ha : H a = some (.lst (refs as))) (hr : RowsAt H (os.map Op.rw) as) (ho : OsOk 8 os) (hl : os.length ≤ 900)
    (k : ∀ H', Same H H' → CodeAt C H' (os.map Op.rw) x → R .non H') : spCode C [.ref x, .ref a] (upd (upd H dx (.own x)) x (.ins C dx [])) R E := by
  have sm : Same H (upd (upd H dx (.own x)) x (.ins C dx [])) := fun b o e => by
    rw [upd_ne (ne_of_none e hx), upd_ne (ne_of_none e hd)]
    exact e
  refine ⟨x, dx, a, as, os.map Op.rw, rfl, upd_same, .inl (sm _ _ ha), hr.same sm, fun i r e => ?_, by rw [List.length_map]; exact hl, fun t H' ini ht => ?_⟩
  · rw [List.getElem?_map] at e
    cases e2 : os[i]? with
    | none => rw [e2] at e; cases e
    | some o =>
      rw [e2] at e
      obtain rfl := Option.some.inj e
      have h1 := ho.1 o (List.mem_of_getElem? e2)
      have h2 := ho.2 i o e2
      refine ⟨Op.rw_ok (Nat.le_refl 8) h1, Op.rw_fits ?_⟩
      rw [List.length_map]
      omega
  · have s2 : Same H H' := fun b o e => ini.2 b o (sm _ _ e) (ne_of_none e hx)
    exact k H' s2 ⟨dx, t, as, ini.1, ht, hr.same s2⟩
theorem MachAt.same {C m : Addr} {H H' : Hp} {a b : Int} (h : MachAt C H a b m) (s : Same H H') : MachAt C H' a b m := let ⟨dx, e⟩ := h; ⟨dx, s _ _ e⟩
/-- a row without its skip -/
def Op.flat : Op → Op
  | .skip a m c _ => .skip a m c 0
  | o => o
theorem flat_regs (o : Op) : o.flat.regs = o.regs := by cases o <;> rfl
theorem flat_far (o : Op) : o.flat.far = 0 := by cases o <;> rfl
theorem flat_ok {m : Nat} {o : Op} (h : o.ok m) : o.flat.ok m := by
  cases o with
  | skip a md c n => exact ⟨h.1, h.2.1, h.2.2.1, h.2.2.2.1, Nat.zero_le _⟩
  | set a n => exact h
  | copy a b => exact h
  | add a b c => exact h
  | sub a b c => exact h
  | mul a b c => exact h
  | left a b => exact h
  | right a b => exact h
  | load a n => exact h
  | store n a => exact h
theorem flat_bad (m : Nat) (o : Op) : badB m o.flat = badB m o := by unfold badB; rw [flat_regs]
theorem flat_only {o : Op} (h : ¬ o.rw.w = ("skip" : Str)) : o.flat = o := by
  cases o with
  | skip a md c n => exact absurd rfl h
  | set a n => rfl
  | copy a b => rfl
  | add a b c => rfl
  | sub a b c => rfl
  | mul a b c => rfl
  | left a b => rfl
  | right a b => rfl
  | load a n => rfl
  | store n a => rfl
theorem skip_only {o : Op} (h : o.rw.w = ("skip" : Str)) : ∃ a m c n, o = .skip a m c n := by
  cases o with
  | skip a md c n => exact ⟨_, _, _, _, rfl⟩
  | set a n => exact absurd h (by show ¬ ("set" : Str) = _; decide +kernel)
  | copy a b => exact absurd h (by show ¬ ("copy" : Str) = _; decide +kernel)
  | add a b c => exact absurd h (by show ¬ ("add" : Str) = _; decide +kernel)
  | sub a b c => exact absurd h (by show ¬ ("sub" : Str) = _; decide +kernel)
  | mul a b c => exact absurd h (by show ¬ ("mul" : Str) = _; decide +kernel)
  | left a b => exact absurd h (by show ¬ ("left" : Str) = _; decide +kernel)
  | right a b => exact absurd h (by show ¬ ("right" : Str) = _; decide +kernel)
  | load a n => exact absurd h (by show ¬ ("load" : Str) = _; decide +kernel)
  | store n a => exact absurd h (by show ¬ ("store" : Str) = _; decide +kernel)
theorem regs_some (o : Op) : 0 < o.regs.length := by cases o <;> simp [Op.regs]
theorem max_bad {c : Nat} {o : Op} {m : Int} (h : m ∈ o.regs) (hm : ∀ y, y ∈ o.regs → y ≤ m) : decide (m < (c : Int)) = !badB c o := by
  by_cases e : m < (c : Int)
  · rw [decide_eq_true e]
    have : badB c o = false := by
      rw [Bool.eq_false_iff]
      intro h3
      obtain ⟨b, hb, hb2⟩ := List.any_eq_true.mp h3
      obtain ⟨r, hr, e2⟩ := List.mem_map.mp hb
      have := hm r hr
      have hb3 : b = true := hb2
      rw [hb3] at e2
      have := of_decide_eq_true e2
      omega
    rw [this]
    rfl
  · rw [decide_eq_false e]
    have : badB c o = true := List.any_eq_true.mpr ⟨true, List.mem_map.mpr ⟨m, h, decide_eq_true (by omega)⟩, rfl⟩
    rw [this]
    rfl
theorem told_dp {K : PySem.W.Frag} {H : Hp} {p : Addr} {z : Str} {b : Int} (h : H p = some (.tup [.str z, .int b])) : Dp K H (.ref p) (.tuple [.str z, .int b]) := .tup (SqT.of h) (.cons (.str z) (.cons (.int b) .nil))
theorem told_lay (b : Int) : (PyData.tuple [.str "register", .int b]).canLay0 = true := by
  rw [PyData.canLay0, PyData.canLayAll0, PyData.canLay0, show PyData.canLayAll0 [PyData.int b] = true from ints_lay [b], show PyData.strOk "register" = true by decide +kernel]
  rfl
theorem told_shaped (b : Int) : SeqAt.shaped (.tuple [.str "register", .int b]) = true := by
  unfold SeqAt.shaped
  rw [told_lay, Bool.true_and]
  refine decide_eq_true ?_
  rw [PyData.depth, PyData.depthAll, PyData.depth, show PyData.depthAll [PyData.int b] = 0 from ints_depth [b]]
  decide
/-- rows that all stand, none skips -/
def Flats (os : List Op) : Prop := ∀ o ∈ os, o.ok 8 ∧ o.far = 0
theorem Flats.all {os : List Op} (h : Flats os) : OsOk 8 os := ⟨fun o ho => (h o ho).1, fun i o e => by
  have := (h o (List.mem_of_getElem? e)).2
  have := (List.getElem?_eq_some_iff.mp e).1
  omega⟩
def spSR : Sp := fun vs H Q _ => ∃ (d l rows : Addr) (os : List Op) (wd : Nat), vs = [.ref d, .ref rows, .int (wd : Int)] ∧ Deal H d l ∧ rows ≠ d ∧ rows ≠ l ∧ LstAt H (os.map Op.rw) rows ∧ (∀ o ∈ os, o.ok 8) ∧ os.length ≤ 100 ∧ 1 ≤ wd ∧ wd ≤ 64 ∧ ∀ H', Deal H' d l → Kept d l H H' → Q (.bl true) H'
theorem refs_app (a b : List Addr) : refs (a ++ b) = refs a ++ refs b := List.map_append ..
theorem refs_take (a : List Addr) (i : Nat) : (refs a).take i = refs (a.take i) := (List.map_take ..).symm
theorem refs_drop (a : List Addr) (i : Nat) : (refs a).drop i = refs (a.drop i) := (List.map_drop ..).symm
theorem RowsAt.app {H : Hp} {rs rs' : List Rw} {as as' : List Addr} (h : RowsAt H rs as) (h' : RowsAt H rs' as') : RowsAt H (rs ++ rs') (as ++ as') := by
  refine ⟨by rw [List.length_append, List.length_append, h.len, h'.len], fun i r e => ?_⟩
  by_cases hi : i < rs.length
  · rw [List.getElem?_append_left hi] at e
    obtain ⟨p, e1, e2⟩ := h.at_ i r e
    exact ⟨p, by rw [List.getElem?_append_left (by rw [h.len]; exact hi)]; exact e1, e2⟩
  · rw [List.getElem?_append_right (by omega)] at e
    obtain ⟨p, e1, e2⟩ := h'.at_ _ r e
    exact ⟨p, by rw [List.getElem?_append_right (by rw [h.len]; omega), h.len]; exact e1, e2⟩
theorem RowsAt.tk {H : Hp} {rs : List Rw} {as : List Addr} (h : RowsAt H rs as) (n : Nat) : RowsAt H (rs.take n) (as.take n) := by
  refine ⟨by rw [List.length_take, List.length_take, h.len], fun i r e => ?_⟩
  rw [List.getElem?_take] at e
  by_cases hi : i < n
  · rw [if_pos hi] at e
    obtain ⟨p, e1, e2⟩ := h.at_ i r e
    exact ⟨p, by rw [List.getElem?_take, if_pos hi]; exact e1, e2⟩
  · rw [if_neg hi] at e
    cases e
theorem RowsAt.dp {H : Hp} {rs : List Rw} {as : List Addr} (h : RowsAt H rs as) (n : Nat) : RowsAt H (rs.drop n) (as.drop n) := by
  refine ⟨by rw [List.length_drop, List.length_drop, h.len], fun i r e => ?_⟩
  rw [List.getElem?_drop] at e
  obtain ⟨p, e1, e2⟩ := h.at_ _ r e
  exact ⟨p, by rw [List.getElem?_drop]; exact e1, e2⟩
section
variable {P : Program} {w : World} {K : PySem.W.Frag} {mg : Str → Option Value} {base : Heap}
abbrev s_Machine_init : Stmt := inClass (top 24) 0
abbrev N_Machine_init : List Str := ["self", "width", "registers"]
theorem sc_Machine_init : FnScope N_Machine_init ["self", "width", "registers"] (defScope s_Machine_init) := ⟨rfl, rfl, rfl, by decide +kernel, rfl, by decide +kernel, by decide +kernel⟩
theorem ok_Machine_init {f C : Addr} {fd : FuncData} (F : Fun K "__init__" "Machine.__init__" s_Machine_init f fd) (cl : Cls K C) (n1 : NoAttr K C "width") (n2 : NoAttr K C "registers") : FnOk P w K mg base CX0 1 f fd ["self", "width", "registers"] (spMach C) := by
  refine F.ok sc_Machine_init (fun vs H Q E h => ?_) (fun cdv A outer s H vs Q E hr h => ?_)
  · obtain ⟨p, dx, a, b, rfl, _⟩ := h
    rfl
  · obtain ⟨p, dx, a, b, rfl, hp, k⟩ := h
    refine ⟨_, (pss_cons (ps_fld (pv 0) (pv 1) rfl)
    (pss_one (ps_fld (pv 0) (pv 2) rfl))), ?_⟩
    refine ⟨_, rfl, _, rfl, p, C, dx, _, rfl, hp, cl, n1, (by show 0 < 1000; decide), ?_⟩
    refine ⟨_, rfl, _, rfl, p, C, dx, _, rfl, upd_same, cl, n2, (by show 1 < 1000; decide), ?_⟩
    refine k _ upd_same fun b o e hb => ?_
    rw [upd_ne hb, upd_ne hb]
    exact e
abbrev s_law_strange_right : Stmt := top 56
abbrev N_law_strange_right : List Str := ["_law_deal_here", "_law_rows_here", "_law_wide", "_law_count", "_law_some", "_law_row_here", "_law_at", "_law_less", "_law_wrong", "_law_hidden", "_law_machine"]
theorem sc_law_strange_right : FnScope N_law_strange_right ["_law_deal_here", "_law_rows_here", "_law_wide"] (defScope s_law_strange_right) := ⟨rfl, rfl, rfl, by decide +kernel, rfl, by decide +kernel, by decide +kernel⟩
theorem ok_law_strange_right {f CM CC : Addr} {fd : FuncData} (F : Fun K "_law_strange_right" "_law_strange_right" s_law_strange_right f fd) (T : Glob mg) (MX : MacX P w K mg base CM) (CX : CodX P w K mg base CC) (D_law_draw : Df P w K mg base 1 "_law_draw" ["_law_deal_here", "_law_many"] spDraw)
    (D_law_numbers : Df P w K mg base 1 "_law_numbers" ["_law_row_here"] spNumbers) (D_law_strange : Df P w K mg base 2 "_law_strange" ["_law_deal_here", "_law_count"] spStrange) (D_law_told : Df P w K mg base 5 "_law_told" ["_law_machine", "_law_code", "_law_inputs", "_law_fills"] (spTold CM CC)) : FnOk P w K mg base CX0 7 f fd ["_law_deal_here", "_law_rows_here", "_law_wide"] spSR := by
  refine F.ok sc_law_strange_right (fun vs H Q E h => ?_) (fun cdv A outer s H vs Q E hr h => ?_)
  · obtain ⟨d, l, rows, os, wd, rfl, _⟩ := h
    rfl
  · obtain ⟨d, l, rows, os, wd, rfl, D, nd1, nl1, ⟨as, hrows, hrA⟩, hos, hlen, w1, w64, k⟩ := h
    have nd := sc_law_strange_right.nd
    have hu := hu_of hr
    refine ⟨_, (pss_cons (ps_set (i := 3) nd rfl (Or.inr rfl) (pe_op op_add pe_int (pe_call D_law_draw.ok (hr.mono (by decide)) (by rfl) D_law_draw.g D_law_draw.kp D_law_draw.b .nil pass0 (pa_cons (pv 0) (pa_cons pe_int pa_nil)))))
    (pss_cons (ps_setLc (i := 4) (own := [("_law_row_here", 5)]) (g := gName 5) rfl nd rfl rfl (sw_true rfl rfl rfl (by decide +kernel)) (pi_list (pv 1)) (blkOk_by (N := N_law_strange_right) (sc := defScope s_law_strange_right) (by decide +kernel)) (fun _ _ _ _ _ => pg_name (i := 5) nd rfl (Or.inl rfl)) (fun _ _ _ _ _ => pts_one (pt_cmpR op_lt (pe_callB (cr_maxN (K := K) rfl rfl) (by rfl) T.g_max (by decide +kernel) (pa_cons (pe_call D_law_numbers.ok (hr.mono (by decide)) (by rfl) D_law_numbers.g D_law_numbers.kp D_law_numbers.b .nil pass0 (pa_cons (pv 5) pa_nil)) pa_nil)) (pv 3) (nomark _))) (fun _ _ _ _ _ => (pv 5)))
    (pss_cons (ps_set (i := 6) nd rfl (Or.inl rfl) (pe_call D_law_draw.ok (hr.mono (by decide)) (by rfl) D_law_draw.g D_law_draw.kp D_law_draw.b .nil pass0 (pa_cons (pv 0) (pa_cons (pe_op op_add (pe_callB call_len_seq (by rfl) T.g_len PySem.boot_len (pa_cons (pv 4) pa_nil)) pe_int) pa_nil))))
    (pss_cons (ps_setLc (i := 7) (own := [("_law_row_here", 5)]) (g := gName 5) (tt := tYes) rfl nd rfl rfl (sw_true rfl rfl rfl (by decide +kernel)) (pi_list (pv 4)) (blkOk_by (N := N_law_strange_right) (sc := defScope s_law_strange_right) (by decide +kernel)) (fun _ _ _ _ _ => pg_name (i := 5) nd rfl (Or.inl rfl)) (fun _ _ _ _ _ => pts_nil) (fun _ _ _ _ _ => (pe_ifExp (pt_cmpR op_eq (pe_ix (ix_tupN (K := K) rfl) (pv 5) pe_int (fun _ _ => rfl)) pe_str (nomark _)) (pe_op (op_catTN (K := K) rfl) (pe_slice (sl_tupN (K := K) rfl) (pv 5) po_none (po_some pe_int)) (pe_tup (pa_cons pe_int pa_nil))) (pv 5))))
    (pss_cons (ps_set (i := 8) nd rfl (Or.inl rfl) (pe_op op_cat (pe_op op_cat (pe_slice sl_list (pv 7) po_none (po_some (pv 6))) (pe_lst (pa_cons (pe_call D_law_strange.ok (hr.mono (by decide)) (by rfl) D_law_strange.g D_law_strange.kp D_law_strange.b .nil pass0 (pa_cons (pv 0) (pa_cons (pv 3) pa_nil))) (pa_cons (pe_tup (pa_cons pe_str (pa_cons pe_int (pa_cons pe_int pa_nil)))) pa_nil)))) (pe_slice sl_list (pv 7) (po_some (pv 6)) po_none)))
    (pss_cons (ps_set (i := 9) nd rfl (Or.inl rfl) (pe_op op_cat (pe_op op_cat (pe_lst (pa_cons (pe_tup (pa_cons pe_str (pa_cons pe_int (pa_cons pe_int (pa_cons pe_int (pa_cons (pe_callB call_len_seq (by rfl) T.g_len PySem.boot_len (pa_cons (pv 8) pa_nil)) pa_nil)))))) pa_nil)) (pv 8)) (pe_lst (pa_cons (pe_tup (pa_cons pe_str (pa_cons pe_int (pa_cons pe_int pa_nil)))) pa_nil))))
    (pss_cons (ps_set (i := 10) nd rfl (Or.inl rfl) (pe_make MX.m MX.ok (hr.mono (by decide)) (by rfl) MX.g MX.b .nil pass0 (pa_cons (pv 2) (pa_cons (pv 3) pa_nil))))
    (pss_cons (ps_if (pt_cmpR (op_neD hr.units) (pe_call D_law_told.ok (hr.mono (by decide)) (by rfl) D_law_told.g D_law_told.kp D_law_told.b .nil pass0 (pa_cons (pv 10) (pa_cons (pe_make CX.m CX.ok (hr.mono (by decide)) (by rfl) CX.g CX.b .nil pass0 (pa_cons (pv 8) pa_nil)) (pa_cons (pe_lst (pa_cons pe_int pa_nil)) (pa_cons (pe_tup pa_nil) pa_nil))))) (pe_tup (pa_cons pe_str (pa_cons (pv 6) pa_nil))) (nomark _))
    (pss_one (ps_ret pe_bl))
    pss_nil)
    (pss_one (ps_ret (pe_cmpR (op_eqD hr.units) (pe_call D_law_told.ok (hr.mono (by decide)) (by rfl) D_law_told.g D_law_told.kp D_law_told.b .nil pass0 (pa_cons (pv 10) (pa_cons (pe_make CX.m CX.ok (hr.mono (by decide)) (by rfl) CX.g CX.b .nil pass0 (pa_cons (pv 9) pa_nil)) (pa_cons (pe_lst (pa_cons pe_int pa_nil)) (pa_cons (pe_tup pa_nil) pa_nil))))) (pe_tup (pa_cons pe_str (pa_cons (pe_op op_add (pv 6) pe_int) pa_nil))) (nomark _)))))))))))), ?_⟩
    refine seq_by (fun σ H1 => ∃ c : Nat, σ = [some (.ref d), some (.ref rows), some (.int (wd : Int)), some (.int (c : Int)), none, none, none, none, none, none, none] ∧ 3 ≤ c ∧ c ≤ 7 ∧ Deal H1 d l ∧ Kept d l H H1) (fun D' hD' => ?_) ?_
    · refine ⟨_, rfl, d, l, _, rfl, D, by decide, by decide, fun c0 H1 c00 c01 D1 kp1 => ⟨_, _, rfl, rfl, hD' _ _ ⟨(3 + c0).toNat, ?_, by omega, by omega, D1, kp1⟩⟩⟩
      rw [show (((3 + c0).toNat : Nat) : Int) = 3 + c0 by omega]
      rfl
    rintro σ H1 ⟨c, rfl, c3, c7, D1, kp1⟩
    have hrows1 := kp1 _ _ hrows nd1 nl1
    have hr1 := hrA.kept D kp1
    -- rows whose registers are there
    refine ⟨_, rfl, rows, rfl, ⟨_, SqL.of hrows1⟩, fun L hL => ?_⟩
    obtain ⟨nLd, nLl⟩ := D1.free hL
    have nrL : rows ≠ L := ne_of_none hrows1 hL
    refine lc_list (xs := refs as) (fun i H2 => ∃ bs, Same H1 H2 ∧ H2 L = some (.lst (refs bs)) ∧ RowsAt H2 (((os.take i).filter fun o => !badB c o).map Op.rw) bs) ⟨[], new_same hL, upd_same, RowsAt.nil⟩ (fun i H2 _ ⟨_, sm, _⟩ => SqL.of (sm _ _ hrows1)) ?_ ?_
    · rintro i x H2 hx ⟨bs, sm, h2, hb⟩
      have hil : i < os.length := by
        have h1 := (List.getElem?_eq_some_iff.mp hx).1
        rw [refs_len, hr1.len, List.length_map] at h1
        exact h1
      obtain ⟨q, e1, e2⟩ := hr1.at_ i os[i].rw (by rw [List.getElem?_map, List.getElem?_eq_getElem hil]; rfl)
      rw [refs_at e1] at hx
      obtain rfl := Option.some.inj hx
      refine ⟨rfl, ?_⟩
      refine ⟨_, rfl, q, os[i], rfl, e2.same sm, fun N H3 sm3 hN => ?_⟩
      refine ⟨N, os[i].regs, rfl, SqL.of hN, regs_some _, fun m hm hmax => ?_⟩
      refine ⟨_, rfl, _, _, rfl, rfl, _, rfl, ?_⟩
      rw [max_bad hm hmax]
      have et : os.take (i + 1) = os.take i ++ [os[i]] := by
        rw [List.take_add_one, List.getElem?_eq_getElem hil]
        rfl
      cases hbad : badB c os[i] with
      | false =>
        refine iteT ?_
        have h3 := sm3 _ _ h2
        refine ⟨_, rfl, refs bs, h3, ?_, bs ++ [q], fun b o e => ?_, ?_, ?_⟩
        · rw [refs_len, hb.len, List.length_map]
          have := List.length_filter_le (fun o => !badB c o) (os.take i)
          rw [List.length_take] at this
          exact small1000 (by omega)
        · rw [upd_ne (ne_of_none e hL)]
          exact sm3 _ _ (sm _ _ e)
        · rw [upd_same, refs_app]
          rfl
        · rw [et, List.filter_append, List.map_append, show List.filter (fun o => !badB c o) [os[i]] = [os[i]] from List.filter_cons_of_pos (p := fun o => !badB c o) (a := os[i]) (l := []) (by show (!badB c os[i]) = true; rw [hbad]; rfl)]
          exact ((hb.same sm3).snoc ((e2.same sm).same sm3)).upd h3
      | true =>
        refine iteF ⟨bs, sm.trans sm3, sm3 _ _ h2, ?_⟩
        rw [et, List.filter_append, show List.filter (fun o => !badB c o) [os[i]] = [] from List.filter_cons_of_neg (p := fun o => !badB c o) (a := os[i]) (l := []) (by show ¬ (!badB c os[i]) = true; rw [hbad]; decide), List.append_nil]
        exact hb.same sm3
    rintro H2 ⟨bs, sm2, hL2, hb2⟩
    rw [refs_len, hr1.len, List.length_map, List.take_length] at hb2
    have hg : ∀ o ∈ os.filter (fun o => !badB c o), o.ok 8 ∧ badB c o = false := fun o ho => by
      obtain ⟨h1, h2⟩ := List.mem_filter.mp ho
      refine ⟨hos o h1, ?_⟩
      cases h : badB c o
      · rfl
      · rw [h] at h2; cases h2
    have hgl : (os.filter fun o => !badB c o).length ≤ 100 := Nat.le_trans (List.length_filter_le _ _) hlen
    generalize os.filter (fun o => !badB c o) = gs at hb2 hg hgl
    have D2 := D1.same sm2
    have kp2 := kp1.trans (Kept.of sm2)
    -- where
    refine ⟨_, rfl, _, rfl, L, _, rfl, .inl (SqL.of hL2), _, _, rfl, rfl, d, l, _, rfl, D2, ?_, ?_, fun a H3 a0 a1 D3 kp3 => ?_⟩
    · omega
    · rw [refs_len, hb2.len, List.length_map]
      omega
    rw [refs_len, hb2.len, List.length_map] at a1
    obtain ⟨n, rfl⟩ : ∃ n : Nat, a = (n : Int) := ⟨a.toNat, by omega⟩
    have hn : n ≤ gs.length := by omega
    have hL3 := kp3 _ _ hL2 nLd nLl
    have hb3 := hb2.kept D2 kp3
    have kp4 := kp2.trans kp3
    dsimp only [List.set_cons_succ, List.set_cons_zero]
    -- the same rows, none skips
    refine ⟨_, rfl, L, rfl, ⟨_, SqL.of hL3⟩, fun M hM => ?_⟩
    obtain ⟨nMd, nMl⟩ := D3.free hM
    refine lc_list (xs := refs bs) (fun i H4 => ∃ cs, Same H3 H4 ∧ H4 M = some (.lst (refs cs)) ∧ RowsAt H4 (((gs.take i).map Op.flat).map Op.rw) cs) ⟨[], new_same hM, upd_same, RowsAt.nil⟩ (fun i H4 _ ⟨_, sm, _⟩ => SqL.of (sm _ _ hL3)) ?_ ?_
    · rintro i x H4 hx ⟨cs, sm, h4, hc4⟩
      have hil : i < gs.length := by
        have h1 := (List.getElem?_eq_some_iff.mp hx).1
        rw [refs_len, hb3.len, List.length_map] at h1
        exact h1
      obtain ⟨q, e1, e2⟩ := hb3.at_ i gs[i].rw (by rw [List.getElem?_map, List.getElem?_eq_getElem hil]; rfl)
      rw [refs_at e1] at hx
      obtain rfl := Option.some.inj hx
      refine ⟨rfl, ?_⟩
      have hq4 : RowAt H4 gs[i].rw q := e2.same sm
      have et : gs.take (i + 1) = gs.take i ++ [gs[i]] := by
        rw [List.take_add_one, List.getElem?_eq_getElem hil]
        rfl
      have cl4 : cs.length = i := by rw [hc4.len, List.length_map, List.length_map, List.length_take]; omega
      have fin : ∀ (u : Addr) (H5 : Hp), Same H4 H5 → RowAt H5 gs[i].flat.rw u → ∃ acc, H5 M = some (.lst acc) ∧ acc.length < sizeLine ∧ ∃ cs, Same H3 (upd H5 M (.lst (acc ++ [.ref u]))) ∧ (upd H5 M (.lst (acc ++ [.ref u]))) M = some (.lst (refs cs)) ∧ RowsAt (upd H5 M (.lst (acc ++ [.ref u]))) (((gs.take (i + 1)).map Op.flat).map Op.rw) cs := fun u H5 s5 hu5 => by
        have h5 := s5 _ _ h4
        refine ⟨refs cs, h5, by rw [refs_len, cl4]; exact small1000 (by omega), cs ++ [u], fun b o e => ?_, ?_, ?_⟩
        · rw [upd_ne (ne_of_none e hM)]
          exact s5 _ _ (sm _ _ e)
        · rw [upd_same, refs_app]
          rfl
        · rw [et, List.map_append, List.map_append]
          exact ((hc4.same s5).snoc hu5).upd h5
      refine ⟨_, rfl, q, _, _, .str gs[i].rw.w, rfl, rfl, SqT.of hq4, atI_nat (j := 0) rfl, rfl, _, rfl, ?_⟩
      refine ite2 (fun h => ?_) (fun h => ?_)
      · have h := V.str.inj (of_decide_eq_true h)
        obtain ⟨a', m', c', n', eo⟩ := skip_only h
        rw [eo] at hq4 fin
        have hq5 : H4 q = some (.tup ([.str "skip", .int (a' : Int), .int m', .int c'] ++ [.int (n' : Int)])) := hq4
        refine ⟨_, rfl, _, rfl, q, _, rfl, SqT.of hq5, not_whole_front _ _ 4 rfl (by simp), fun u hu0 => ?_⟩
        rw [show cutV ([V.str "skip", V.int (a' : Int), V.int m', V.int c'] ++ [V.int (n' : Int)]) none (some 4) = [.str "skip", .int (a' : Int), .int m', .int c'] from cut_front _ _ 4 rfl]
        have s5 := new_same (o := .tup [.str "skip", .int (a' : Int), .int m', .int c']) hu0
        refine ⟨(by show 1 ≤ sizeLine; decide), fun u2 hu2 => ?_⟩
        have s6 := s5.trans (new_same (o := .tup [.int 0]) hu2)
        refine ⟨u, u2, _, _, rfl, rfl, SqT.of (new_same hu2 _ _ upd_same), SqT.of upd_same, by simp, (by show 4 + 1 ≤ sizeLine; decide), fun e => absurd e (by simp), fun _ u3 hu3 => ?_⟩
        exact fin u3 _ (s6.trans (new_same hu3)) upd_same
      · have h : ¬ gs[i].rw.w = ("skip" : Str) := fun e => h (decide_eq_true (by rw [e]))
        rw [flat_only h] at fin
        exact ⟨_, rfl, fin q H4 (Same.refl H4) hq4⟩
    rintro H4 ⟨cs, sm4, hM4, hc4⟩
    rw [refs_len, hb3.len, List.length_map, List.take_length] at hc4
    have hfl : ∀ o ∈ gs.map Op.flat, o.ok 8 ∧ o.far = 0 ∧ badB c o = false := fun o ho => by
      obtain ⟨o', ho', rfl⟩ := List.mem_map.mp ho
      exact ⟨flat_ok (hg o' ho').1, flat_far o', by rw [flat_bad]; exact (hg o' ho').2⟩
    have hll : (gs.map Op.flat).length = gs.length := List.length_map ..
    generalize gs.map Op.flat = ls at hc4 hfl hll
    have D4 := D3.same sm4
    have kp5 := kp4.trans (Kept.of sm4)
    -- the wrong rows
    dsimp only [List.set_cons_succ, List.set_cons_zero]
    refine seq_by (fun σ H11 => ∃ (W2 : Addr) (wa : List Addr) (wr : List Op) (so : Op), σ = [some (.ref d), some (.ref rows), some (.int (wd : Int)), some (.int (c : Int)), some (.ref L), none, some (.int (n : Int)), some (.ref M), some (.ref W2), none, none] ∧ Deal H11 d l ∧ Kept d l H H11 ∧ H11 W2 = some (.lst (refs wa)) ∧ RowsAt H11 (wr.map Op.rw) wa ∧ Flats wr ∧ wr.length = gs.length + 2 ∧ wa.length = gs.length + 2 ∧ wr[n]? = some so ∧ badB c so = true ∧ ∀ o ∈ wr.take n, badB c o = false) (fun D' hD' => ?_) ?_
    · have hM4l := hM4
      refine ⟨_, rfl, _, rfl, _, rfl, M, _, rfl, SqL.of hM4, fun U hU => ?_⟩
      rw [cut_take, refs_take]
      have s5 := new_same (o := .lst (refs (cs.take n))) hU
      have D5 := D4.new (o := .lst (refs (cs.take n))) hU
      have kp6 := kp5.new (o := .lst (refs (cs.take n))) (kp5.free D4 hU)
      obtain ⟨nUd, nUl⟩ := D4.free hU
      refine ⟨_, rfl, _, rfl, d, l, c, rfl, D5, c3, c7, fun qs so H6 D6 kp7 hqs okS badS farS => ?_⟩
      have hU6 : H6 U = some (.lst (refs (cs.take n))) := kp7 _ _ upd_same nUd nUl
      have hM6 : H6 M = some (.lst (refs cs)) := kp7 _ _ (s5 _ _ hM4) nMd nMl
      have hc6 := (hc4.same s5).kept D5 kp7
      refine ⟨(by show 3 ≤ sizeLine; decide), fun pt hpt => ?_⟩
      have s7 := new_same (o := .tup (Op.rw (.set 7 1)).vs) hpt
      refine ⟨(by show 2 ≤ sizeLine; decide), fun pl hpl => ?_⟩
      have s8 := s7.trans (new_same (o := .lst [.ref qs, .ref pt]) hpl)
      refine ⟨_, _, _, _, rfl, rfl, s8 _ _ hU6, upd_same, ?_, fun W1 hW1 => ?_⟩
      · rw [refs_len, List.length_take, hc6.len, List.length_map]
        show _ + 2 ≤ sizeLine
        rw [sizeLine_eq]
        omega
      have s9 := s8.trans (new_same (o := .lst (refs (cs.take n) ++ [.ref qs, .ref pt])) hW1)
      refine ⟨_, rfl, _, rfl, _, rfl, M, _, rfl, SqL.of (s9 _ _ hM6), fun V1 hV1 => ?_⟩
      rw [cut_drop, refs_drop]
      have s10 := s9.trans (new_same (o := .lst (refs (cs.drop n))) hV1)
      have hW10 := new_same (o := .lst (refs (cs.drop n))) hV1 W1 _ upd_same
      refine ⟨_, _, _, _, rfl, rfl, hW10, upd_same, ?_, fun W2 hW2 => ?_⟩
      · rw [List.length_append, refs_len, List.length_take, hc6.len, List.length_map, refs_len, List.length_drop, hc6.len, List.length_map]
        show _ + 2 + _ ≤ sizeLine
        rw [sizeLine_eq]
        omega
      have eW : refs (cs.take n) ++ [V.ref qs, V.ref pt] ++ refs (cs.drop n) = refs (cs.take n ++ [qs, pt] ++ cs.drop n) := by
        rw [refs_app, refs_app]
        rfl
      rw [eW]
      have s11 := s10.trans (new_same (o := .lst (refs (cs.take n ++ [qs, pt] ++ cs.drop n))) hW2)
      have hW11 : (upd (upd (upd (upd (upd H6 pt (.tup (Op.rw (.set 7 1)).vs)) pl (.lst [.ref qs, .ref pt])) W1 (.lst (refs (cs.take n) ++ [.ref qs, .ref pt]))) V1 (.lst (refs (cs.drop n)))) W2 (.lst (refs (cs.take n ++ [qs, pt] ++ cs.drop n)))) W2 = some (.lst (refs (cs.take n ++ [qs, pt] ++ cs.drop n))) := upd_same
      have hpt11 : RowAt (upd (upd (upd (upd (upd H6 pt (.tup (Op.rw (.set 7 1)).vs)) pl (.lst [.ref qs, .ref pt])) W1 (.lst (refs (cs.take n) ++ [.ref qs, .ref pt]))) V1 (.lst (refs (cs.drop n)))) W2 (.lst (refs (cs.take n ++ [qs, pt] ++ cs.drop n)))) (Op.rw (.set 7 1)) pt :=
        new_same hW2 _ _ (new_same hV1 _ _ (new_same hW1 _ _ (new_same hpl _ _ upd_same)))
      have hc11 := hc6.same s11
      have hqs11 : RowAt (upd (upd (upd (upd (upd H6 pt (.tup (Op.rw (.set 7 1)).vs)) pl (.lst [.ref qs, .ref pt])) W1 (.lst (refs (cs.take n) ++ [.ref qs, .ref pt]))) V1 (.lst (refs (cs.drop n)))) W2 (.lst (refs (cs.take n ++ [qs, pt] ++ cs.drop n)))) so.rw qs := hqs.same s11
      have hmid : RowsAt (upd (upd (upd (upd (upd H6 pt (.tup (Op.rw (.set 7 1)).vs)) pl (.lst [.ref qs, .ref pt])) W1 (.lst (refs (cs.take n) ++ [.ref qs, .ref pt]))) V1 (.lst (refs (cs.drop n)))) W2 (.lst (refs (cs.take n ++ [qs, pt] ++ cs.drop n)))) ([so, .set 7 1].map Op.rw) [qs, pt] := (RowsAt.nil.snoc hqs11).snoc hpt11
      have hwrong : RowsAt (upd (upd (upd (upd (upd H6 pt (.tup (Op.rw (.set 7 1)).vs)) pl (.lst [.ref qs, .ref pt])) W1 (.lst (refs (cs.take n) ++ [.ref qs, .ref pt]))) V1 (.lst (refs (cs.drop n)))) W2 (.lst (refs (cs.take n ++ [qs, pt] ++ cs.drop n)))) ((ls.take n ++ [so, .set 7 1] ++ ls.drop n).map Op.rw) (cs.take n ++ [qs, pt] ++ cs.drop n) := by
        rw [List.map_append, List.map_append, List.map_take, List.map_drop]
        exact ((hc11.tk n).app hmid).app (hc11.dp n)
      have fl : Flats (ls.take n ++ [so, .set 7 1] ++ ls.drop n) := fun o ho => by
        rcases List.mem_append.mp ho with h | h
        · rcases List.mem_append.mp h with h | h
          · have := hfl o (List.mem_of_mem_take h)
            exact ⟨this.1, this.2.1⟩
          · have h : o = so ∨ o = .set 7 1 := by simpa using h
            rcases h with rfl | rfl
            · exact ⟨okS, farS⟩
            · exact ⟨⟨by omega, by decide, by decide⟩, rfl⟩
        · have := hfl o (List.mem_of_mem_drop h)
          exact ⟨this.1, this.2.1⟩
      have wl : (ls.take n ++ [so, .set 7 1] ++ ls.drop n).length = gs.length + 2 := by
        rw [List.length_append, List.length_append, List.length_take, List.length_drop, hll]
        show min n gs.length + 2 + (gs.length - n) = gs.length + 2
        omega
      have tkn : (ls.take n ++ [so, .set 7 1] ++ ls.drop n).take n = ls.take n := by
        rw [List.append_assoc, List.take_append_of_le_length (by rw [List.length_take, hll]; omega), List.take_take, Nat.min_self]
      have atn : (ls.take n ++ [so, .set 7 1] ++ ls.drop n)[n]? = some so := by
        rw [List.append_assoc, List.getElem?_append_right (by rw [List.length_take]; omega), List.length_take, hll, show n - min n gs.length = 0 by omega]
        rfl
      have gd : ∀ o ∈ ls.take n, badB c o = false := fun o ho => (hfl o (List.mem_of_mem_take ho)).2.2
      have wal : (cs.take n ++ [qs, pt] ++ cs.drop n).length = gs.length + 2 := by
        have := hwrong.len
        rw [List.length_map, wl] at this
        exact this
      exact hD' _ _ ⟨W2, cs.take n ++ [qs, pt] ++ cs.drop n, ls.take n ++ [so, .set 7 1] ++ ls.drop n, so, rfl, D6.same s11, (kp6.trans kp7).trans (Kept.of s11), hW11, hwrong, fl, wl, wal, atn, badS, by rw [tkn]; exact gd⟩
    rintro σ H11 ⟨W2, wa, wr, so, rfl, D6, kp7, hW11, hwrong, fl, wl, wal, atn, badS, gd⟩
    -- the hidden ones
    refine seq_by (fun σ HX => ∃ (X2 : Addr) (xa : List Addr) (hi : List Op), σ = [some (.ref d), some (.ref rows), some (.int (wd : Int)), some (.int (c : Int)), some (.ref L), none, some (.int (n : Int)), some (.ref M), some (.ref W2), some (.ref X2), none] ∧ Deal HX d l ∧ Kept d l H HX ∧ HX W2 = some (.lst (refs wa)) ∧ RowsAt HX (wr.map Op.rw) wa ∧ HX X2 = some (.lst (refs xa)) ∧ RowsAt HX (hi.map Op.rw) xa ∧ OsOk 8 hi ∧ hi.length ≤ 900 ∧ hi[n + 1]? = some so ∧ ∀ o ∈ hi.take (n + 1), badB c o = false) (fun D' hD' => ?_) ?_
    · refine ⟨_, rfl, W2, _, rfl, .inl (SqL.of hW11), (by show 5 ≤ sizeLine; decide), fun pk hpk => ?_⟩
      rw [refs_len, wal]
      have t1 := new_same (o := .tup (Op.rw (.skip 0 1 0 (gs.length + 2))).vs) hpk
      refine ⟨(by show 1 ≤ sizeLine; decide), fun l1 hl1 => ?_⟩
      have t2 := t1.trans (new_same (o := .lst [.ref pk]) hl1)
      refine ⟨_, rfl, _, _, _, _, rfl, rfl, upd_same, t2 _ _ hW11, ?_, fun X1 hX1 => ?_⟩
      · show 1 + (refs wa).length ≤ sizeLine
        rw [refs_len, wal, sizeLine_eq]
        omega
      have t3 := t2.trans (new_same (o := .lst ([.ref pk] ++ refs wa)) hX1)
      refine ⟨(by show 3 ≤ sizeLine; decide), fun pz hpz => ?_⟩
      have t4 := t3.trans (new_same (o := .tup (Op.rw (.left 0 0)).vs) hpz)
      refine ⟨(by show 1 ≤ sizeLine; decide), fun l2 hl2 => ?_⟩
      have t5 := t4.trans (new_same (o := .lst [.ref pz]) hl2)
      have hX5 := new_same (o := .lst [.ref pz]) hl2 _ _ (new_same (o := .tup (Op.rw (.left 0 0)).vs) hpz X1 (.lst ([.ref pk] ++ refs wa)) upd_same)
      refine ⟨_, _, _, _, rfl, rfl, hX5, upd_same, ?_, fun X2 hX2 => ?_⟩
      · show ([V.ref pk] ++ refs wa).length + 1 ≤ sizeLine
        rw [List.length_append, refs_len, wal, sizeLine_eq]
        show 1 + (gs.length + 2) + 1 ≤ _
        omega
      have eX : [V.ref pk] ++ refs wa ++ [V.ref pz] = refs ([pk] ++ wa ++ [pz]) := by
        rw [refs_app, refs_app]
        rfl
      rw [eX]
      have t6 := t5.trans (new_same (o := .lst (refs ([pk] ++ wa ++ [pz]))) hX2)
      have g1 := new_same (o := .lst [.ref pk]) hl1 pk (.tup (Op.rw (.skip 0 1 0 (gs.length + 2))).vs) upd_same
      have g2 := new_same (o := .lst ([.ref pk] ++ refs wa)) hX1 _ _ g1
      have g3 := new_same (o := .tup (Op.rw (.left 0 0)).vs) hpz _ _ g2
      have g4 := new_same (o := .lst [.ref pz]) hl2 _ _ g3
      have g5 := new_same (o := .lst (refs ([pk] ++ wa ++ [pz]))) hX2 _ _ g4
      have f4 := new_same (o := .lst [.ref pz]) hl2 pz (.tup (Op.rw (.left 0 0)).vs) upd_same
      have f5 := new_same (o := .lst (refs ([pk] ++ wa ++ [pz]))) hX2 _ _ f4
      have hhid : RowsAt (upd (upd (upd (upd (upd (upd H11 pk (.tup (Op.rw (.skip 0 1 0 (gs.length + 2))).vs)) l1 (.lst [.ref pk])) X1 (.lst ([.ref pk] ++ refs wa))) pz (.tup (Op.rw (.left 0 0)).vs)) l2 (.lst [.ref pz])) X2 (.lst (refs ([pk] ++ wa ++ [pz])))) (([Op.skip 0 1 0 (gs.length + 2)] ++ wr ++ [Op.left 0 0]).map Op.rw) ([pk] ++ wa ++ [pz]) := by
        rw [List.map_append, List.map_append]
        have q1 : RowsAt (upd (upd (upd (upd (upd (upd H11 pk (.tup (Op.rw (.skip 0 1 0 (gs.length + 2))).vs)) l1 (.lst [.ref pk])) X1 (.lst ([.ref pk] ++ refs wa))) pz (.tup (Op.rw (.left 0 0)).vs)) l2 (.lst [.ref pz])) X2 (.lst (refs ([pk] ++ wa ++ [pz])))) ([Op.skip 0 1 0 (gs.length + 2)].map Op.rw) [pk] := RowsAt.nil.snoc g5
        have q2 : RowsAt (upd (upd (upd (upd (upd (upd H11 pk (.tup (Op.rw (.skip 0 1 0 (gs.length + 2))).vs)) l1 (.lst [.ref pk])) X1 (.lst ([.ref pk] ++ refs wa))) pz (.tup (Op.rw (.left 0 0)).vs)) l2 (.lst [.ref pz])) X2 (.lst (refs ([pk] ++ wa ++ [pz])))) ([Op.left 0 0].map Op.rw) [pz] := RowsAt.nil.snoc f5
        exact (q1.app (hwrong.same t6)).app q2
      have hidok : OsOk 8 ([Op.skip 0 1 0 (gs.length + 2)] ++ wr ++ [Op.left 0 0]) := by
        refine ⟨fun o ho => ?_, fun i o e => ?_⟩
        · rcases List.mem_append.mp ho with h | h
          · rcases List.mem_append.mp h with h | h
            · obtain rfl : o = .skip 0 1 0 (gs.length + 2) := by simpa using h
              exact ⟨by omega, by decide, by decide, by decide, by omega⟩
            · exact (fl o h).1
          · obtain rfl : o = .left 0 0 := by simpa using h
            exact ⟨by omega, by omega⟩
        · have hl : ([Op.skip 0 1 0 (gs.length + 2)] ++ wr ++ [Op.left 0 0]).length = gs.length + 4 := by
            rw [List.length_append, List.length_append, wl]
            show 1 + (gs.length + 2) + 1 = _
            omega
          have hi := (List.getElem?_eq_some_iff.mp e).1
          rw [hl] at hi ⊢
          cases i with
          | zero =>
            obtain rfl := Option.some.inj e
            show 0 + 1 + (gs.length + 2) ≤ _
            omega
          | succ i =>
            have hf : o.far = 0 := by
              rw [List.append_assoc, List.singleton_append, List.getElem?_cons_succ] at e
              rcases List.mem_append.mp (List.mem_of_getElem? e) with h | h
              · exact (fl o h).2
              · obtain rfl : o = .left 0 0 := by simpa using h
                rfl
            omega
      have hwX := hwrong.same t6
      have hW2X := t6 _ _ hW11
      refine hD' _ _ ⟨X2, [pk] ++ wa ++ [pz], [Op.skip 0 1 0 (gs.length + 2)] ++ wr ++ [Op.left 0 0], rfl, D6.same t6, kp7.trans (Kept.of t6), hW2X, hwX, upd_same, hhid, hidok, ?_, ?_, ?_⟩
      · rw [List.length_append, List.length_append, wl]
        show 1 + (gs.length + 2) + 1 ≤ 900
        omega
      · rw [List.append_assoc, List.singleton_append, List.getElem?_cons_succ, List.getElem?_append_left (by omega)]
        exact atn
      · rw [List.append_assoc, List.singleton_append, List.take_succ_cons, List.take_append_of_le_length (by omega)]
        intro o ho
        rcases List.mem_cons.mp ho with rfl | h
        · show ([decide ((c : Int) ≤ ((0 : Nat) : Int))]).any id = false
          rw [decide_eq_false (by omega)]
          rfl
        · exact gd o h
    rintro σ HX ⟨X2, xa, hi, rfl, DX, kpX, hW2X, hwX, hXX, hhid, hidok, hil, hat, hgd⟩
    -- the machine
    refine ⟨_, rfl, _, rfl, fun mm dm hm hdm _ => mach_make hm hdm fun HM smM hmM => ⟨rfl, ?_⟩⟩
    dsimp only [List.set_cons_succ, List.set_cons_zero]
    -- the wrong code
    refine ⟨_, rfl, _, rfl, fun x dx hx hdx _ => code_make hx hdx (smM _ _ hW2X) (hwX.same smM) fl.all (by omega) fun HC smC hcC => ⟨rfl, ?_⟩⟩
    refine ⟨(by show 1 ≤ sizeLine; decide), fun o1 ho1 => ⟨(by show 0 ≤ sizeLine; decide), fun o2 ho2 => ?_⟩⟩
    have u2 := (new_same (o := .lst [.int 1]) ho1).trans (new_same (o := .tup []) ho2)
    refine ⟨mm, x, _, _, (wd : Int), c, wr, n, rfl, (hmM.same smC).same u2, hcC.same u2, gd, ⟨so, atn, badS⟩, fun t1 HT smT hT => ?_⟩
    refine ⟨_, rfl, (by show 2 ≤ sizeLine; decide), fun t2 ht2 => ?_⟩
    have u3 := new_same (o := .tup [.str "register", .int (n : Int)]) ht2
    refine ⟨_, _, told_dp (u3 _ _ hT), told_dp upd_same, told_shaped _, told_shaped _, ?_⟩
    rw [SeqAt.eqv_refl _ (told_lay _)]
    refine ⟨_, rfl, iteF ?_⟩
    have sA := (((smM.trans smC).trans u2).trans smT).trans u3
    have DA := DX.same sA
    have kpA := kpX.trans (Kept.of sA)
    -- the hidden code
    refine ⟨_, rfl, _, rfl, fun y dy hy hdy _ => code_make hy hdy (sA _ _ hXX) (hhid.same sA) hidok hil fun HD smD hcD => ⟨rfl, ?_⟩⟩
    refine ⟨(by show 1 ≤ sizeLine; decide), fun o1 ho1 => ⟨(by show 0 ≤ sizeLine; decide), fun o2 ho2 => ?_⟩⟩
    have v2 := (new_same (o := .lst [.int 1]) ho1).trans (new_same (o := .tup []) ho2)
    have sM := ((smC.trans u2).trans smT).trans u3
    refine ⟨mm, y, _, _, (wd : Int), c, hi, n + 1, rfl, ((hmM.same sM).same smD).same v2, hcD.same v2, hgd, ⟨so, hat, badS⟩, fun t1 HT smT hT => ?_⟩
    refine ⟨_, rfl, _, _, rfl, rfl, (by show 2 ≤ sizeLine; decide), fun t2 ht2 => ?_⟩
    have v3 := new_same (o := .tup [.str "register", .int ((n : Int) + 1)]) ht2
    refine ⟨_, _, told_dp (b := (n : Int) + 1) (v3 _ _ hT), told_dp upd_same, told_shaped _, told_shaped _, ?_⟩
    rw [SeqAt.eqv_refl _ (told_lay _)]
    have sZ := ((smD.trans v2).trans smT).trans v3
    exact k _ (DA.same sZ) (kpA.trans (Kept.of sZ))
end
end My

set_option pp.maxSteps 400
set_option Elab.async false
set_option linter.all false
set_option maxRecDepth 100000
set_option maxHeartbeats 1000000
namespace My
open PySem L2 MyR

theorem goM_ok {wd m : Nat} {fl : Nat → Int} (hw : 1 ≤ wd) (hf : ∀ n, fl n = 0 ∨ fl n = 1) : ∀ (k : Nat) (os : List Op) (s : Ms), s.Ok wd m → (goM wd fl k os s).Ok wd m
  | k, [], s, h => by unfold goM; exact h
  | k + 1, _ :: os, s, h => goM_ok hw hf k os s h
  | 0, o :: os, s, h => goM_ok hw hf (o.jump s) os (o.run wd fl s) (h.run hw hf o)
theorem log_ok {v : Int} {wd : Nat} (h0 : 0 ≤ v) (h1 : v < 2 ^ wd) (hw : wd ≤ 64) : v.natAbs.log2 < 1920 := by
  have h2 := p2_le hw
  have h3 : v.natAbs < 2 ^ 64 := by omega
  by_cases e : v.natAbs = 0
  · rw [e]
    decide
  · have h4 : v.natAbs.log2 < 64 := (Nat.log2_lt e).mpr h3
    omega
def IntsAt (H : Hp) (a : Addr) (xs : List Int) : Prop := H a = some (.lst (xs.map V.int))
/-- copies of both lists, kept -/
def KeptAt (H : Hp) (t : Addr) (xs ys : List Int) : Prop := ∃ a b : Addr, H t = some (.tup [.ref a, .ref b]) ∧ IntsAt H a xs ∧ IntsAt H b ys
theorem KeptAt.same {H H' : Hp} {t : Addr} {xs ys : List Int} (h : KeptAt H t xs ys) (s : Same H H') : KeptAt H' t xs ys := let ⟨a, b, h1, h2, h3⟩ := h; ⟨a, b, s _ _ h1, s _ _ h2, s _ _ h3⟩
theorem ints_dpl {K : PySem.W.Frag} {H : Hp} {a : Addr} {xs : List Int} (h : IntsAt H a xs) : Dp K H (.ref a) (.list (xs.map PyData.int)) := .lst (SqL.of h) (ints_dp xs)
theorem two_dp {K : PySem.W.Frag} {H : Hp} {t a b : Addr} {xs ys : List Int} (h : H t = some (.tup [.ref a, .ref b])) (ha : IntsAt H a xs) (hb : IntsAt H b ys) : Dp K H (.ref t) (.tuple [.list (xs.map PyData.int), .list (ys.map PyData.int)]) := .tup (SqT.of h) (.cons (ints_dpl ha) (.cons (ints_dpl hb) .nil))
theorem two_lay (xs ys : List Int) : (PyData.tuple [.list (xs.map PyData.int), .list (ys.map PyData.int)]).canLay0 = true := by
  simp [PyData.canLay0, PyData.canLayAll0, ints_lay]
theorem two_shaped (xs ys : List Int) : SeqAt.shaped (.tuple [.list (xs.map PyData.int), .list (ys.map PyData.int)]) = true := by
  unfold SeqAt.shaped
  rw [two_lay, Bool.true_and]
  refine decide_eq_true ?_
  simp [PyData.depth, PyData.depthAll, ints_depth]
theorem OsOk.mono {m k : Nat} (h : m ≤ k) {os : List Op} (o : OsOk m os) : OsOk k os := ⟨fun x hx => (o.1 x hx).mono h, o.2⟩
theorem OsOk.rs {os : List Op} (o : OsOk 8 os) : RsOk (os.map Op.rw) := fun i r e => by
  rw [List.getElem?_map] at e
  cases e2 : os[i]? with
  | none => rw [e2] at e; cases e
  | some x =>
    rw [e2] at e
    obtain rfl := Option.some.inj e
    have h1 := o.1 x (List.mem_of_getElem? e2)
    have h2 := o.2 i x e2
    refine ⟨Op.rw_ok (Nat.le_refl 8) h1, Op.rw_fits ?_⟩
    rw [List.length_map]
    omega
def spLaw (K : PySem.W.Frag) : Sp := fun vs H Q _ => ∃ (a : Addr) (ns : List Int), vs = [.ref a] ∧ SqL K H a (ns.map V.int) ∧ ns.length ≤ 63 ∧ ∀ H', Q (.bl true) H'
theorem flat_fl {ys : List Int} {n : Nat} : ys.getD n 0 = (ys ++ [0, 0]).getD n 0 := by
  rw [List.getD_eq_getElem?_getD, List.getD_eq_getElem?_getD]
  by_cases h : n < ys.length
  · rw [List.getElem?_append_left h]
  · rw [List.getElem?_append_right (by omega), List.getElem?_eq_none (by omega)]
    match n - ys.length with
    | 0 => rfl
    | 1 => rfl
    | k + 2 => rfl
section
variable {P : Program} {w : World} {K : PySem.W.Frag} {mg : Str → Option Value} {base : Heap}
abbrev s_law : Stmt := top 58
abbrev N_law : List Str := ["_law_script", "_law_deal_here", "_law_turn", "_law_wide", "_law_registers", "_law_rows_here", "_law_machine", "_law_code", "_law_again", "_law_inputs", "_law_fills", "_law_at", "_law_kept", "_law_due", "_law_plain"]
theorem sc_law : FnScope N_law ["_law_script"] (defScope s_law) := ⟨rfl, rfl, rfl, by decide +kernel, rfl, by decide +kernel, by decide +kernel⟩
theorem ok_law {f CM CC t0 : Addr} {fd : FuncData} (F : Fun K "law" "law" s_law f fd) (T : Glob mg) (g_repr : mg "repr" = none) (MX : MacX P w K mg base CM) (CX : CodX P w K mg base CC) (cc0 : Cls K CC) (nr : NoAttr K CC "rows") (ht0 : ∀ H, SqT K H t0 [])
    (D_law_deal : Df P w K mg base 1 "_law_deal" ["_law_script", "_law_base"] (spDeal K)) (D_law_draw : Df P w K mg base 1 "_law_draw" ["_law_deal_here", "_law_many"] spDraw) (D_law_far_rows : Df P w K mg base 5 "_law_far_rows" ["_law_deal_here", "_law_registers", "_law_many"] (spRowsO [])) (D_law_rows : Df P w K mg base 4 "_law_rows" ["_law_deal_here", "_law_registers", "_law_many", "_law_skips"] (spRowsO [.int 8]))
    (D_law_point : Df P w K mg base 2 "_law_point" ["_law_deal_here", "_law_many"] spPoint) (D_law_ran : Df P w K mg base 2 "_law_ran" ["_law_rows_here", "_law_width", "_law_registers", "_law_inputs", "_law_fills"] (spRan K)) (D_run : Df P w K mg base 6 "run" ["machine", "code", "inputs", "fills"] (spRun K CM CC))
    {ds3 : List Value} (v3 : Vals [V.ref t0] ds3) (b3 : Binds K D_run.fd ["machine", "code", "inputs", "fills"] ds3) (D_law_strange_right : Df P w K mg base 7 "_law_strange_right" ["_law_deal_here", "_law_rows_here", "_law_wide"] spSR) : FnOk P w K mg base CX0 8 f fd ["_law_script"] (spLaw K) := by
  refine F.ok sc_law (fun vs H Q E h => ?_) (fun cdv A outer s H vs Q E hr h => ?_)
  · obtain ⟨a, ns, rfl, _⟩ := h
    rfl
  · obtain ⟨sA, ns, rfl, hS, hlen, k⟩ := h
    have hu := hu_of hr
    have nd := sc_law.nd
    refine ⟨_, (pss_cons (ps_set (i := 1) nd rfl (Or.inr rfl) (pe_call D_law_deal.ok (hr.mono (by decide)) (by rfl) D_law_deal.g D_law_deal.kp D_law_deal.b .nil pass0 (pa_cons (pv 0) (pa_cons pe_int pa_nil))))
    (pss_cons (ps_for PassesOwn.never rfl (pi_range1 (by rfl) T.g_range (pa_cons (pe_op op_add pe_int (pe_callB call_len_seq (by rfl) T.g_len PySem.boot_len (pa_cons (pe_slice sl_list (pv 0) po_none (po_some pe_int)) pa_nil))) pa_nil)) (pg_name (i := 2) nd rfl (Or.inl rfl))
    (pss_cons (ps_par (i := 3) (j := 4) rfl nd rfl rfl (by decide) rfl rfl (pa_cons (pe_op op_add pe_int (pe_call D_law_draw.ok (hr.mono (by decide)) (by rfl) D_law_draw.g D_law_draw.kp D_law_draw.b .nil pass0 (pa_cons (pv 1) (pa_cons pe_int pa_nil)))) (pa_cons (pe_op op_add pe_int (pe_call D_law_draw.ok (hr.mono (by decide)) (by rfl) D_law_draw.g D_law_draw.kp D_law_draw.b .nil pass0 (pa_cons (pv 1) (pa_cons pe_int pa_nil)))) pa_nil)) (by rfl))
    (pss_cons (ps_set (i := 5) nd rfl (Or.inl rfl) (pe_call D_law_far_rows.ok (hr.mono (by decide)) (by rfl) D_law_far_rows.g D_law_far_rows.kp D_law_far_rows.b .nil pass0 (pa_cons (pv 1) (pa_cons (pv 4) (pa_cons (pe_call D_law_draw.ok (hr.mono (by decide)) (by rfl) D_law_draw.g D_law_draw.kp D_law_draw.b .nil pass0 (pa_cons (pv 1) (pa_cons pe_int pa_nil))) pa_nil)))))
    (pss_cons (ps_if (pt_cmpR op_eq (pe_call D_law_draw.ok (hr.mono (by decide)) (by rfl) D_law_draw.g D_law_draw.kp D_law_draw.b .nil pass0 (pa_cons (pv 1) (pa_cons pe_int pa_nil))) pe_int (nomark _))
    (pss_one (ps_set (i := 5) nd rfl (Or.inl rfl) (pe_call D_law_rows.ok (hr.mono (by decide)) (by rfl) D_law_rows.g D_law_rows.kp D_law_rows.b .nil pass0 (pa_cons (pv 1) (pa_cons (pv 4) (pa_cons (pe_op op_add pe_int (pe_call D_law_draw.ok (hr.mono (by decide)) (by rfl) D_law_draw.g D_law_draw.kp D_law_draw.b .nil pass0 (pa_cons (pv 1) (pa_cons pe_int pa_nil)))) (pa_cons pe_int pa_nil)))))))
    pss_nil)
    (pss_cons (ps_par (i := 6) (j := 7) rfl nd rfl rfl (by decide) rfl rfl (pa_cons (pe_make MX.m MX.ok (hr.mono (by decide)) (by rfl) MX.g MX.b .nil pass0 (pa_cons (pv 3) (pa_cons (pv 4) pa_nil))) (pa_cons (pe_make CX.m CX.ok (hr.mono (by decide)) (by rfl) CX.g CX.b .nil pass0 (pa_cons (pv 5) pa_nil)) pa_nil)) (by rfl))
    (pss_cons (ps_for PassesOwn.never rfl (pi_range1 (by rfl) T.g_range (pa_cons pe_int pa_nil)) (pg_name (i := 8) nd rfl (Or.inl rfl))
    (pss_cons (ps_set (i := 9) nd rfl (Or.inl rfl) (pe_call D_law_point.ok (hr.mono (by decide)) (by rfl) D_law_point.g D_law_point.kp D_law_point.b .nil pass0 (pa_cons (pv 1) (pa_cons (pe_op op_add pe_int (pe_call D_law_draw.ok (hr.mono (by decide)) (by rfl) D_law_draw.g D_law_draw.kp D_law_draw.b .nil pass0 (pa_cons (pv 1) (pa_cons pe_int pa_nil)))) pa_nil))))
    (pss_cons (ps_setLc (i := 10) (own := [("_law_at", 11)]) (g := gName 11) (tt := tYes) rfl nd rfl rfl (sw_true rfl rfl rfl (by decide +kernel)) (pi_range1 (by rfl) T.g_range (pa_cons (pe_call D_law_draw.ok (hr.mono (by decide)) (by rfl) D_law_draw.g D_law_draw.kp D_law_draw.b .nil pass0 (pa_cons (pv 1) (pa_cons pe_int pa_nil))) pa_nil)) (blkOk_by (N := N_law) (sc := defScope s_law) (by decide +kernel)) (fun _ _ _ _ _ => pg_name (i := 11) nd rfl (Or.inl rfl)) (fun _ _ _ _ _ => pts_nil) (fun _ _ _ _ _ => (pe_call D_law_draw.ok (hr.mono (by decide)) (by rfl) D_law_draw.g D_law_draw.kp D_law_draw.b .nil pass0 (pa_cons (pv 1) (pa_cons pe_int pa_nil)))))
    (pss_cons (ps_set (i := 12) nd rfl (Or.inl rfl) (pe_tup (pa_cons (pe_callTy call_list_of (by rfl) T.g_list (by decide +kernel) (pa_cons (pv 9) pa_nil)) (pa_cons (pe_callTy call_list_of (by rfl) T.g_list (by decide +kernel) (pa_cons (pv 10) pa_nil)) pa_nil))))
    (pss_cons (ps_set (i := 13) nd rfl (Or.inl rfl) (pe_ix ix_tup (pe_call D_law_ran.ok (hr.mono (by decide)) (by rfl) D_law_ran.g D_law_ran.kp D_law_ran.b .nil pass0 (pa_cons (pv 5) (pa_cons (pv 3) (pa_cons (pv 4) (pa_cons (pv 9) (pa_cons (pv 10) pa_nil)))))) pe_int (fun _ _ => rfl)))
    (pss_cons (ps_if (PW.pt (pw_or (pt_cmpR op_ne (pe_callB SkE.call_repr_int (by rfl) g_repr (by decide +kernel) (pa_cons (pe_call D_run.ok (hr.mono (by decide)) (by rfl) D_run.g D_run.kp D_run.b .nil pass0 (pa_cons (pv 6) (pa_cons (pv 7) (pa_cons (pv 9) (pa_cons (pv 10) pa_nil))))) pa_nil)) (pe_callB SkE.call_repr_int (by rfl) g_repr (by decide +kernel) (pa_cons (pv 13) pa_nil)) (nomark _)) (pw_or1 (pt_cmpR op_ne (pe_call D_run.ok (hr.mono (by decide)) (by rfl) D_run.g D_run.kp D_run.b .nil pass0 (pa_cons (pv 6) (pa_cons (pv 7) (pa_cons (pv 9) (pa_cons (pe_callTy call_tuple_of (by rfl) T.g_tuple (by decide +kernel) (pa_cons (pv 10) pa_nil)) pa_nil))))) (pv 13) (nomark _)))))
    (pss_one (ps_ret pe_bl))
    pss_nil)
    (pss_cons (ps_if (PW.pt (pw_or (pt_cmpR op_ne (pe_call D_run.ok (hr.mono (by decide)) (by rfl) D_run.g D_run.kp D_run.b .nil pass0 (pa_cons (pv 6) (pa_cons (pv 7) (pa_cons (pe_callTy call_tuple_of (by rfl) T.g_tuple (by decide +kernel) (pa_cons (pv 9) pa_nil)) (pa_cons (pe_op op_cat (pv 10) (pe_lst (pa_cons pe_int (pa_cons pe_int pa_nil)))) pa_nil))))) (pv 13) (nomark _)) (pw_or1 (pt_cmpR (op_neD hr.units) (pe_tup (pa_cons (pv 9) (pa_cons (pv 10) pa_nil))) (pv 12) (nomark _)))))
    (pss_one (ps_ret pe_bl))
    pss_nil)
    (pss_cons (ps_set (i := 14) nd rfl (Or.inl rfl) (pe_ix ix_tup (pe_call D_law_ran.ok (hr.mono (by decide)) (by rfl) D_law_ran.g D_law_ran.kp D_law_ran.b .nil pass0 (pa_cons (pv 5) (pa_cons (pv 3) (pa_cons (pv 4) (pa_cons (pv 9) (pa_cons (pe_tup pa_nil) pa_nil)))))) pe_int (fun _ _ => rfl)))
    (pss_one (ps_if (PW.pt (pw_or (pt_cmpR op_ne (pe_call D_run.ok (hr.mono (by decide)) (by rfl) D_run.g D_run.kp b3 v3 pass0 (pa_cons (pv 6) (pa_cons (pv 7) (pa_cons (pv 9) pa_nil)))) (pv 14) (nomark _)) (pw_or1 (pt_cmpR (op_neD hr.units) (pe_fld (pv 7) rfl) (pe_callTy call_tuple_of (by rfl) T.g_tuple (by decide +kernel) (pa_cons (pv 5) pa_nil)) (nomark _)))))
    (pss_one (ps_ret pe_bl))
    pss_nil))))))))))
    (pss_one (ps_if (pt_not (pt_val (pe_call D_law_strange_right.ok (hr.mono (by decide)) (by rfl) D_law_strange_right.g D_law_strange_right.kp D_law_strange_right.b .nil pass0 (pa_cons (pv 1) (pa_cons (pv 5) (pa_cons (pv 3) pa_nil))))))
    (pss_one (ps_ret pe_bl))
    pss_nil))))))))
    (pss_one (ps_ret pe_bl)))), ?_⟩
    refine ⟨_, rfl, sA, ns, rfl, hS, hlen, fun d l H0 hd0 hl0 sm0 D0 => ?_⟩
    refine ⟨_, rfl, _, rfl, sA, _, rfl, hS.ext sm0, fun sl hsl => ?_⟩
    obtain ⟨ms, em, hml⟩ := cut_ints ns none (some 2)
    rw [em]
    refine ⟨sl, _, rfl, .inl (SqL.of upd_same), _, _, rfl, rfl, ?_⟩
    have D1 := D0.new (o := .lst (ms.map V.int)) hsl
    rw [List.length_map]
    refine ⟨2 + (ms.length : Int), rfl, by omega, by omega, ?_⟩
    refine for_range (lo := 0) (n := (2 + (ms.length : Int)).toNat) (fun i σ H1 => ∃ x2 x3 x4 x5 x6 x7 x8 x9 x10 x11 x12 x13 x14 : Option V, σ = [some (.ref sA), some (.ref d), x2, x3, x4, x5, x6, x7, x8, x9, x10, x11, x12, x13, x14] ∧ Deal H1 d l) ⟨none, none, none, none, none, none, none, none, none, none, none, none, none, rfl, D1⟩ ?_ (fun σ H1 _ => k H1)
    rintro i σ H1 hi ⟨x2, x3, x4, x5, x6, x7, x8, x9, x10, x11, x12, x13, x14, rfl, D1⟩
    -- a machine's numbers
    refine seq_by (fun σ H2 => ∃ wd m : Nat, σ = [some (.ref sA), some (.ref d), some (.int (0 + (i : Int))), some (.int (wd : Int)), some (.int (m : Int)), x5, x6, x7, x8, x9, x10, x11, x12, x13, x14] ∧ 4 ≤ wd ∧ wd ≤ 64 ∧ 3 ≤ m ∧ m ≤ 8 ∧ Deal H2 d l) (fun D' hD' => ?_) ?_
    · refine ⟨_, rfl, d, l, _, rfl, D1, by decide, by decide, fun r H2 r0 r1 D2 kp2 => ⟨_, _, rfl, rfl, ?_⟩⟩
      refine ⟨_, rfl, d, l, _, rfl, D2, by decide, by decide, fun s H3 s0 s1 D3 kp3 => ⟨_, _, rfl, rfl, ?_⟩⟩
      refine ⟨_, _, rfl, hD' _ _ ⟨(4 + r).toNat, (3 + s).toNat, ?_, by omega, by omega, by omega, by omega, D3⟩⟩
      rw [show (((4 + r).toNat : Nat) : Int) = 4 + r by omega, show (((3 + s).toNat : Nat) : Int) = 3 + s by omega]
      rfl
    rintro σ H2 ⟨wd, m, rfl, w4, w64, m3, m8, D2⟩
    -- the rows
    refine seq_by (fun σ H3 => ∃ (q : Addr) (os : List Op), σ = [some (.ref sA), some (.ref d), some (.int (0 + (i : Int))), some (.int (wd : Int)), some (.int (m : Int)), some (.ref q), x6, x7, x8, x9, x10, x11, x12, x13, x14] ∧ Deal H3 d l ∧ q ≠ d ∧ q ≠ l ∧ LstAt H3 (os.map Op.rw) q ∧ OsOk m os ∧ os.length ≤ 14) (fun D' hD' => ?_) ?_
    · refine ⟨_, rfl, _, rfl, _, rfl, d, l, _, rfl, D2, by decide, by decide, fun n H3 n0 n1 D3 kp3 => ?_⟩
      obtain ⟨n, rfl⟩ : ∃ k : Nat, n = (k : Int) := ⟨n.toNat, by omega⟩
      refine ⟨d, l, m, n, rfl, D3, m3, m8, by omega, fun q os H4 hq D4 kp4 hl4 ho4 hn4 => ?_⟩
      obtain ⟨nqd, nql⟩ := D3.free hq
      exact hD' _ _ ⟨q, os, rfl, D4, nqd, nql, hl4, ho4, by omega⟩
    rintro σ H3 ⟨q, os, rfl, D3, nqd, nql, hl3, ho3, hn3⟩
    refine seq_by (fun σ H4 => ∃ (q : Addr) (os : List Op), σ = [some (.ref sA), some (.ref d), some (.int (0 + (i : Int))), some (.int (wd : Int)), some (.int (m : Int)), some (.ref q), x6, x7, x8, x9, x10, x11, x12, x13, x14] ∧ Deal H4 d l ∧ q ≠ d ∧ q ≠ l ∧ LstAt H4 (os.map Op.rw) q ∧ OsOk m os ∧ os.length ≤ 14) (fun D' hD' => ?_) ?_
    · refine ⟨_, rfl, d, l, _, rfl, D3, by decide, by decide, fun r H4 r0 r1 D4 kp4 => ?_⟩
      refine ⟨rfl, _, rfl, ?_⟩
      refine ite2 (fun _ => ?_) (fun _ => ?_)
      · refine ⟨_, rfl, _, rfl, _, rfl, d, l, _, rfl, D4, by decide, by decide, fun n H5 n0 n1 D5 kp5 => ⟨_, _, rfl, rfl, ?_⟩⟩
        obtain ⟨n, rfl⟩ : ∃ k : Nat, n = (k : Int) := ⟨n.toNat, by omega⟩
        refine ⟨d, l, m, 1 + n, rfl, D5, m3, m8, by omega, fun q os H6 hq D6 kp6 hl6 ho6 hn6 => ?_⟩
        obtain ⟨nqd, nql⟩ := D5.free hq
        exact hD' _ _ ⟨q, os, rfl, D6, nqd, nql, hl6, ho6, by omega⟩
      · obtain ⟨as, e1, e2⟩ := hl3
        exact hD' _ _ ⟨q, os, rfl, D4, nqd, nql, ⟨as, kp4 _ _ e1 nqd nql, e2.kept D3 kp4⟩, ho3, hn3⟩
    clear hl3 ho3 hn3 nqd nql
    rintro σ H4 ⟨q, os, rfl, D4, nqd, nql, hl4, hos, hn4⟩
    -- the machine and the code
    refine seq_by (fun σ H5 => ∃ mm cc : Addr, σ = [some (.ref sA), some (.ref d), some (.int (0 + (i : Int))), some (.int (wd : Int)), some (.int (m : Int)), some (.ref q), some (.ref mm), some (.ref cc), x8, x9, x10, x11, x12, x13, x14] ∧ Same H4 H5 ∧ MachAt CM H5 (wd : Int) (m : Int) mm ∧ CodeAt CC H5 (os.map Op.rw) cc) (fun D' hD' => ?_) ?_
    · refine ⟨_, rfl, _, rfl, fun mm dm hm hdm _ => mach_make hm hdm fun H5 sm5 hmm => ⟨rfl, ?_⟩⟩
      obtain ⟨as, e1, e2⟩ := hl4
      refine ⟨_, rfl, fun cc dc hc hdc _ => code_make hc hdc (sm5 _ _ e1) (e2.same sm5) (hos.mono m8) (by omega) fun H6 sm6 hcc => ⟨rfl, ?_⟩⟩
      exact ⟨_, _, rfl, hD' _ _ ⟨mm, cc, rfl, sm5.trans sm6, hmm.same sm6, hcc⟩⟩
    rintro σ H5 ⟨mm, cc, rfl, sm5, hmm, hcc⟩
    have D5 := D4.same sm5
    have hl5 : LstAt H5 (os.map Op.rw) q := hl4.same sm5
    -- four points
    refine seq_by (fun σ H6 => ∃ x8 x9 x10 x11 x12 x13 x14 : Option V, σ = [some (.ref sA), some (.ref d), some (.int (0 + (i : Int))), some (.int (wd : Int)), some (.int (m : Int)), some (.ref q), some (.ref mm), some (.ref cc), x8, x9, x10, x11, x12, x13, x14] ∧ Deal H6 d l ∧ LstAt H6 (os.map Op.rw) q) (fun D' hD' => ?_) ?_
    · refine ⟨4, rfl, by decide, by decide, ?_⟩
      refine for_range (lo := 0) (n := 4) (fun j σ H6 => ∃ x8 x9 x10 x11 x12 x13 x14 : Option V, σ = [some (.ref sA), some (.ref d), some (.int (0 + (i : Int))), some (.int (wd : Int)), some (.int (m : Int)), some (.ref q), some (.ref mm), some (.ref cc), x8, x9, x10, x11, x12, x13, x14] ∧ Deal H6 d l ∧ LstAt H6 (os.map Op.rw) q ∧ MachAt CM H6 (wd : Int) (m : Int) mm ∧ CodeAt CC H6 (os.map Op.rw) cc) ⟨_, _, _, _, _, _, _, rfl, D5, hl5, hmm, hcc⟩ ?_ (fun σ H6 ⟨a, b, c, e, f, g, h, eσ, D6, hl6, _⟩ => hD' _ _ ⟨a, b, c, e, f, g, h, eσ, D6, hl6⟩)
      clear hmm hcc hl5 D5
      rintro j σ H6 hj ⟨x8, x9, x10, x11, x12, x13, x14, rfl, D6, hl6, hmm, hcc⟩
      -- the inputs
      refine seq_by (fun σ H7 => ∃ (ia : Addr) (xs : List Int), σ = [some (.ref sA), some (.ref d), some (.int (0 + (i : Int))), some (.int (wd : Int)), some (.int (m : Int)), some (.ref q), some (.ref mm), some (.ref cc), some (.int (0 + (j : Int))), some (.ref ia), x10, x11, x12, x13, x14] ∧ Deal H7 d l ∧ ia ≠ d ∧ ia ≠ l ∧ IntsAt H7 ia xs ∧ xs.length ≤ 3 ∧ Kept d l H6 H7) (fun D' hD' => ?_) ?_
      · refine ⟨_, rfl, _, rfl, d, l, _, rfl, D6, by decide, by decide, fun n H7 n0 n1 D7 kp7 => ⟨_, _, rfl, rfl, ?_⟩⟩
        obtain ⟨n, rfl⟩ : ∃ k : Nat, n = (k : Int) := ⟨n.toNat, by omega⟩
        refine ⟨d, l, 1 + n, rfl, D7, by omega, fun ia xs H8 hia D8 kp8 hx hxl => ?_⟩
        obtain ⟨n1', n2'⟩ := D7.free hia
        exact hD' _ _ ⟨ia, xs, rfl, D8, n1', n2', hx, by omega, kp7.trans kp8⟩
      rintro σ H7 ⟨ia, xs, rfl, D7, nid, nil_, hx, hxl, kp7⟩
      -- the fills
      refine seq_by (fun σ H8 => ∃ (fa : Addr) (ys : List Int), σ = [some (.ref sA), some (.ref d), some (.int (0 + (i : Int))), some (.int (wd : Int)), some (.int (m : Int)), some (.ref q), some (.ref mm), some (.ref cc), some (.int (0 + (j : Int))), some (.ref ia), some (.ref fa), x11, x12, x13, x14] ∧ Deal H8 d l ∧ IntsAt H8 fa ys ∧ ys.length ≤ 8 ∧ (∀ y ∈ ys, y = 0 ∨ y = 1) ∧ Kept d l H7 H8) (fun D' hD' => ?_) ?_
      · refine ⟨_, rfl, d, l, _, rfl, D7, by decide, by decide, fun n H8 n0 n1 D8 kp8 => ⟨n, rfl, by omega, by omega, fun L hL => ?_⟩⟩
        obtain ⟨nLd, nLl⟩ := D8.free hL
        have hL7 := kp8.free D8 hL
        refine lc_range (lo := 0) (n := n.toNat) (fun i H9 => ∃ ys : List Int, IntsAt H9 L ys ∧ ys.length = i ∧ (∀ y ∈ ys, y = 0 ∨ y = 1) ∧ Deal H9 d l ∧ Kept d l H7 H9) ⟨[], upd_same, rfl, fun y h => (nomatch h), D8.new hL, kp8.new hL7⟩ ?_ ?_
        · rintro i H9 hi ⟨ys, h9, hl9, hy9, D9, kp9⟩
          refine ⟨rfl, ?_⟩
          refine ⟨_, rfl, d, l, _, rfl, D9, by decide, by decide, fun y H10 y0 y1 D10 kp10 => ?_⟩
          refine ⟨ys.map V.int, kp10 _ _ h9 nLd nLl, by rw [List.length_map, hl9]; exact small1000 (by omega), ys ++ [y], ?_, by rw [List.length_append, hl9]; rfl, fun z hz => ?_, D10.other nLd nLl, (kp9.trans kp10).new hL7⟩
          · show upd H10 L _ L = _
            rw [upd_same, List.map_append]
            rfl
          · rcases List.mem_append.mp hz with h | h
            · exact hy9 z h
            · rw [List.mem_singleton.mp h]
              omega
        · rintro H9 ⟨ys, h9, hl9, hy9, D9, kp9⟩
          exact hD' _ _ ⟨L, ys, rfl, D9, h9, by omega, hy9, kp9⟩
      rintro σ H8 ⟨fa, ys, rfl, D8, hf, hfl8, hyb, kp8⟩
      have kp := kp7.trans kp8
      have hi8 : IntsAt H8 ia xs := kp8 _ _ hx nid nil_
      obtain ⟨as, e1, e2⟩ := hl6
      have hq8 : H8 q = some (.lst (refs as)) := kp _ _ e1 nqd nql
      have hr8 : RowsAt H8 (os.map Op.rw) as := e2.kept D6 kp
      have hmm : MachAt CM H8 (wd : Int) (m : Int) mm := let ⟨dm, e⟩ := hmm; ⟨dm, kp _ _ e (D6.ni e).1 (D6.ni e).2⟩
      have hcc : CodeAt CC H8 (os.map Op.rw) cc := hcc.kept D6 kp
      clear hx e1 e2 kp7 kp8
      have hflR : FlR K H8 fa (fun n => ys.getD n 0) := ⟨ys, .inl (SqL.of hf), fun n => rfl, by omega, hyb⟩
      obtain ⟨fl, efl⟩ : ∃ fl : Nat → Int, fl = fun n => ys.getD n 0 := ⟨_, rfl⟩
      rw [← efl] at hflR
      obtain ⟨v, ev⟩ : ∃ v : Int, v = (ranR wd m fl os xs).get 0 := ⟨_, rfl⟩
      have hok : (ranR wd m fl os xs).Ok wd m := goM_ok (by omega) hflR.flAt.bit 0 os _ init_ok
      have hlog : v.natAbs.log2 < 1920 := by
        rw [ev]
        exact log_ok (hok.rg 0).1 (hok.rg 0).2 w64
      -- kept
      refine seq_by (fun σ H9 => ∃ t : Addr, σ = [some (.ref sA), some (.ref d), some (.int (0 + (i : Int))), some (.int (wd : Int)), some (.int (m : Int)), some (.ref q), some (.ref mm), some (.ref cc), some (.int (0 + (j : Int))), some (.ref ia), some (.ref fa), x11, some (.ref t), x13, x14] ∧ Same H8 H9 ∧ KeptAt H9 t xs ys) (fun D' hD' => ?_) ?_
      · refine ⟨_, rfl, ia, _, rfl, .inl (SqL.of hi8), fun l1 hl1 => ?_⟩
        have s1 := new_same (o := .lst (xs.map V.int)) hl1
        refine ⟨_, rfl, fa, _, rfl, .inl (SqL.of (s1 _ _ hf)), fun l2 hl2 => ?_⟩
        have s2 := new_same (o := .lst (ys.map V.int)) hl2
        refine ⟨(by show 2 ≤ sizeLine; decide), fun t ht => ?_⟩
        have s3 := new_same (o := .tup [.ref l1, .ref l2]) ht
        exact hD' _ _ ⟨t, rfl, (s1.trans s2).trans s3, l1, l2, upd_same, s3 _ _ (s2 _ _ upd_same), s3 _ _ upd_same⟩
      rintro σ H9 ⟨t, rfl, sm9, hk9⟩
      -- what is due
      refine seq_by (fun σ H10 => σ = [some (.ref sA), some (.ref d), some (.int (0 + (i : Int))), some (.int (wd : Int)), some (.int (m : Int)), some (.ref q), some (.ref mm), some (.ref cc), some (.int (0 + (j : Int))), some (.ref ia), some (.ref fa), x11, some (.ref t), some (.int v), x14] ∧ Same H8 H10 ∧ KeptAt H10 t xs ys) (fun D' hD' => ?_) ?_
      · refine ⟨_, rfl, _, rfl, _, rfl, _, rfl, _, rfl, q, ia, fa, as, os, wd, m, xs, fl, rfl, sm9 _ _ hq8, hr8.same sm9, SqL.of (sm9 _ _ hi8), hflR.same sm9, by omega, m3, m8, by omega, w64, hos.1, hos.2, by omega, fun u H10 sm hu1 => ?_⟩
        exact ⟨u, _, _, .int v, rfl, rfl, SqT.of hu1, atI_nat (j := 0) (by rw [ev]; rfl), hD' _ _ ⟨rfl, sm9.trans sm, hk9.same sm⟩⟩
      rintro σ H10 ⟨rfl, sm10, hk10⟩
      -- the same by the program
      refine seq_by (fun σ H11 => σ = [some (.ref sA), some (.ref d), some (.int (0 + (i : Int))), some (.int (wd : Int)), some (.int (m : Int)), some (.ref q), some (.ref mm), some (.ref cc), some (.int (0 + (j : Int))), some (.ref ia), some (.ref fa), x11, some (.ref t), some (.int v), x14] ∧ Same H8 H11 ∧ KeptAt H11 t xs ys) (fun D' hD' => ?_) ?_
      · refine ⟨_, rfl, _, rfl, _, rfl, _, rfl, mm, cc, ia, fa, wd, m, xs, fl, os, rfl, (hmm.same sm10), (hcc.same sm10), .inl (SqL.of (sm10 _ _ hi8)), hflR.flAt.same sm10, by omega, m3, m8, by omega, w64, hos.1, by omega, fun H11 s11 => ?_⟩
        have ev' : (goM wd fl 0 os ⟨initR wd m xs m, fun _ => 0, 0⟩).get 0 = v := ev.symm
        rw [ev']
        refine ⟨_, rfl, hlog, _, rfl, _, rfl, hlog, rfl, _, rfl, iteNS rfl ?_⟩
        have sA := sm10.trans s11
        refine ⟨_, rfl, _, rfl, _, rfl, _, rfl, fa, _, rfl, .inl ⟨SqL.of (sA _ _ hf), fun u hu1 => ?_⟩⟩
        have s12 := new_same (o := .tup (ys.map V.int)) hu1
        have sB := sA.trans s12
        refine ⟨mm, cc, ia, u, wd, m, xs, fl, os, rfl, (hmm.same sB), (hcc.same sB), .inl (SqL.of (sB _ _ hi8)), ⟨ys, .inr (SqT.of upd_same), by omega, fun n => by rw [efl], hyb⟩, by omega, m3, m8, by omega, w64, hos.1, by omega, fun H13 s13 => ?_⟩
        rw [ev']
        exact ⟨_, rfl, rfl, _, rfl, iteNS rfl (hD' _ _ ⟨rfl, sB.trans s13, ((hk10.same s11).same s12).same s13⟩)⟩
      rintro σ H11 ⟨rfl, sm11, hk11⟩
      -- with more fills, the lists as they were
      refine seq_by (fun σ H12 => σ = [some (.ref sA), some (.ref d), some (.int (0 + (i : Int))), some (.int (wd : Int)), some (.int (m : Int)), some (.ref q), some (.ref mm), some (.ref cc), some (.int (0 + (j : Int))), some (.ref ia), some (.ref fa), x11, some (.ref t), some (.int v), x14] ∧ Same H8 H12 ∧ KeptAt H12 t xs ys) (fun D' hD' => ?_) ?_
      · refine ⟨_, rfl, _, rfl, _, rfl, ia, _, rfl, .inl ⟨SqL.of (sm11 _ _ hi8), fun u hu1 => ?_⟩⟩
        have s1 := new_same (o := .tup (xs.map V.int)) hu1
        refine ⟨_, rfl, (by show 2 ≤ sizeLine; decide), fun z hz => ?_⟩
        have s2 := s1.trans (new_same (o := .lst [.int 0, .int 0]) hz)
        refine ⟨_, _, _, _, rfl, rfl, s2 _ _ (sm11 _ _ hf), upd_same, ?_, fun y hy => ?_⟩
        · rw [List.length_map]
          show ys.length + 2 ≤ sizeLine
          rw [sizeLine_eq]
          omega
        have s3 := s2.trans (new_same (o := .lst (ys.map V.int ++ [.int 0, .int 0])) hy)
        have sB := sm11.trans s3
        have hu3 := new_same (o := .lst (ys.map V.int ++ [.int 0, .int 0])) hy _ _ (new_same (o := .lst [.int 0, .int 0]) hz u (.tup (xs.map V.int)) upd_same)
        refine ⟨mm, cc, u, y, wd, m, xs, fl, os, rfl, (hmm.same sB), (hcc.same sB), .inr (SqT.of hu3), ⟨ys ++ [0, 0], .inl (SqL.of (by rw [upd_same, List.map_append]; rfl)), by rw [List.length_append]; show ys.length + 2 ≤ 1000; omega, fun n => by rw [efl]; exact flat_fl, fun x h => ?_⟩, by omega, m3, m8, by omega, w64, hos.1, by omega, fun H13 s13 => ?_⟩
        · rcases List.mem_append.mp h with h | h
          · exact hyb x h
          · have h : x = 0 := by simpa using h
            exact .inl h
        have ev' : (goM wd fl 0 os ⟨initR wd m xs m, fun _ => 0, 0⟩).get 0 = v := ev.symm
        rw [ev']
        refine ⟨_, rfl, rfl, _, rfl, iteNS rfl ?_⟩
        have sC := sB.trans s13
        refine ⟨_, rfl, _, rfl, (by show 2 ≤ sizeLine; decide), fun p hp => ⟨_, rfl, ?_⟩⟩
        have s4 := new_same (o := .tup [.ref ia, .ref fa]) hp
        have sD := sC.trans s4
        obtain ⟨ka, kb, k1, k2, k3⟩ := ((hk11.same s3).same s13).same s4
        refine ⟨_, _, two_dp upd_same (sD _ _ hi8) (sD _ _ hf), two_dp k1 k2 k3, two_shaped _ _, two_shaped _ _, ?_⟩
        rw [SeqAt.eqv_refl _ (two_lay _ _)]
        exact ⟨_, rfl, iteF (hD' _ _ ⟨rfl, sD, ⟨ka, kb, k1, k2, k3⟩⟩)⟩
      rintro σ H12 ⟨rfl, sm12, hk12⟩
      -- without fills
      obtain ⟨v0, ev0⟩ : ∃ v : Int, v = (ranR wd m (fun _ => 0) os xs).get 0 := ⟨_, rfl⟩
      refine seq_by (fun σ H13 => σ = [some (.ref sA), some (.ref d), some (.int (0 + (i : Int))), some (.int (wd : Int)), some (.int (m : Int)), some (.ref q), some (.ref mm), some (.ref cc), some (.int (0 + (j : Int))), some (.ref ia), some (.ref fa), x11, some (.ref t), some (.int v), some (.int v0)] ∧ Same H8 H13) (fun D' hD' => ?_) ?_
      · refine ⟨_, rfl, _, rfl, _, rfl, _, rfl, (by show 0 ≤ sizeLine; decide), fun e he => ?_⟩
        have s1 := new_same (o := .tup []) he
        have sB := sm12.trans s1
        refine ⟨q, ia, e, as, os, wd, m, xs, fun _ => 0, rfl, sB _ _ hq8, hr8.same sB, SqL.of (sB _ _ hi8), ⟨[], .inr ⟨rfl, SqT.of upd_same⟩, fun n => rfl, Nat.zero_le _, fun x h => (nomatch h)⟩, by omega, m3, m8, by omega, w64, hos.1, hos.2, by omega, fun u H13 sm hu1 => ?_⟩
        exact ⟨u, _, _, .int v0, rfl, rfl, SqT.of hu1, atI_nat (j := 0) (by rw [ev0]; rfl), hD' _ _ ⟨rfl, sB.trans sm⟩⟩
      rintro σ H13 ⟨rfl, sm13⟩
      refine ⟨_, rfl, _, rfl, _, rfl, mm, cc, ia, t0, wd, m, xs, fun _ => 0, os, rfl, (hmm.same sm13), (hcc.same sm13), .inl (SqL.of (sm13 _ _ hi8)), ⟨[], .inr (ht0 _), Nat.zero_le _, fun n => rfl, fun x h => (nomatch h)⟩, by omega, m3, m8, by omega, w64, hos.1, by omega, fun H14 s14 => ?_⟩
      have ev' : (goM wd (fun _ => 0) 0 os ⟨initR wd m xs m, fun _ => 0, 0⟩).get 0 = v0 := ev0.symm
      rw [ev']
      refine ⟨_, rfl, rfl, _, rfl, iteNS rfl ?_⟩
      have sE := sm13.trans s14
      obtain ⟨dc, tc, ac, c1, c2, c3⟩ := hcc.same sE
      refine ⟨_, rfl, cc, CC, dc, _, _, rfl, c1, cc0, nr, rfl, _, rfl, q, _, rfl, .inl ⟨SqL.of (sE _ _ hq8), fun u hu1 => ?_⟩⟩
      have s15 := new_same (o := .tup (refs as)) hu1
      have ors := (hos.mono m8).rs
      refine ⟨_, _, tup_dp (c3.same s15) (s15 _ _ c2), tup_dp ((hr8.same sE).same s15) upd_same, tupD_shaped ors, tupD_shaped ors, ?_⟩
      rw [tup_eqv ors]
      refine ⟨_, rfl, iteF ?_⟩
      have sF := sE.trans s15
      exact ⟨_, _, _, _, _, _, _, rfl, D8.same sF, ⟨as, sF _ _ hq8, hr8.same sF⟩, hmm.same sF, hcc.same sF⟩
    clear hmm hcc hl5 D5
    rintro σ H6 ⟨x8, x9, x10, x11, x12, x13, x14, rfl, D6, hl6⟩
    -- strange rows
    refine ⟨_, rfl, _, rfl, _, rfl, d, l, q, os, wd, rfl, D6, nqd, nql, hl6, fun o ho => (hos.1 o ho).mono m8, by omega, by omega, w64, fun H7 D7 kp7 => ?_⟩
    refine ⟨_, rfl, iteF ?_⟩
    exact ⟨_, _, _, _, _, _, _, _, _, _, _, _, _, rfl, D7⟩
end
end My

set_option Elab.async false
set_option linter.all false
set_option maxRecDepth 100000
set_option maxHeartbeats 0
namespace My
open PySem L2 MyR RT
set_option pp.maxSteps 300
def intsAre : List Value → List Int → Bool
  | [], [] => true
  | .int x _ :: r, y :: s => x == y && intsAre r s
  | _, _ => false
theorem ints_vals : ∀ {us : List Value} {zs : List Int}, intsAre us zs = true → Vals (zs.map V.int) us
  | [], zs, h => by
    cases zs with
    | nil => exact .nil
    | cons z s => cases h
  | v :: r, zs, h => by
    cases v with
    | int x t =>
      cases zs with
      | nil => cases h
      | cons y s =>
        have h' : (x == y && intsAre r s) = true := h
        rw [Bool.and_eq_true] at h'
        obtain rfl := beq_iff_eq.mp h'.1
        exact .cons ⟨t, rfl⟩ (ints_vals h'.2)
    | _ => cases zs <;> cases h
theorem ble_size {n : Nat} (h : Nat.ble n 1000 = true) : n ≤ sizeLine := Nat.le_of_lt (small1000 (Nat.le_of_ble_eq_true h))
theorem kit_own {K : PySem.W.Frag} {C D : Addr} (h1 : PySem.W.isClsIn K D = true) (h2 : PySem.W.typeIn K (.ref D) = some (.type "type")) (h3 : PySem.W.subIn K (.ref C) (.ref D) = some true) : PySem.W.kitOne K (.ref C) (.ref D) = some true := by
  unfold PySem.W.kitOne
  by_cases e : ((Value.ref C) == (Value.ref D)) = true
  · rw [if_pos e]
  · rw [if_neg e]
    have h1' : (PySem.W.clsIn K D).isSome = true := h1
    show (if ((PySem.W.clsIn K D).isSome && PySem.W.typeIn K (.ref D) == some (.type "type")) = true then PySem.W.subIn K (.ref C) (.ref D) else none) = some true
    rw [h1', h2, if_pos (by rfl)]
    exact h3
theorem all_mk {P : Program} {w : World} {K : PySem.W.Frag} {h : Heap} {mg : Str → Option Value} {fa : Addr} (X : K.In h) (G : h.Ns mainGlobals mg) (hfa : mg "law" = some (.ref fa))
    {f_is_integer f_is_between f_is_small f_registers_of f_is_item f_is_row f_do_set f_do_copy f_do_add f_do_sub f_do_mul f_do_left f_do_right f_do_load f_do_store f_do_skip f_results f_check_registers f_law_deal f_law_draw f_law_number f_law_point f_law_computed f_law_ran f_law_row f_law_rows f_law_far_row f_law_far_rows f_law_told f_law_strange f_law_strange_right f_law_numbers f_law f_run f_Code_init f_Machine_init f_InvalidCode_init f_Work_init f_Work_zeros f_Work_do_row f_Work_wait f_Work_next_fill f_Work_slot C_Code C_Machine C_InvalidCode C_LowError C_Work aM aF aD aDf aT0 : Addr}
    {od_is_integer an_is_integer : Option Addr} {sl_is_integer : Array (Option Value)} {oc_is_integer kV_is_integer dc_is_integer pm_is_integer cd_is_integer ct_is_integer : Value}
    {od_is_between an_is_between : Option Addr} {sl_is_between : Array (Option Value)} {oc_is_between kV_is_between dc_is_between pm_is_between cd_is_between ct_is_between : Value}
    {od_is_small an_is_small : Option Addr} {sl_is_small : Array (Option Value)} {oc_is_small kV_is_small dc_is_small pm_is_small cd_is_small ct_is_small : Value}
    {od_registers_of an_registers_of : Option Addr} {sl_registers_of : Array (Option Value)} {oc_registers_of kV_registers_of dc_registers_of pm_registers_of cd_registers_of ct_registers_of : Value}
    {od_is_item an_is_item : Option Addr} {sl_is_item : Array (Option Value)} {oc_is_item kV_is_item dc_is_item pm_is_item cd_is_item ct_is_item : Value}
    {od_is_row an_is_row : Option Addr} {sl_is_row : Array (Option Value)} {oc_is_row kV_is_row dc_is_row pm_is_row cd_is_row ct_is_row : Value}
    {od_do_set an_do_set : Option Addr} {sl_do_set : Array (Option Value)} {oc_do_set kV_do_set dc_do_set pm_do_set cd_do_set ct_do_set : Value}
    {od_do_copy an_do_copy : Option Addr} {sl_do_copy : Array (Option Value)} {oc_do_copy kV_do_copy dc_do_copy pm_do_copy cd_do_copy ct_do_copy : Value}
    {od_do_add an_do_add : Option Addr} {sl_do_add : Array (Option Value)} {oc_do_add kV_do_add dc_do_add pm_do_add cd_do_add ct_do_add : Value}
    {od_do_sub an_do_sub : Option Addr} {sl_do_sub : Array (Option Value)} {oc_do_sub kV_do_sub dc_do_sub pm_do_sub cd_do_sub ct_do_sub : Value}
    {od_do_mul an_do_mul : Option Addr} {sl_do_mul : Array (Option Value)} {oc_do_mul kV_do_mul dc_do_mul pm_do_mul cd_do_mul ct_do_mul : Value}
    {od_do_left an_do_left : Option Addr} {sl_do_left : Array (Option Value)} {oc_do_left kV_do_left dc_do_left pm_do_left cd_do_left ct_do_left : Value}
    {od_do_right an_do_right : Option Addr} {sl_do_right : Array (Option Value)} {oc_do_right kV_do_right dc_do_right pm_do_right cd_do_right ct_do_right : Value}
    {od_do_load an_do_load : Option Addr} {sl_do_load : Array (Option Value)} {oc_do_load kV_do_load dc_do_load pm_do_load cd_do_load ct_do_load : Value}
    {od_do_store an_do_store : Option Addr} {sl_do_store : Array (Option Value)} {oc_do_store kV_do_store dc_do_store pm_do_store cd_do_store ct_do_store : Value}
    {od_do_skip an_do_skip : Option Addr} {sl_do_skip : Array (Option Value)} {oc_do_skip kV_do_skip dc_do_skip pm_do_skip cd_do_skip ct_do_skip : Value}
    {od_results an_results : Option Addr} {sl_results : Array (Option Value)} {oc_results kV_results dc_results pm_results cd_results ct_results : Value}
    {od_check_registers an_check_registers : Option Addr} {sl_check_registers : Array (Option Value)} {oc_check_registers kV_check_registers dc_check_registers pm_check_registers cd_check_registers ct_check_registers : Value}
    {od_law_deal an_law_deal : Option Addr} {sl_law_deal : Array (Option Value)} {oc_law_deal kV_law_deal dc_law_deal pm_law_deal cd_law_deal ct_law_deal : Value}
    {od_law_draw an_law_draw : Option Addr} {sl_law_draw : Array (Option Value)} {oc_law_draw kV_law_draw dc_law_draw pm_law_draw cd_law_draw ct_law_draw : Value}
    {od_law_number an_law_number : Option Addr} {sl_law_number : Array (Option Value)} {oc_law_number kV_law_number dc_law_number pm_law_number cd_law_number ct_law_number : Value}
    {od_law_point an_law_point : Option Addr} {sl_law_point : Array (Option Value)} {oc_law_point kV_law_point dc_law_point pm_law_point cd_law_point ct_law_point : Value}
    {od_law_computed an_law_computed : Option Addr} {sl_law_computed : Array (Option Value)} {oc_law_computed kV_law_computed dc_law_computed pm_law_computed cd_law_computed ct_law_computed : Value}
    {od_law_ran an_law_ran : Option Addr} {sl_law_ran : Array (Option Value)} {oc_law_ran kV_law_ran dc_law_ran pm_law_ran cd_law_ran ct_law_ran : Value}
    {od_law_row an_law_row : Option Addr} {sl_law_row : Array (Option Value)} {oc_law_row kV_law_row dc_law_row pm_law_row cd_law_row ct_law_row : Value}
    {od_law_rows an_law_rows : Option Addr} {sl_law_rows : Array (Option Value)} {oc_law_rows kV_law_rows dc_law_rows pm_law_rows cd_law_rows ct_law_rows : Value}
    {od_law_far_row an_law_far_row : Option Addr} {sl_law_far_row : Array (Option Value)} {oc_law_far_row kV_law_far_row dc_law_far_row pm_law_far_row cd_law_far_row ct_law_far_row : Value}
    {od_law_far_rows an_law_far_rows : Option Addr} {sl_law_far_rows : Array (Option Value)} {oc_law_far_rows kV_law_far_rows dc_law_far_rows pm_law_far_rows cd_law_far_rows ct_law_far_rows : Value}
    {od_law_told an_law_told : Option Addr} {sl_law_told : Array (Option Value)} {oc_law_told kV_law_told dc_law_told pm_law_told cd_law_told ct_law_told : Value}
    {od_law_strange an_law_strange : Option Addr} {sl_law_strange : Array (Option Value)} {oc_law_strange kV_law_strange dc_law_strange pm_law_strange cd_law_strange ct_law_strange : Value}
    {od_law_strange_right an_law_strange_right : Option Addr} {sl_law_strange_right : Array (Option Value)} {oc_law_strange_right kV_law_strange_right dc_law_strange_right pm_law_strange_right cd_law_strange_right ct_law_strange_right : Value}
    {od_law_numbers an_law_numbers : Option Addr} {sl_law_numbers : Array (Option Value)} {oc_law_numbers kV_law_numbers dc_law_numbers pm_law_numbers cd_law_numbers ct_law_numbers : Value}
    {od_law an_law : Option Addr} {sl_law : Array (Option Value)} {oc_law kV_law dc_law pm_law cd_law ct_law : Value}
    {od_run an_run : Option Addr} {sl_run : Array (Option Value)} {oc_run kV_run dc_run pm_run cd_run ct_run : Value}
    {odDf odT0 : Option Addr} {nDf nT0 : Nat} {slDf slT0 : Array (Option Value)}
    {od_Code_init an_Code_init : Option Addr} {sl_Code_init : Array (Option Value)} {oc_Code_init kV_Code_init dc_Code_init pm_Code_init cd_Code_init ct_Code_init : Value}
    {od_Machine_init an_Machine_init : Option Addr} {sl_Machine_init : Array (Option Value)} {oc_Machine_init kV_Machine_init dc_Machine_init pm_Machine_init cd_Machine_init ct_Machine_init : Value}
    {od_InvalidCode_init an_InvalidCode_init : Option Addr} {sl_InvalidCode_init : Array (Option Value)} {oc_InvalidCode_init kV_InvalidCode_init dc_InvalidCode_init pm_InvalidCode_init cd_InvalidCode_init ct_InvalidCode_init : Value}
    {od_Work_init an_Work_init : Option Addr} {sl_Work_init : Array (Option Value)} {oc_Work_init kV_Work_init dc_Work_init pm_Work_init cd_Work_init ct_Work_init : Value}
    {od_Work_zeros an_Work_zeros : Option Addr} {sl_Work_zeros : Array (Option Value)} {oc_Work_zeros kV_Work_zeros dc_Work_zeros pm_Work_zeros cd_Work_zeros ct_Work_zeros : Value}
    {od_Work_do_row an_Work_do_row : Option Addr} {sl_Work_do_row : Array (Option Value)} {oc_Work_do_row kV_Work_do_row dc_Work_do_row pm_Work_do_row cd_Work_do_row ct_Work_do_row : Value}
    {od_Work_wait an_Work_wait : Option Addr} {sl_Work_wait : Array (Option Value)} {oc_Work_wait kV_Work_wait dc_Work_wait pm_Work_wait cd_Work_wait ct_Work_wait : Value}
    {od_Work_next_fill an_Work_next_fill : Option Addr} {sl_Work_next_fill : Array (Option Value)} {oc_Work_next_fill kV_Work_next_fill dc_Work_next_fill pm_Work_next_fill cd_Work_next_fill ct_Work_next_fill : Value}
    {od_Work_slot an_Work_slot : Option Addr} {sl_Work_slot : Array (Option Value)} {oc_Work_slot kV_Work_slot dc_Work_slot pm_Work_slot cd_Work_slot ct_Work_slot : Value}
    {nmI qI : Str} {NI : Addr} {bsI : List Value} {snI : List Str} {subI : List Value} {abI : Bool} {colI : Option Bool} {ddI : Option Addr} {m0I m1I m2I m3I m5I : Option Value}
    {t1 t2 t3 t4 : Tok}
    {odM : Option Addr} {itsM : Array Value} {nM : Nat} {slM : Array (Option Value)} {esF esD : Array DictEntry} {nF nD : Nat}
    {tf_set tf_copy tf_add tf_sub tf_mul tf_left tf_right tf_load tf_store tf_skip : Tok}
    (a_is_integer : PySem.W.nsIn K mainGlobals "is_integer" = some (some (.ref f_is_integer)))
    (l_is_integer : K.lookup f_is_integer = some ⟨oc_is_integer, od_is_integer, .func (PySem.W.fnOf "is_integer" "is_integer" (defArgs s_is_integer) (defBody s_is_integer) (defScope s_is_integer) .none kV_is_integer dc_is_integer pm_is_integer an_is_integer cd_is_integer ct_is_integer), sl_is_integer⟩)
    (c_is_integer : PySem.W.codeIn K cd_is_integer "is_integer" = true)
    (k_is_integer : PySem.W.keepIn K (.ref f_is_integer) = true)
    (a_is_between : PySem.W.nsIn K mainGlobals "is_between" = some (some (.ref f_is_between)))
    (l_is_between : K.lookup f_is_between = some ⟨oc_is_between, od_is_between, .func (PySem.W.fnOf "is_between" "is_between" (defArgs s_is_between) (defBody s_is_between) (defScope s_is_between) .none kV_is_between dc_is_between pm_is_between an_is_between cd_is_between ct_is_between), sl_is_between⟩)
    (c_is_between : PySem.W.codeIn K cd_is_between "is_between" = true)
    (k_is_between : PySem.W.keepIn K (.ref f_is_between) = true)
    (a_is_small : PySem.W.nsIn K mainGlobals "is_small" = some (some (.ref f_is_small)))
    (l_is_small : K.lookup f_is_small = some ⟨oc_is_small, od_is_small, .func (PySem.W.fnOf "is_small" "is_small" (defArgs s_is_small) (defBody s_is_small) (defScope s_is_small) .none kV_is_small dc_is_small pm_is_small an_is_small cd_is_small ct_is_small), sl_is_small⟩)
    (c_is_small : PySem.W.codeIn K cd_is_small "is_small" = true)
    (k_is_small : PySem.W.keepIn K (.ref f_is_small) = true)
    (a_registers_of : PySem.W.nsIn K mainGlobals "registers_of" = some (some (.ref f_registers_of)))
    (l_registers_of : K.lookup f_registers_of = some ⟨oc_registers_of, od_registers_of, .func (PySem.W.fnOf "registers_of" "registers_of" (defArgs s_registers_of) (defBody s_registers_of) (defScope s_registers_of) .none kV_registers_of dc_registers_of pm_registers_of an_registers_of cd_registers_of ct_registers_of), sl_registers_of⟩)
    (c_registers_of : PySem.W.codeIn K cd_registers_of "registers_of" = true)
    (k_registers_of : PySem.W.keepIn K (.ref f_registers_of) = true)
    (a_is_item : PySem.W.nsIn K mainGlobals "is_item" = some (some (.ref f_is_item)))
    (l_is_item : K.lookup f_is_item = some ⟨oc_is_item, od_is_item, .func (PySem.W.fnOf "is_item" "is_item" (defArgs s_is_item) (defBody s_is_item) (defScope s_is_item) .none kV_is_item dc_is_item pm_is_item an_is_item cd_is_item ct_is_item), sl_is_item⟩)
    (c_is_item : PySem.W.codeIn K cd_is_item "is_item" = true)
    (k_is_item : PySem.W.keepIn K (.ref f_is_item) = true)
    (a_is_row : PySem.W.nsIn K mainGlobals "is_row" = some (some (.ref f_is_row)))
    (l_is_row : K.lookup f_is_row = some ⟨oc_is_row, od_is_row, .func (PySem.W.fnOf "is_row" "is_row" (defArgs s_is_row) (defBody s_is_row) (defScope s_is_row) .none kV_is_row dc_is_row pm_is_row an_is_row cd_is_row ct_is_row), sl_is_row⟩)
    (c_is_row : PySem.W.codeIn K cd_is_row "is_row" = true)
    (k_is_row : PySem.W.keepIn K (.ref f_is_row) = true)
    (a_do_set : PySem.W.nsIn K mainGlobals "do_set" = some (some (.ref f_do_set)))
    (l_do_set : K.lookup f_do_set = some ⟨oc_do_set, od_do_set, .func (PySem.W.fnOf "do_set" "do_set" (defArgs s_do_set) (defBody s_do_set) (defScope s_do_set) .none kV_do_set dc_do_set pm_do_set an_do_set cd_do_set ct_do_set), sl_do_set⟩)
    (c_do_set : PySem.W.codeIn K cd_do_set "do_set" = true)
    (k_do_set : PySem.W.keepIn K (.ref f_do_set) = true)
    (a_do_copy : PySem.W.nsIn K mainGlobals "do_copy" = some (some (.ref f_do_copy)))
    (l_do_copy : K.lookup f_do_copy = some ⟨oc_do_copy, od_do_copy, .func (PySem.W.fnOf "do_copy" "do_copy" (defArgs s_do_copy) (defBody s_do_copy) (defScope s_do_copy) .none kV_do_copy dc_do_copy pm_do_copy an_do_copy cd_do_copy ct_do_copy), sl_do_copy⟩)
    (c_do_copy : PySem.W.codeIn K cd_do_copy "do_copy" = true)
    (k_do_copy : PySem.W.keepIn K (.ref f_do_copy) = true)
    (a_do_add : PySem.W.nsIn K mainGlobals "do_add" = some (some (.ref f_do_add)))
    (l_do_add : K.lookup f_do_add = some ⟨oc_do_add, od_do_add, .func (PySem.W.fnOf "do_add" "do_add" (defArgs s_do_add) (defBody s_do_add) (defScope s_do_add) .none kV_do_add dc_do_add pm_do_add an_do_add cd_do_add ct_do_add), sl_do_add⟩)
    (c_do_add : PySem.W.codeIn K cd_do_add "do_add" = true)
    (k_do_add : PySem.W.keepIn K (.ref f_do_add) = true)
    (a_do_sub : PySem.W.nsIn K mainGlobals "do_sub" = some (some (.ref f_do_sub)))
    (l_do_sub : K.lookup f_do_sub = some ⟨oc_do_sub, od_do_sub, .func (PySem.W.fnOf "do_sub" "do_sub" (defArgs s_do_sub) (defBody s_do_sub) (defScope s_do_sub) .none kV_do_sub dc_do_sub pm_do_sub an_do_sub cd_do_sub ct_do_sub), sl_do_sub⟩)
    (c_do_sub : PySem.W.codeIn K cd_do_sub "do_sub" = true)
    (k_do_sub : PySem.W.keepIn K (.ref f_do_sub) = true)
    (a_do_mul : PySem.W.nsIn K mainGlobals "do_mul" = some (some (.ref f_do_mul)))
    (l_do_mul : K.lookup f_do_mul = some ⟨oc_do_mul, od_do_mul, .func (PySem.W.fnOf "do_mul" "do_mul" (defArgs s_do_mul) (defBody s_do_mul) (defScope s_do_mul) .none kV_do_mul dc_do_mul pm_do_mul an_do_mul cd_do_mul ct_do_mul), sl_do_mul⟩)
    (c_do_mul : PySem.W.codeIn K cd_do_mul "do_mul" = true)
    (k_do_mul : PySem.W.keepIn K (.ref f_do_mul) = true)
    (a_do_left : PySem.W.nsIn K mainGlobals "do_left" = some (some (.ref f_do_left)))
    (l_do_left : K.lookup f_do_left = some ⟨oc_do_left, od_do_left, .func (PySem.W.fnOf "do_left" "do_left" (defArgs s_do_left) (defBody s_do_left) (defScope s_do_left) .none kV_do_left dc_do_left pm_do_left an_do_left cd_do_left ct_do_left), sl_do_left⟩)
    (c_do_left : PySem.W.codeIn K cd_do_left "do_left" = true)
    (k_do_left : PySem.W.keepIn K (.ref f_do_left) = true)
    (a_do_right : PySem.W.nsIn K mainGlobals "do_right" = some (some (.ref f_do_right)))
    (l_do_right : K.lookup f_do_right = some ⟨oc_do_right, od_do_right, .func (PySem.W.fnOf "do_right" "do_right" (defArgs s_do_right) (defBody s_do_right) (defScope s_do_right) .none kV_do_right dc_do_right pm_do_right an_do_right cd_do_right ct_do_right), sl_do_right⟩)
    (c_do_right : PySem.W.codeIn K cd_do_right "do_right" = true)
    (k_do_right : PySem.W.keepIn K (.ref f_do_right) = true)
    (a_do_load : PySem.W.nsIn K mainGlobals "do_load" = some (some (.ref f_do_load)))
    (l_do_load : K.lookup f_do_load = some ⟨oc_do_load, od_do_load, .func (PySem.W.fnOf "do_load" "do_load" (defArgs s_do_load) (defBody s_do_load) (defScope s_do_load) .none kV_do_load dc_do_load pm_do_load an_do_load cd_do_load ct_do_load), sl_do_load⟩)
    (c_do_load : PySem.W.codeIn K cd_do_load "do_load" = true)
    (k_do_load : PySem.W.keepIn K (.ref f_do_load) = true)
    (a_do_store : PySem.W.nsIn K mainGlobals "do_store" = some (some (.ref f_do_store)))
    (l_do_store : K.lookup f_do_store = some ⟨oc_do_store, od_do_store, .func (PySem.W.fnOf "do_store" "do_store" (defArgs s_do_store) (defBody s_do_store) (defScope s_do_store) .none kV_do_store dc_do_store pm_do_store an_do_store cd_do_store ct_do_store), sl_do_store⟩)
    (c_do_store : PySem.W.codeIn K cd_do_store "do_store" = true)
    (k_do_store : PySem.W.keepIn K (.ref f_do_store) = true)
    (a_do_skip : PySem.W.nsIn K mainGlobals "do_skip" = some (some (.ref f_do_skip)))
    (l_do_skip : K.lookup f_do_skip = some ⟨oc_do_skip, od_do_skip, .func (PySem.W.fnOf "do_skip" "do_skip" (defArgs s_do_skip) (defBody s_do_skip) (defScope s_do_skip) .none kV_do_skip dc_do_skip pm_do_skip an_do_skip cd_do_skip ct_do_skip), sl_do_skip⟩)
    (c_do_skip : PySem.W.codeIn K cd_do_skip "do_skip" = true)
    (k_do_skip : PySem.W.keepIn K (.ref f_do_skip) = true)
    (a_results : PySem.W.nsIn K mainGlobals "results" = some (some (.ref f_results)))
    (l_results : K.lookup f_results = some ⟨oc_results, od_results, .func (PySem.W.fnOf "results" "results" (defArgs s_results) (defBody s_results) (defScope s_results) .none kV_results dc_results pm_results an_results cd_results ct_results), sl_results⟩)
    (c_results : PySem.W.codeIn K cd_results "results" = true)
    (k_results : PySem.W.keepIn K (.ref f_results) = true)
    (a_check_registers : PySem.W.nsIn K mainGlobals "check_registers" = some (some (.ref f_check_registers)))
    (l_check_registers : K.lookup f_check_registers = some ⟨oc_check_registers, od_check_registers, .func (PySem.W.fnOf "check_registers" "check_registers" (defArgs s_check_registers) (defBody s_check_registers) (defScope s_check_registers) .none kV_check_registers dc_check_registers pm_check_registers an_check_registers cd_check_registers ct_check_registers), sl_check_registers⟩)
    (c_check_registers : PySem.W.codeIn K cd_check_registers "check_registers" = true)
    (k_check_registers : PySem.W.keepIn K (.ref f_check_registers) = true)
    (a_law_deal : PySem.W.nsIn K mainGlobals "_law_deal" = some (some (.ref f_law_deal)))
    (l_law_deal : K.lookup f_law_deal = some ⟨oc_law_deal, od_law_deal, .func (PySem.W.fnOf "_law_deal" "_law_deal" (defArgs s_law_deal) (defBody s_law_deal) (defScope s_law_deal) .none kV_law_deal dc_law_deal pm_law_deal an_law_deal cd_law_deal ct_law_deal), sl_law_deal⟩)
    (c_law_deal : PySem.W.codeIn K cd_law_deal "_law_deal" = true)
    (k_law_deal : PySem.W.keepIn K (.ref f_law_deal) = true)
    (a_law_draw : PySem.W.nsIn K mainGlobals "_law_draw" = some (some (.ref f_law_draw)))
    (l_law_draw : K.lookup f_law_draw = some ⟨oc_law_draw, od_law_draw, .func (PySem.W.fnOf "_law_draw" "_law_draw" (defArgs s_law_draw) (defBody s_law_draw) (defScope s_law_draw) .none kV_law_draw dc_law_draw pm_law_draw an_law_draw cd_law_draw ct_law_draw), sl_law_draw⟩)
    (c_law_draw : PySem.W.codeIn K cd_law_draw "_law_draw" = true)
    (k_law_draw : PySem.W.keepIn K (.ref f_law_draw) = true)
    (a_law_number : PySem.W.nsIn K mainGlobals "_law_number" = some (some (.ref f_law_number)))
    (l_law_number : K.lookup f_law_number = some ⟨oc_law_number, od_law_number, .func (PySem.W.fnOf "_law_number" "_law_number" (defArgs s_law_number) (defBody s_law_number) (defScope s_law_number) .none kV_law_number dc_law_number pm_law_number an_law_number cd_law_number ct_law_number), sl_law_number⟩)
    (c_law_number : PySem.W.codeIn K cd_law_number "_law_number" = true)
    (k_law_number : PySem.W.keepIn K (.ref f_law_number) = true)
    (a_law_point : PySem.W.nsIn K mainGlobals "_law_point" = some (some (.ref f_law_point)))
    (l_law_point : K.lookup f_law_point = some ⟨oc_law_point, od_law_point, .func (PySem.W.fnOf "_law_point" "_law_point" (defArgs s_law_point) (defBody s_law_point) (defScope s_law_point) .none kV_law_point dc_law_point pm_law_point an_law_point cd_law_point ct_law_point), sl_law_point⟩)
    (c_law_point : PySem.W.codeIn K cd_law_point "_law_point" = true)
    (k_law_point : PySem.W.keepIn K (.ref f_law_point) = true)
    (a_law_computed : PySem.W.nsIn K mainGlobals "_law_computed" = some (some (.ref f_law_computed)))
    (l_law_computed : K.lookup f_law_computed = some ⟨oc_law_computed, od_law_computed, .func (PySem.W.fnOf "_law_computed" "_law_computed" (defArgs s_law_computed) (defBody s_law_computed) (defScope s_law_computed) .none kV_law_computed dc_law_computed pm_law_computed an_law_computed cd_law_computed ct_law_computed), sl_law_computed⟩)
    (c_law_computed : PySem.W.codeIn K cd_law_computed "_law_computed" = true)
    (k_law_computed : PySem.W.keepIn K (.ref f_law_computed) = true)
    (a_law_ran : PySem.W.nsIn K mainGlobals "_law_ran" = some (some (.ref f_law_ran)))
    (l_law_ran : K.lookup f_law_ran = some ⟨oc_law_ran, od_law_ran, .func (PySem.W.fnOf "_law_ran" "_law_ran" (defArgs s_law_ran) (defBody s_law_ran) (defScope s_law_ran) .none kV_law_ran dc_law_ran pm_law_ran an_law_ran cd_law_ran ct_law_ran), sl_law_ran⟩)
    (c_law_ran : PySem.W.codeIn K cd_law_ran "_law_ran" = true)
    (k_law_ran : PySem.W.keepIn K (.ref f_law_ran) = true)
    (a_law_row : PySem.W.nsIn K mainGlobals "_law_row" = some (some (.ref f_law_row)))
    (l_law_row : K.lookup f_law_row = some ⟨oc_law_row, od_law_row, .func (PySem.W.fnOf "_law_row" "_law_row" (defArgs s_law_row) (defBody s_law_row) (defScope s_law_row) .none kV_law_row dc_law_row pm_law_row an_law_row cd_law_row ct_law_row), sl_law_row⟩)
    (c_law_row : PySem.W.codeIn K cd_law_row "_law_row" = true)
    (k_law_row : PySem.W.keepIn K (.ref f_law_row) = true)
    (a_law_rows : PySem.W.nsIn K mainGlobals "_law_rows" = some (some (.ref f_law_rows)))
    (l_law_rows : K.lookup f_law_rows = some ⟨oc_law_rows, od_law_rows, .func (PySem.W.fnOf "_law_rows" "_law_rows" (defArgs s_law_rows) (defBody s_law_rows) (defScope s_law_rows) .none kV_law_rows dc_law_rows pm_law_rows an_law_rows cd_law_rows ct_law_rows), sl_law_rows⟩)
    (c_law_rows : PySem.W.codeIn K cd_law_rows "_law_rows" = true)
    (k_law_rows : PySem.W.keepIn K (.ref f_law_rows) = true)
    (a_law_far_row : PySem.W.nsIn K mainGlobals "_law_far_row" = some (some (.ref f_law_far_row)))
    (l_law_far_row : K.lookup f_law_far_row = some ⟨oc_law_far_row, od_law_far_row, .func (PySem.W.fnOf "_law_far_row" "_law_far_row" (defArgs s_law_far_row) (defBody s_law_far_row) (defScope s_law_far_row) .none kV_law_far_row dc_law_far_row pm_law_far_row an_law_far_row cd_law_far_row ct_law_far_row), sl_law_far_row⟩)
    (c_law_far_row : PySem.W.codeIn K cd_law_far_row "_law_far_row" = true)
    (k_law_far_row : PySem.W.keepIn K (.ref f_law_far_row) = true)
    (a_law_far_rows : PySem.W.nsIn K mainGlobals "_law_far_rows" = some (some (.ref f_law_far_rows)))
    (l_law_far_rows : K.lookup f_law_far_rows = some ⟨oc_law_far_rows, od_law_far_rows, .func (PySem.W.fnOf "_law_far_rows" "_law_far_rows" (defArgs s_law_far_rows) (defBody s_law_far_rows) (defScope s_law_far_rows) .none kV_law_far_rows dc_law_far_rows pm_law_far_rows an_law_far_rows cd_law_far_rows ct_law_far_rows), sl_law_far_rows⟩)
    (c_law_far_rows : PySem.W.codeIn K cd_law_far_rows "_law_far_rows" = true)
    (k_law_far_rows : PySem.W.keepIn K (.ref f_law_far_rows) = true)
    (a_law_told : PySem.W.nsIn K mainGlobals "_law_told" = some (some (.ref f_law_told)))
    (l_law_told : K.lookup f_law_told = some ⟨oc_law_told, od_law_told, .func (PySem.W.fnOf "_law_told" "_law_told" (defArgs s_law_told) (defBody s_law_told) (defScope s_law_told) .none kV_law_told dc_law_told pm_law_told an_law_told cd_law_told ct_law_told), sl_law_told⟩)
    (c_law_told : PySem.W.codeIn K cd_law_told "_law_told" = true)
    (k_law_told : PySem.W.keepIn K (.ref f_law_told) = true)
    (a_law_strange : PySem.W.nsIn K mainGlobals "_law_strange" = some (some (.ref f_law_strange)))
    (l_law_strange : K.lookup f_law_strange = some ⟨oc_law_strange, od_law_strange, .func (PySem.W.fnOf "_law_strange" "_law_strange" (defArgs s_law_strange) (defBody s_law_strange) (defScope s_law_strange) .none kV_law_strange dc_law_strange pm_law_strange an_law_strange cd_law_strange ct_law_strange), sl_law_strange⟩)
    (c_law_strange : PySem.W.codeIn K cd_law_strange "_law_strange" = true)
    (k_law_strange : PySem.W.keepIn K (.ref f_law_strange) = true)
    (a_law_strange_right : PySem.W.nsIn K mainGlobals "_law_strange_right" = some (some (.ref f_law_strange_right)))
    (l_law_strange_right : K.lookup f_law_strange_right = some ⟨oc_law_strange_right, od_law_strange_right, .func (PySem.W.fnOf "_law_strange_right" "_law_strange_right" (defArgs s_law_strange_right) (defBody s_law_strange_right) (defScope s_law_strange_right) .none kV_law_strange_right dc_law_strange_right pm_law_strange_right an_law_strange_right cd_law_strange_right ct_law_strange_right), sl_law_strange_right⟩)
    (c_law_strange_right : PySem.W.codeIn K cd_law_strange_right "_law_strange_right" = true)
    (k_law_strange_right : PySem.W.keepIn K (.ref f_law_strange_right) = true)
    (a_law_numbers : PySem.W.nsIn K mainGlobals "_law_numbers" = some (some (.ref f_law_numbers)))
    (l_law_numbers : K.lookup f_law_numbers = some ⟨oc_law_numbers, od_law_numbers, .func (PySem.W.fnOf "_law_numbers" "_law_numbers" (defArgs s_law_numbers) (defBody s_law_numbers) (defScope s_law_numbers) .none kV_law_numbers dc_law_numbers pm_law_numbers an_law_numbers cd_law_numbers ct_law_numbers), sl_law_numbers⟩)
    (c_law_numbers : PySem.W.codeIn K cd_law_numbers "_law_numbers" = true)
    (k_law_numbers : PySem.W.keepIn K (.ref f_law_numbers) = true)
    (a_law : PySem.W.nsIn K mainGlobals "law" = some (some (.ref f_law)))
    (l_law : K.lookup f_law = some ⟨oc_law, od_law, .func (PySem.W.fnOf "law" "law" (defArgs s_law) (defBody s_law) (defScope s_law) .none kV_law dc_law pm_law an_law cd_law ct_law), sl_law⟩)
    (c_law : PySem.W.codeIn K cd_law "law" = true)
    (k_law : PySem.W.keepIn K (.ref f_law) = true)
    (a_run : PySem.W.nsIn K mainGlobals "run" = some (some (.ref f_run)))
    (l_run : K.lookup f_run = some ⟨oc_run, od_run, .func (PySem.W.fnOf "run" "run" (defArgs s_run) (defBody s_run) (defScope s_run) (.ref aDf) kV_run dc_run pm_run an_run cd_run ct_run), sl_run⟩)
    (c_run : PySem.W.codeIn K cd_run "run" = true)
    (k_run : PySem.W.keepIn K (.ref f_run) = true)
    (l_dflt : K.lookup aDf = some ⟨.type "tuple", odDf, .seq #[.ref aT0] nDf, slDf⟩)
    (l_t0 : K.lookup aT0 = some ⟨.type "tuple", odT0, .seq #[] nT0, slT0⟩)
    (a_Code : PySem.W.nsIn K mainGlobals "Code" = some (some (.ref C_Code)))
    (a_Machine : PySem.W.nsIn K mainGlobals "Machine" = some (some (.ref C_Machine)))
    (a_InvalidCode : PySem.W.nsIn K mainGlobals "InvalidCode" = some (some (.ref C_InvalidCode)))
    (a_Work : PySem.W.nsIn K mainGlobals "Work" = some (some (.ref C_Work)))
    (m_Code_init : PySem.W.findIn K (.ref C_Code) "__init__" = some (some (.ref f_Code_init)))
    (l_Code_init : K.lookup f_Code_init = some ⟨oc_Code_init, od_Code_init, .func (PySem.W.fnOf "__init__" "Code.__init__" (defArgs s_Code_init) (defBody s_Code_init) (defScope s_Code_init) .none kV_Code_init dc_Code_init pm_Code_init an_Code_init cd_Code_init ct_Code_init), sl_Code_init⟩)
    (c_Code_init : PySem.W.codeIn K cd_Code_init "Code.__init__" = true)
    (k_Code_init : PySem.W.keepIn K (.ref f_Code_init) = true)
    (i_Code_init : PySem.W.isFn K (.ref f_Code_init) = true)
    (m_Machine_init : PySem.W.findIn K (.ref C_Machine) "__init__" = some (some (.ref f_Machine_init)))
    (l_Machine_init : K.lookup f_Machine_init = some ⟨oc_Machine_init, od_Machine_init, .func (PySem.W.fnOf "__init__" "Machine.__init__" (defArgs s_Machine_init) (defBody s_Machine_init) (defScope s_Machine_init) .none kV_Machine_init dc_Machine_init pm_Machine_init an_Machine_init cd_Machine_init ct_Machine_init), sl_Machine_init⟩)
    (c_Machine_init : PySem.W.codeIn K cd_Machine_init "Machine.__init__" = true)
    (k_Machine_init : PySem.W.keepIn K (.ref f_Machine_init) = true)
    (i_Machine_init : PySem.W.isFn K (.ref f_Machine_init) = true)
    (m_InvalidCode_init : PySem.W.findIn K (.ref C_InvalidCode) "__init__" = some (some (.ref f_InvalidCode_init)))
    (l_InvalidCode_init : K.lookup f_InvalidCode_init = some ⟨oc_InvalidCode_init, od_InvalidCode_init, .func (PySem.W.fnOf "__init__" "InvalidCode.__init__" (defArgs s_InvalidCode_init) (defBody s_InvalidCode_init) (defScope s_InvalidCode_init) .none kV_InvalidCode_init dc_InvalidCode_init pm_InvalidCode_init an_InvalidCode_init cd_InvalidCode_init ct_InvalidCode_init), sl_InvalidCode_init⟩)
    (c_InvalidCode_init : PySem.W.codeIn K cd_InvalidCode_init "InvalidCode.__init__" = true)
    (k_InvalidCode_init : PySem.W.keepIn K (.ref f_InvalidCode_init) = true)
    (y_InvalidCode_init : PySem.W.typeIn K (.ref f_InvalidCode_init) = some (.type "function"))
    (m_Work_init : PySem.W.findIn K (.ref C_Work) "__init__" = some (some (.ref f_Work_init)))
    (l_Work_init : K.lookup f_Work_init = some ⟨oc_Work_init, od_Work_init, .func (PySem.W.fnOf "__init__" "Work.__init__" (defArgs s_Work_init) (defBody s_Work_init) (defScope s_Work_init) .none kV_Work_init dc_Work_init pm_Work_init an_Work_init cd_Work_init ct_Work_init), sl_Work_init⟩)
    (c_Work_init : PySem.W.codeIn K cd_Work_init "Work.__init__" = true)
    (k_Work_init : PySem.W.keepIn K (.ref f_Work_init) = true)
    (i_Work_init : PySem.W.isFn K (.ref f_Work_init) = true)
    (m_Work_zeros : PySem.W.findIn K (.ref C_Work) "zeros" = some (some (.ref f_Work_zeros)))
    (l_Work_zeros : K.lookup f_Work_zeros = some ⟨oc_Work_zeros, od_Work_zeros, .func (PySem.W.fnOf "zeros" "Work.zeros" (defArgs s_Work_zeros) (defBody s_Work_zeros) (defScope s_Work_zeros) .none kV_Work_zeros dc_Work_zeros pm_Work_zeros an_Work_zeros cd_Work_zeros ct_Work_zeros), sl_Work_zeros⟩)
    (c_Work_zeros : PySem.W.codeIn K cd_Work_zeros "Work.zeros" = true)
    (k_Work_zeros : PySem.W.keepIn K (.ref f_Work_zeros) = true)
    (i_Work_zeros : PySem.W.isFn K (.ref f_Work_zeros) = true)
    (m_Work_do_row : PySem.W.findIn K (.ref C_Work) "do_row" = some (some (.ref f_Work_do_row)))
    (l_Work_do_row : K.lookup f_Work_do_row = some ⟨oc_Work_do_row, od_Work_do_row, .func (PySem.W.fnOf "do_row" "Work.do_row" (defArgs s_Work_do_row) (defBody s_Work_do_row) (defScope s_Work_do_row) .none kV_Work_do_row dc_Work_do_row pm_Work_do_row an_Work_do_row cd_Work_do_row ct_Work_do_row), sl_Work_do_row⟩)
    (c_Work_do_row : PySem.W.codeIn K cd_Work_do_row "Work.do_row" = true)
    (k_Work_do_row : PySem.W.keepIn K (.ref f_Work_do_row) = true)
    (i_Work_do_row : PySem.W.isFn K (.ref f_Work_do_row) = true)
    (m_Work_wait : PySem.W.findIn K (.ref C_Work) "wait" = some (some (.ref f_Work_wait)))
    (l_Work_wait : K.lookup f_Work_wait = some ⟨oc_Work_wait, od_Work_wait, .func (PySem.W.fnOf "wait" "Work.wait" (defArgs s_Work_wait) (defBody s_Work_wait) (defScope s_Work_wait) .none kV_Work_wait dc_Work_wait pm_Work_wait an_Work_wait cd_Work_wait ct_Work_wait), sl_Work_wait⟩)
    (c_Work_wait : PySem.W.codeIn K cd_Work_wait "Work.wait" = true)
    (k_Work_wait : PySem.W.keepIn K (.ref f_Work_wait) = true)
    (i_Work_wait : PySem.W.isFn K (.ref f_Work_wait) = true)
    (m_Work_next_fill : PySem.W.findIn K (.ref C_Work) "next_fill" = some (some (.ref f_Work_next_fill)))
    (l_Work_next_fill : K.lookup f_Work_next_fill = some ⟨oc_Work_next_fill, od_Work_next_fill, .func (PySem.W.fnOf "next_fill" "Work.next_fill" (defArgs s_Work_next_fill) (defBody s_Work_next_fill) (defScope s_Work_next_fill) .none kV_Work_next_fill dc_Work_next_fill pm_Work_next_fill an_Work_next_fill cd_Work_next_fill ct_Work_next_fill), sl_Work_next_fill⟩)
    (c_Work_next_fill : PySem.W.codeIn K cd_Work_next_fill "Work.next_fill" = true)
    (k_Work_next_fill : PySem.W.keepIn K (.ref f_Work_next_fill) = true)
    (i_Work_next_fill : PySem.W.isFn K (.ref f_Work_next_fill) = true)
    (m_Work_slot : PySem.W.findIn K (.ref C_Work) "slot" = some (some (.ref f_Work_slot)))
    (l_Work_slot : K.lookup f_Work_slot = some ⟨oc_Work_slot, od_Work_slot, .func (PySem.W.fnOf "slot" "Work.slot" (defArgs s_Work_slot) (defBody s_Work_slot) (defScope s_Work_slot) .none kV_Work_slot dc_Work_slot pm_Work_slot an_Work_slot cd_Work_slot ct_Work_slot), sl_Work_slot⟩)
    (c_Work_slot : PySem.W.codeIn K cd_Work_slot "Work.slot" = true)
    (k_Work_slot : PySem.W.keepIn K (.ref f_Work_slot) = true)
    (i_Work_slot : PySem.W.isFn K (.ref f_Work_slot) = true)
    (pg_Code : PySem.W.plainGet K C_Code Str.empty = true)
    (hd_Code : PySem.W.hasDictIn K C_Code = true)
    (po_Code : PySem.W.plainOver K C_Code = true)
    (sa_Code : PySem.W.findIn K (.ref C_Code) "__setattr__" = some (some (.builtin "object.__setattr__")))
    (mk_Code : PySem.W.makesIn K C_Code = true)
    (kc_Code : PySem.W.keepIn K (.ref C_Code) = true)
    (pg_Machine : PySem.W.plainGet K C_Machine Str.empty = true)
    (hd_Machine : PySem.W.hasDictIn K C_Machine = true)
    (po_Machine : PySem.W.plainOver K C_Machine = true)
    (sa_Machine : PySem.W.findIn K (.ref C_Machine) "__setattr__" = some (some (.builtin "object.__setattr__")))
    (mk_Machine : PySem.W.makesIn K C_Machine = true)
    (kc_Machine : PySem.W.keepIn K (.ref C_Machine) = true)
    (pg_Work : PySem.W.plainGet K C_Work Str.empty = true)
    (hd_Work : PySem.W.hasDictIn K C_Work = true)
    (po_Work : PySem.W.plainOver K C_Work = true)
    (sa_Work : PySem.W.findIn K (.ref C_Work) "__setattr__" = some (some (.builtin "object.__setattr__")))
    (mk_Work : PySem.W.makesIn K C_Work = true)
    (kc_Work : PySem.W.keepIn K (.ref C_Work) = true)
    (n_rows : PySem.W.findIn K (.ref C_Code) "rows" = some none)
    (n_width : PySem.W.findIn K (.ref C_Machine) "width" = some none)
    (n_registers : PySem.W.findIn K (.ref C_Machine) "registers" = some none)
    (w_mask : PySem.W.findIn K (.ref C_Work) "mask" = some none)
    (w_top : PySem.W.findIn K (.ref C_Work) "top" = some none)
    (w_many : PySem.W.findIn K (.ref C_Work) "many" = some none)
    (w_registers : PySem.W.findIn K (.ref C_Work) "registers" = some none)
    (w_slots : PySem.W.findIn K (.ref C_Work) "slots" = some none)
    (w_fills : PySem.W.findIn K (.ref C_Work) "fills" = some none)
    (w_rights : PySem.W.findIn K (.ref C_Work) "rights" = some none)
    (w_at : PySem.W.findIn K (.ref C_Work) "at" = some none)
    (w_busy : PySem.W.findIn K (.ref C_Work) "busy" = some none)
    (w_waiting : PySem.W.findIn K (.ref C_Work) "waiting" = some none)
    (xL : K.lookup C_InvalidCode = some (excClassObj nmI qI C_InvalidCode NI bsI [.ref C_LowError, .type "ValueError", .type "Exception", .type "BaseException", .type "object"] true snI subI abI colI ddI m0I m1I m2I m3I m5I "ValueError.__new__"))
    (saI : PySem.W.findIn K (.ref C_InvalidCode) "__setattr__" = some (some (.builtin "object.__setattr__")))
    (kI : PySem.W.keepIn K (.ref C_InvalidCode) = true)
    (bI : PySem.W.subIn K (.ref C_InvalidCode) (.type "BaseException") = some true)
    (tI : PySem.W.typeIn K (.ref C_InvalidCode) = some (.type "type"))
    (gI : PySem.W.findIn K (.ref C_InvalidCode) "__getattribute__" = some (some (.builtin "BaseException.__getattribute__")))
    (hI : PySem.W.findIn K (.ref C_InvalidCode) "__getattr__" = some none)
    (dI : PySem.W.hasDictIn K C_InvalidCode = true)
    (nwI : PySem.W.findIn K (.ref C_InvalidCode) "word" = some none)
    (nrI : PySem.W.findIn K (.ref C_InvalidCode) "row" = some none)
    (sII : PySem.W.subIn K (.ref C_InvalidCode) (.ref C_InvalidCode) = some true)
    (gl_LIMIT : PySem.W.nsIn K mainGlobals "LIMIT" = some (some (.int 18446744073709551616 t1)))
    (gl_ROWS : PySem.W.nsIn K mainGlobals "MOST_ROWS" = some (some (.int 1000 t2)))
    (gl_REGS : PySem.W.nsIn K mainGlobals "MOST_REGISTERS" = some (some (.int 8 t3)))
    (gl_SLOTS : PySem.W.nsIn K mainGlobals "SLOTS" = some (some (.int 1000 t4)))
    (gl_MODULI : PySem.W.nsIn K mainGlobals "MODULI" = some (some (.ref aM)))
    (gl_FORMS : PySem.W.nsIn K mainGlobals "FORMS" = some (some (.ref aF)))
    (gl_DOING : PySem.W.nsIn K mainGlobals "DOING" = some (some (.ref aD)))
    (lM : K.lookup aM = some ⟨.type "tuple", odM, .seq itsM nM, slM⟩)
    (sM : intsAre itsM.toList mods = true)
    (zM : Nat.ble itsM.size 1000 = true)
    (lF : K.lookup aF = some ⟨.type "dict", none, .dict esF nF, #[]⟩)
    (kF : PySem.W.KeysLit w.params esF.toList)
    (oF : (aF == sysModules) = false)
    (lD : K.lookup aD = some ⟨.type "dict", none, .dict esD nD, #[]⟩)
    (kD : PySem.W.KeysLit w.params esD.toList)
    (d_set : PySem.W.nsIn K aF "set" = some (some (.str "WI" tf_set)))
    (d_copy : PySem.W.nsIn K aF "copy" = some (some (.str "WR" tf_copy)))
    (d_add : PySem.W.nsIn K aF "add" = some (some (.str "WRR" tf_add)))
    (d_sub : PySem.W.nsIn K aF "sub" = some (some (.str "WRR" tf_sub)))
    (d_mul : PySem.W.nsIn K aF "mul" = some (some (.str "WRR" tf_mul)))
    (d_left : PySem.W.nsIn K aF "left" = some (some (.str "WR" tf_left)))
    (d_right : PySem.W.nsIn K aF "right" = some (some (.str "WR" tf_right)))
    (d_load : PySem.W.nsIn K aF "load" = some (some (.str "WS" tf_load)))
    (d_store : PySem.W.nsIn K aF "store" = some (some (.str "SR" tf_store)))
    (d_skip : PySem.W.nsIn K aF "skip" = some (some (.str "RMCN" tf_skip)))
    (e_set : PySem.W.nsIn K aD "set" = some (some (.ref f_do_set)))
    (e_copy : PySem.W.nsIn K aD "copy" = some (some (.ref f_do_copy)))
    (e_add : PySem.W.nsIn K aD "add" = some (some (.ref f_do_add)))
    (e_sub : PySem.W.nsIn K aD "sub" = some (some (.ref f_do_sub)))
    (e_mul : PySem.W.nsIn K aD "mul" = some (some (.ref f_do_mul)))
    (e_left : PySem.W.nsIn K aD "left" = some (some (.ref f_do_left)))
    (e_right : PySem.W.nsIn K aD "right" = some (some (.ref f_do_right)))
    (e_load : PySem.W.nsIn K aD "load" = some (some (.ref f_do_load)))
    (e_store : PySem.W.nsIn K aD "store" = some (some (.ref f_do_store)))
    (e_skip : PySem.W.nsIn K aD "skip" = some (some (.ref f_do_skip)))
    (z_len : PySem.W.nsIn K mainGlobals "len" = some none)
    (z_max : PySem.W.nsIn K mainGlobals "max" = some none)
    (z_list : PySem.W.nsIn K mainGlobals "list" = some none)
    (z_tuple : PySem.W.nsIn K mainGlobals "tuple" = some none)
    (z_reversed : PySem.W.nsIn K mainGlobals "reversed" = some none)
    (z_range : PySem.W.nsIn K mainGlobals "range" = some none)
    (z_int : PySem.W.nsIn K mainGlobals "int" = some none)
    (z_str : PySem.W.nsIn K mainGlobals "str" = some none)
    (z_bool : PySem.W.nsIn K mainGlobals "bool" = some none)
    (z_isinstance : PySem.W.nsIn K mainGlobals "isinstance" = some none)
    (z_all : PySem.W.nsIn K mainGlobals "all" = some none)
    (z_enumerate : PySem.W.nsIn K mainGlobals "enumerate" = some none)
    (z_zip : PySem.W.nsIn K mainGlobals "zip" = some none)
    (z_any : PySem.W.nsIn K mainGlobals "any" = some none)
    (z_repr : PySem.W.nsIn K mainGlobals "repr" = some none) :
    ∃ fd : FuncData, (∀ (s : Shared) (v : Value), BindsTo s fd ⟨[v], []⟩ [("_law_script", v)]) ∧ ∀ base : Heap, K.In base → base.Ns mainGlobals mg → FnOk P w K mg base CX0 8 fa fd ["_law_script"] (spLaw K) := by
  have e := hfa.symm.trans (PySem.W.mg_of X G a_law)
  cases e
  refine ⟨PySem.W.fnOf "law" "law" (defArgs s_law) (defBody s_law) (defScope s_law) .none kV_law dc_law pm_law an_law cd_law ct_law, fun s v => .of_eq rfl, fun base _ _ => ?_⟩
  have F_is_integer := fun_mk (st := s_is_integer) l_is_integer c_is_integer k_is_integer
  have F_is_between := fun_mk (st := s_is_between) l_is_between c_is_between k_is_between
  have F_is_small := fun_mk (st := s_is_small) l_is_small c_is_small k_is_small
  have F_registers_of := fun_mk (st := s_registers_of) l_registers_of c_registers_of k_registers_of
  have F_is_item := fun_mk (st := s_is_item) l_is_item c_is_item k_is_item
  have F_is_row := fun_mk (st := s_is_row) l_is_row c_is_row k_is_row
  have F_do_set := fun_mk (st := s_do_set) l_do_set c_do_set k_do_set
  have F_do_copy := fun_mk (st := s_do_copy) l_do_copy c_do_copy k_do_copy
  have F_do_add := fun_mk (st := s_do_add) l_do_add c_do_add k_do_add
  have F_do_sub := fun_mk (st := s_do_sub) l_do_sub c_do_sub k_do_sub
  have F_do_mul := fun_mk (st := s_do_mul) l_do_mul c_do_mul k_do_mul
  have F_do_left := fun_mk (st := s_do_left) l_do_left c_do_left k_do_left
  have F_do_right := fun_mk (st := s_do_right) l_do_right c_do_right k_do_right
  have F_do_load := fun_mk (st := s_do_load) l_do_load c_do_load k_do_load
  have F_do_store := fun_mk (st := s_do_store) l_do_store c_do_store k_do_store
  have F_do_skip := fun_mk (st := s_do_skip) l_do_skip c_do_skip k_do_skip
  have F_results := fun_mk (st := s_results) l_results c_results k_results
  have F_check_registers := fun_mk (st := s_check_registers) l_check_registers c_check_registers k_check_registers
  have F_law_deal := fun_mk (st := s_law_deal) l_law_deal c_law_deal k_law_deal
  have F_law_draw := fun_mk (st := s_law_draw) l_law_draw c_law_draw k_law_draw
  have F_law_number := fun_mk (st := s_law_number) l_law_number c_law_number k_law_number
  have F_law_point := fun_mk (st := s_law_point) l_law_point c_law_point k_law_point
  have F_law_computed := fun_mk (st := s_law_computed) l_law_computed c_law_computed k_law_computed
  have F_law_ran := fun_mk (st := s_law_ran) l_law_ran c_law_ran k_law_ran
  have F_law_row := fun_mk (st := s_law_row) l_law_row c_law_row k_law_row
  have F_law_rows := fun_mk (st := s_law_rows) l_law_rows c_law_rows k_law_rows
  have F_law_far_row := fun_mk (st := s_law_far_row) l_law_far_row c_law_far_row k_law_far_row
  have F_law_far_rows := fun_mk (st := s_law_far_rows) l_law_far_rows c_law_far_rows k_law_far_rows
  have F_law_told := fun_mk (st := s_law_told) l_law_told c_law_told k_law_told
  have F_law_strange := fun_mk (st := s_law_strange) l_law_strange c_law_strange k_law_strange
  have F_law_strange_right := fun_mk (st := s_law_strange_right) l_law_strange_right c_law_strange_right k_law_strange_right
  have F_law_numbers := fun_mk (st := s_law_numbers) l_law_numbers c_law_numbers k_law_numbers
  have F_law := fun_mk (st := s_law) l_law c_law k_law
  have F_Code_init := fun_mk (st := s_Code_init) l_Code_init c_Code_init k_Code_init
  have F_Machine_init := fun_mk (st := s_Machine_init) l_Machine_init c_Machine_init k_Machine_init
  have F_InvalidCode_init := fun_mk (st := s_InvalidCode_init) l_InvalidCode_init c_InvalidCode_init k_InvalidCode_init
  have F_Work_init := fun_mk (st := s_Work_init) l_Work_init c_Work_init k_Work_init
  have F_Work_zeros := fun_mk (st := s_Work_zeros) l_Work_zeros c_Work_zeros k_Work_zeros
  have F_Work_do_row := fun_mk (st := s_Work_do_row) l_Work_do_row c_Work_do_row k_Work_do_row
  have F_Work_wait := fun_mk (st := s_Work_wait) l_Work_wait c_Work_wait k_Work_wait
  have F_Work_next_fill := fun_mk (st := s_Work_next_fill) l_Work_next_fill c_Work_next_fill k_Work_next_fill
  have F_Work_slot := fun_mk (st := s_Work_slot) l_Work_slot c_Work_slot k_Work_slot
  have b_is_integer := F_is_integer.binds (ps := ["value"]) fun _ _ _ _ _ _ us hl => match us, hl with | [_], _ => rfl
  have b_is_between := F_is_between.binds (ps := ["value", "least", "most"]) fun _ _ _ _ _ _ us hl => match us, hl with | [_, _, _], _ => rfl
  have b_is_small := F_is_small.binds (ps := ["value"]) fun _ _ _ _ _ _ us hl => match us, hl with | [_], _ => rfl
  have b_registers_of := F_registers_of.binds (ps := ["row"]) fun _ _ _ _ _ _ us hl => match us, hl with | [_], _ => rfl
  have b_is_item := F_is_item.binds (ps := ["letter", "value"]) fun _ _ _ _ _ _ us hl => match us, hl with | [_, _], _ => rfl
  have b_is_row := F_is_row.binds (ps := ["row"]) fun _ _ _ _ _ _ us hl => match us, hl with | [_], _ => rfl
  have b_do_set := F_do_set.binds (ps := ["work", "row"]) fun _ _ _ _ _ _ us hl => match us, hl with | [_, _], _ => rfl
  have b_do_copy := F_do_copy.binds (ps := ["work", "row"]) fun _ _ _ _ _ _ us hl => match us, hl with | [_, _], _ => rfl
  have b_do_add := F_do_add.binds (ps := ["work", "row"]) fun _ _ _ _ _ _ us hl => match us, hl with | [_, _], _ => rfl
  have b_do_sub := F_do_sub.binds (ps := ["work", "row"]) fun _ _ _ _ _ _ us hl => match us, hl with | [_, _], _ => rfl
  have b_do_mul := F_do_mul.binds (ps := ["work", "row"]) fun _ _ _ _ _ _ us hl => match us, hl with | [_, _], _ => rfl
  have b_do_left := F_do_left.binds (ps := ["work", "row"]) fun _ _ _ _ _ _ us hl => match us, hl with | [_, _], _ => rfl
  have b_do_right := F_do_right.binds (ps := ["work", "row"]) fun _ _ _ _ _ _ us hl => match us, hl with | [_, _], _ => rfl
  have b_do_load := F_do_load.binds (ps := ["work", "row"]) fun _ _ _ _ _ _ us hl => match us, hl with | [_, _], _ => rfl
  have b_do_store := F_do_store.binds (ps := ["work", "row"]) fun _ _ _ _ _ _ us hl => match us, hl with | [_, _], _ => rfl
  have b_do_skip := F_do_skip.binds (ps := ["work", "row"]) fun _ _ _ _ _ _ us hl => match us, hl with | [_, _], _ => rfl
  have b_results := F_results.binds (ps := ["machine", "code", "starts"]) fun _ _ _ _ _ _ us hl => match us, hl with | [_, _, _], _ => rfl
  have b_check_registers := F_check_registers.binds (ps := ["machine", "code"]) fun _ _ _ _ _ _ us hl => match us, hl with | [_, _], _ => rfl
  have b_law_deal := F_law_deal.binds (ps := ["_law_script", "_law_base"]) fun _ _ _ _ _ _ us hl => match us, hl with | [_, _], _ => rfl
  have b_law_draw := F_law_draw.binds (ps := ["_law_deal_here", "_law_many"]) fun _ _ _ _ _ _ us hl => match us, hl with | [_, _], _ => rfl
  have b_law_number := F_law_number.binds (ps := ["_law_deal_here"]) fun _ _ _ _ _ _ us hl => match us, hl with | [_], _ => rfl
  have b_law_point := F_law_point.binds (ps := ["_law_deal_here", "_law_many"]) fun _ _ _ _ _ _ us hl => match us, hl with | [_, _], _ => rfl
  have b_law_computed := F_law_computed.binds (ps := ["_law_row_here", "_law_numbers_here", "_law_slots", "_law_fill", "_law_width"]) fun _ _ _ _ _ _ us hl => match us, hl with | [_, _, _, _, _], _ => rfl
  have b_law_ran := F_law_ran.binds (ps := ["_law_rows_here", "_law_width", "_law_registers", "_law_inputs", "_law_fills"]) fun _ _ _ _ _ _ us hl => match us, hl with | [_, _, _, _, _], _ => rfl
  have b_law_row := F_law_row.binds (ps := ["_law_deal_here", "_law_registers", "_law_left"]) fun _ _ _ _ _ _ us hl => match us, hl with | [_, _, _], _ => rfl
  have b_law_rows := F_law_rows.binds (ps := ["_law_deal_here", "_law_registers", "_law_many", "_law_skips"]) fun _ _ _ _ _ _ us hl => match us, hl with | [_, _, _, _], _ => rfl
  have b_law_far_row := F_law_far_row.binds (ps := ["_law_deal_here", "_law_registers", "_law_left"]) fun _ _ _ _ _ _ us hl => match us, hl with | [_, _, _], _ => rfl
  have b_law_far_rows := F_law_far_rows.binds (ps := ["_law_deal_here", "_law_registers", "_law_many"]) fun _ _ _ _ _ _ us hl => match us, hl with | [_, _, _], _ => rfl
  have b_law_told := F_law_told.binds (ps := ["_law_machine", "_law_code", "_law_inputs", "_law_fills"]) fun _ _ _ _ _ _ us hl => match us, hl with | [_, _, _, _], _ => rfl
  have b_law_strange := F_law_strange.binds (ps := ["_law_deal_here", "_law_count"]) fun _ _ _ _ _ _ us hl => match us, hl with | [_, _], _ => rfl
  have b_law_strange_right := F_law_strange_right.binds (ps := ["_law_deal_here", "_law_rows_here", "_law_wide"]) fun _ _ _ _ _ _ us hl => match us, hl with | [_, _, _], _ => rfl
  have b_law_numbers := F_law_numbers.binds (ps := ["_law_row_here"]) fun _ _ _ _ _ _ us hl => match us, hl with | [_], _ => rfl
  have b_law := F_law.binds (ps := ["_law_script"]) fun _ _ _ _ _ _ us hl => match us, hl with | [_], _ => rfl
  have b_Code_init := F_Code_init.binds (ps := ["self", "rows"]) fun _ _ _ _ _ _ us hl => match us, hl with | [_, _], _ => rfl
  have b_Machine_init := F_Machine_init.binds (ps := ["self", "width", "registers"]) fun _ _ _ _ _ _ us hl => match us, hl with | [_, _, _], _ => rfl
  have b_InvalidCode_init := F_InvalidCode_init.binds (ps := ["self", "word", "row"]) fun _ _ _ _ _ _ us hl => match us, hl with | [_, _, _], _ => rfl
  have b_Work_init := F_Work_init.binds (ps := ["self", "machine", "starts"]) fun _ _ _ _ _ _ us hl => match us, hl with | [_, _, _], _ => rfl
  have b_Work_zeros := F_Work_zeros.binds (ps := ["self"]) fun _ _ _ _ _ _ us hl => match us, hl with | [_], _ => rfl
  have b_Work_do_row := F_Work_do_row.binds (ps := ["self", "at", "row"]) fun _ _ _ _ _ _ us hl => match us, hl with | [_, _, _], _ => rfl
  have b_Work_wait := F_Work_wait.binds (ps := ["self", "runs", "rows"]) fun _ _ _ _ _ _ us hl => match us, hl with | [_, _, _], _ => rfl
  have b_Work_next_fill := F_Work_next_fill.binds (ps := ["self", "at"]) fun _ _ _ _ _ _ us hl => match us, hl with | [_, _], _ => rfl
  have b_Work_slot := F_Work_slot.binds (ps := ["self", "number"]) fun _ _ _ _ _ _ us hl => match us, hl with | [_, _], _ => rfl
  have T : Glob mg := ⟨PySem.W.mg_none_of X G z_len, PySem.W.mg_none_of X G z_max, PySem.W.mg_none_of X G z_list, PySem.W.mg_none_of X G z_tuple, PySem.W.mg_none_of X G z_reversed, PySem.W.mg_none_of X G z_range, PySem.W.mg_none_of X G z_int, PySem.W.mg_none_of X G z_str, PySem.W.mg_none_of X G z_bool, PySem.W.mg_none_of X G z_isinstance, PySem.W.mg_none_of X G z_all, PySem.W.mg_none_of X G z_enumerate, PySem.W.mg_none_of X G z_zip⟩
  have hFs : ∀ x f, (x, f) ∈ forms → KDct K w aF x (.str f) := by
    intro x f hm
    have q : (x = ("set" : Str) ∧ f = ("WI" : Str)) ∨ (x = ("copy" : Str) ∧ f = ("WR" : Str)) ∨ (x = ("add" : Str) ∧ f = ("WRR" : Str)) ∨ (x = ("sub" : Str) ∧ f = ("WRR" : Str)) ∨ (x = ("mul" : Str) ∧ f = ("WRR" : Str)) ∨ (x = ("left" : Str) ∧ f = ("WR" : Str)) ∨ (x = ("right" : Str) ∧ f = ("WR" : Str)) ∨ (x = ("load" : Str) ∧ f = ("WS" : Str)) ∨ (x = ("store" : Str) ∧ f = ("SR" : Str)) ∨ (x = ("skip" : Str) ∧ f = ("RMCN" : Str)) := by
      unfold forms at hm
      simp only [List.mem_cons, List.not_mem_nil, or_false, Prod.mk.injEq] at hm
      exact hm
    rcases q with ⟨rfl, rfl⟩ | ⟨rfl, rfl⟩ | ⟨rfl, rfl⟩ | ⟨rfl, rfl⟩ | ⟨rfl, rfl⟩ | ⟨rfl, rfl⟩ | ⟨rfl, rfl⟩ | ⟨rfl, rfl⟩ | ⟨rfl, rfl⟩ | ⟨rfl, rfl⟩
    · exact ⟨esF, nF, _, lF, kF, d_set, ⟨_, rfl⟩⟩
    · exact ⟨esF, nF, _, lF, kF, d_copy, ⟨_, rfl⟩⟩
    · exact ⟨esF, nF, _, lF, kF, d_add, ⟨_, rfl⟩⟩
    · exact ⟨esF, nF, _, lF, kF, d_sub, ⟨_, rfl⟩⟩
    · exact ⟨esF, nF, _, lF, kF, d_mul, ⟨_, rfl⟩⟩
    · exact ⟨esF, nF, _, lF, kF, d_left, ⟨_, rfl⟩⟩
    · exact ⟨esF, nF, _, lF, kF, d_right, ⟨_, rfl⟩⟩
    · exact ⟨esF, nF, _, lF, kF, d_load, ⟨_, rfl⟩⟩
    · exact ⟨esF, nF, _, lF, kF, d_store, ⟨_, rfl⟩⟩
    · exact ⟨esF, nF, _, lF, kF, d_skip, ⟨_, rfl⟩⟩
  have T2 : Tabs w K mg := ⟨⟨t1, PySem.W.mg_of X G gl_LIMIT⟩, ⟨t2, PySem.W.mg_of X G gl_ROWS⟩, ⟨t3, PySem.W.mg_of X G gl_REGS⟩, ⟨t4, PySem.W.mg_of X G gl_SLOTS⟩, ⟨aM, PySem.W.mg_of X G gl_MODULI, fun H => .inr ⟨_, itsM, nM, lM, rfl, rfl, ble_size zM, ints_vals sM⟩⟩, ⟨aF, PySem.W.mg_of X G gl_FORMS, ⟨esF, nF, lF, kF, oF⟩, hFs⟩⟩
  have cl_Code : Cls K C_Code := ⟨pg_Code, hd_Code, po_Code, sa_Code⟩
  have cl_Machine : Cls K C_Machine := ⟨pg_Machine, hd_Machine, po_Machine, sa_Machine⟩
  have cl_Work : Cls K C_Work := ⟨pg_Work, hd_Work, po_Work, sa_Work⟩
  have C : WkC K C_Work := ⟨cl_Work, w_mask, w_top, w_many, w_registers, w_slots, w_fills, w_rights, w_at, w_busy, w_waiting⟩
  have D_is_integer : Df P w K mg base 1 "is_integer" ["value"] spInt := ⟨f_is_integer, _, ok_is_integer F_is_integer T, PySem.W.mg_of X G a_is_integer, k_is_integer, b_is_integer⟩
  have D_is_between : Df P w K mg base 2 "is_between" ["value", "least", "most"] spBtw := ⟨f_is_between, _, ok_is_between F_is_between D_is_integer, PySem.W.mg_of X G a_is_between, k_is_between, b_is_between⟩
  have D_is_small : Df P w K mg base 2 "is_small" ["value"] spSmall := ⟨f_is_small, _, ok_is_small F_is_small T2 D_is_integer, PySem.W.mg_of X G a_is_small, k_is_small, b_is_small⟩
  have D_is_item : Df P w K mg base 3 "is_item" ["letter", "value"] spItem := ⟨f_is_item, _, ok_is_item F_is_item T2 D_is_between D_is_small, PySem.W.mg_of X G a_is_item, k_is_item, b_is_item⟩
  have D_is_row : Df P w K mg base 4 "is_row" ["row"] spRow := ⟨f_is_row, _, ok_is_row F_is_row T T2 D_is_item, PySem.W.mg_of X G a_is_row, k_is_row, b_is_row⟩
  have ox : OexC K C_InvalidCode := ⟨⟨nmI, qI, NI, bsI, _, snI, subI, abI, colI, ddI, m0I, m1I, m2I, m3I, m5I, xL, (by show PySem.HandSPX.refsVE [.type "ValueError", .type "Exception", .type "BaseException", .type "object"] = true; decide +kernel)⟩, saI, bI, tI, kI⟩
  have EI : ErrI P w K mg base C_InvalidCode := ⟨f_InvalidCode_init, _, ox, m_InvalidCode_init, y_InvalidCode_init, ok_InvalidCode_init F_InvalidCode_init ox nwI nrI, b_InvalidCode_init, PySem.W.mg_of X G a_InvalidCode⟩
  have CX : CodX P w K mg base C_Code := ⟨f_Code_init, _, ⟨mk_Code, m_Code_init, i_Code_init, kc_Code⟩, ok_Code_init F_Code_init T T2 cl_Code n_rows D_is_row, PySem.W.mg_of X G a_Code, b_Code_init⟩
  have MX : MacX P w K mg base C_Machine := ⟨f_Machine_init, _, ⟨mk_Machine, m_Machine_init, i_Machine_init, kc_Machine⟩, ok_Machine_init F_Machine_init cl_Machine n_width n_registers, PySem.W.mg_of X G a_Machine, b_Machine_init⟩
  have Mz : Mt P w K mg base C_Work 1 "zeros" ["self"] (spZeros C_Work) := ⟨f_Work_zeros, _, ⟨m_Work_zeros, i_Work_zeros, k_Work_zeros⟩, ok_Work_zeros F_Work_zeros T C, b_Work_zeros⟩
  have Mn : Mt P w K mg base C_Work 1 "next_fill" ["self", "at"] (spNext K C_Work) := ⟨f_Work_next_fill, _, ⟨m_Work_next_fill, i_Work_next_fill, k_Work_next_fill⟩, ok_Work_next_fill F_Work_next_fill T C, b_Work_next_fill⟩
  have Ms : Mt P w K mg base C_Work 2 "slot" ["self", "number"] (spSlot C_Work) := ⟨f_Work_slot, _, ⟨m_Work_slot, i_Work_slot, k_Work_slot⟩, ok_Work_slot F_Work_slot T C Mz, b_Work_slot⟩
  have Mw : Mt P w K mg base C_Work 1 "wait" ["self", "runs", "rows"] (spWait C_Work) := ⟨f_Work_wait, _, ⟨m_Work_wait, i_Work_wait, k_Work_wait⟩, ok_Work_wait F_Work_wait T C, b_Work_wait⟩
  have DT : DoT P w K mg base C_Work := ⟨aD, PySem.W.mg_of X G gl_DOING, fun o => by
    cases o with
    | set a n => exact ⟨f_do_set, ⟨esD, nD, _, lD, kD, e_set, rfl⟩, ⟨⟨_, _, ((ok_do_set F_do_set C).mono (by decide)).imp (spDo_mono fun x hx => ⟨a, n, hx⟩), k_do_set, b_do_set⟩⟩⟩
    | copy a b => exact ⟨f_do_copy, ⟨esD, nD, _, lD, kD, e_copy, rfl⟩, ⟨⟨_, _, ((ok_do_copy F_do_copy C).mono (by decide)).imp (spDo_mono fun x hx => ⟨a, b, hx⟩), k_do_copy, b_do_copy⟩⟩⟩
    | add a b c => exact ⟨f_do_add, ⟨esD, nD, _, lD, kD, e_add, rfl⟩, ⟨⟨_, _, ((ok_do_add F_do_add C).mono (by decide)).imp (spDo_mono fun x hx => ⟨a, b, c, hx⟩), k_do_add, b_do_add⟩⟩⟩
    | sub a b c => exact ⟨f_do_sub, ⟨esD, nD, _, lD, kD, e_sub, rfl⟩, ⟨⟨_, _, ((ok_do_sub F_do_sub C).mono (by decide)).imp (spDo_mono fun x hx => ⟨a, b, c, hx⟩), k_do_sub, b_do_sub⟩⟩⟩
    | mul a b c => exact ⟨f_do_mul, ⟨esD, nD, _, lD, kD, e_mul, rfl⟩, ⟨⟨_, _, ((ok_do_mul F_do_mul C).mono (by decide)).imp (spDo_mono fun x hx => ⟨a, b, c, hx⟩), k_do_mul, b_do_mul⟩⟩⟩
    | left a b => exact ⟨f_do_left, ⟨esD, nD, _, lD, kD, e_left, rfl⟩, ⟨⟨_, _, ((ok_do_left F_do_left C).mono (by decide)).imp (spDo_mono fun x hx => ⟨a, b, hx⟩), k_do_left, b_do_left⟩⟩⟩
    | right a b => exact ⟨f_do_right, ⟨esD, nD, _, lD, kD, e_right, rfl⟩, ⟨⟨_, _, ((ok_do_right F_do_right C Mn).mono (by decide)).imp (spDo_mono fun x hx => ⟨a, b, hx⟩), k_do_right, b_do_right⟩⟩⟩
    | load a n => exact ⟨f_do_load, ⟨esD, nD, _, lD, kD, e_load, rfl⟩, ⟨⟨_, _, ((ok_do_load F_do_load C Ms).mono (by decide)).imp (spDo_mono fun x hx => ⟨a, n, hx⟩), k_do_load, b_do_load⟩⟩⟩
    | store n a => exact ⟨f_do_store, ⟨esD, nD, _, lD, kD, e_store, rfl⟩, ⟨⟨_, _, ((ok_do_store F_do_store C Ms).mono (by decide)).imp (spDo_mono fun x hx => ⟨n, a, hx⟩), k_do_store, b_do_store⟩⟩⟩
    | skip a md c n => exact ⟨f_do_skip, ⟨esD, nD, _, lD, kD, e_skip, rfl⟩, ⟨⟨_, _, ((ok_do_skip F_do_skip C Mw).mono (by decide)).imp (spDo_mono fun x hx => ⟨a, md, c, n, hx⟩), k_do_skip, b_do_skip⟩⟩⟩⟩
  have Mr : Mt P w K mg base C_Work 4 "do_row" ["self", "at", "row"] (spDoRow K C_Work) := ⟨f_Work_do_row, _, ⟨m_Work_do_row, i_Work_do_row, k_Work_do_row⟩, ok_Work_do_row F_Work_do_row C DT, b_Work_do_row⟩
  have WX : WorkX P w K mg base C_Work C_Machine := ⟨f_Work_init, _, ⟨mk_Work, m_Work_init, i_Work_init, kc_Work⟩, (ok_Work_init F_Work_init T C ⟨cl_Machine, n_width, n_registers⟩ Mz).imp ini_or, PySem.W.mg_of X G a_Work, b_Work_init⟩
  have D_results : Df P w K mg base 5 "results" ["machine", "code", "starts"] (spResults K C_Machine C_Code) := ⟨f_results, _, ok_results F_results T C WX cl_Code n_rows Mr, PySem.W.mg_of X G a_results, k_results, b_results⟩
  have D_registers_of : Df P w K mg base 1 "registers_of" ["row"] spRegs := ⟨f_registers_of, _, ok_registers_of F_registers_of T T2, PySem.W.mg_of X G a_registers_of, k_registers_of, b_registers_of⟩
  have D_check_registers : Df P w K mg base 2 "check_registers" ["machine", "code"] (spChk C_Machine C_Code) := ⟨f_check_registers, _, ok_check_registers F_check_registers T (PySem.W.mg_none_of X G z_any) cl_Code n_rows cl_Machine n_registers D_registers_of, PySem.W.mg_of X G a_check_registers, k_check_registers, b_check_registers⟩
  have okc := okX_check_registers (cI := C_InvalidCode) F_check_registers T (PySem.W.mg_none_of X G z_any) cl_Code n_rows cl_Machine n_registers EI D_registers_of
  have FD : FunD K "run" "run" (defArgs s_run) (defBody s_run) (defScope s_run) [V.ref aT0] [] f_run (PySem.W.fnOf "run" "run" (defArgs s_run) (defBody s_run) (defScope s_run) (.ref aDf) kV_run dc_run pm_run an_run cd_run ct_run) := ⟨⟨oc_run, od_run, .ref aDf, kV_run, dc_run, pm_run, an_run, cd_run, ct_run, sl_run, rfl, l_run, c_run, .inr ⟨by simp, aDf, _, [.ref aT0], nDf, rfl, l_dflt, rfl, .cons rfl .nil⟩, .inl rfl⟩, k_run⟩
  obtain ⟨b4, ds3, v3, b3⟩ := run_binds FD
  have okr := okX_run FD okc (PySem.W.mg_of X G a_check_registers) k_check_registers b_check_registers
  have ht0 : ∀ H, SqT K H aT0 [] := fun H => .inr ⟨_, #[], nT0, l_t0, rfl, rfl, Nat.zero_le _, .nil⟩
  have D_law_deal : Df P w K mg base 1 "_law_deal" ["_law_script", "_law_base"] (spDeal K) := ⟨f_law_deal, _, ok_law_deal F_law_deal T, PySem.W.mg_of X G a_law_deal, k_law_deal, b_law_deal⟩
  have D_law_draw : Df P w K mg base 1 "_law_draw" ["_law_deal_here", "_law_many"] spDraw := ⟨f_law_draw, _, ok_law_draw F_law_draw T, PySem.W.mg_of X G a_law_draw, k_law_draw, b_law_draw⟩
  have D_law_number : Df P w K mg base 2 "_law_number" ["_law_deal_here"] spNum := ⟨f_law_number, _, ok_law_number F_law_number T D_law_draw, PySem.W.mg_of X G a_law_number, k_law_number, b_law_number⟩
  have D_law_row : Df P w K mg base 3 "_law_row" ["_law_deal_here", "_law_registers", "_law_left"] spRowO := ⟨f_law_row, _, ok_law_row F_law_row T D_law_draw D_law_number, PySem.W.mg_of X G a_law_row, k_law_row, b_law_row⟩
  have D_law_far_row : Df P w K mg base 4 "_law_far_row" ["_law_deal_here", "_law_registers", "_law_left"] spRowO := ⟨f_law_far_row, _, ok_law_far_row F_law_far_row T D_law_draw D_law_row, PySem.W.mg_of X G a_law_far_row, k_law_far_row, b_law_far_row⟩
  have D_law_far_rows : Df P w K mg base 5 "_law_far_rows" ["_law_deal_here", "_law_registers", "_law_many"] (spRowsO []) := ⟨f_law_far_rows, _, ok_law_far_rows F_law_far_rows T D_law_far_row, PySem.W.mg_of X G a_law_far_rows, k_law_far_rows, b_law_far_rows⟩
  have D_law_rows : Df P w K mg base 4 "_law_rows" ["_law_deal_here", "_law_registers", "_law_many", "_law_skips"] (spRowsO [.int 8]) := ⟨f_law_rows, _, ok_law_rows F_law_rows T D_law_row, PySem.W.mg_of X G a_law_rows, k_law_rows, b_law_rows⟩
  have D_law_point : Df P w K mg base 2 "_law_point" ["_law_deal_here", "_law_many"] spPoint := ⟨f_law_point, _, ok_law_point F_law_point T D_law_draw, PySem.W.mg_of X G a_law_point, k_law_point, b_law_point⟩
  have D_law_computed : Df P w K mg base 1 "_law_computed" ["_law_row_here", "_law_numbers_here", "_law_slots", "_law_fill", "_law_width"] spComputed := ⟨f_law_computed, _, ok_law_computed F_law_computed, PySem.W.mg_of X G a_law_computed, k_law_computed, b_law_computed⟩
  have D_law_ran : Df P w K mg base 2 "_law_ran" ["_law_rows_here", "_law_width", "_law_registers", "_law_inputs", "_law_fills"] (spRan K) := ⟨f_law_ran, _, ok_law_ran F_law_ran T D_law_computed, PySem.W.mg_of X G a_law_ran, k_law_ran, b_law_ran⟩
  have D_law_numbers : Df P w K mg base 1 "_law_numbers" ["_law_row_here"] spNumbers := ⟨f_law_numbers, _, ok_law_numbers F_law_numbers T, PySem.W.mg_of X G a_law_numbers, k_law_numbers, b_law_numbers⟩
  have D_law_strange : Df P w K mg base 2 "_law_strange" ["_law_deal_here", "_law_count"] spStrange := ⟨f_law_strange, _, ok_law_strange F_law_strange D_law_draw, PySem.W.mg_of X G a_law_strange, k_law_strange, b_law_strange⟩
  have D_law_told : Df P w K mg base 5 "_law_told" ["_law_machine", "_law_code", "_law_inputs", "_law_fills"] (spTold C_Machine C_Code) := ⟨f_law_told, _, ok_law_told F_law_told (PySem.W.mg_of X G a_InvalidCode) (PySem.W.exm_ref bI dI tI sII) ⟨gI, hI, bI, dI⟩ nwI nrI okr (PySem.W.mg_of X G a_run) k_run b4, PySem.W.mg_of X G a_law_told, k_law_told, b_law_told⟩
  have D_law_strange_right : Df P w K mg base 7 "_law_strange_right" ["_law_deal_here", "_law_rows_here", "_law_wide"] spSR := ⟨f_law_strange_right, _, ok_law_strange_right F_law_strange_right T MX CX D_law_draw D_law_numbers D_law_strange D_law_told, PySem.W.mg_of X G a_law_strange_right, k_law_strange_right, b_law_strange_right⟩
  exact ok_law F_law T (PySem.W.mg_none_of X G z_repr) MX CX cl_Code n_rows ht0 D_law_deal D_law_draw D_law_far_rows D_law_rows D_law_point D_law_ran (⟨f_run, _, ok_run FD D_check_registers D_results, PySem.W.mg_of X G a_run, k_run, b4⟩ : Df P w K mg base 6 "run" ["machine", "code", "inputs", "fills"] (spRun K C_Machine C_Code)) v3 b3 D_law_strange_right
end My

set_option Elab.async false
set_option linter.all false
set_option maxRecDepth 100000
set_option maxHeartbeats 1000000
namespace My
open PySem L2 MyR RT
theorem walk {l : PySem.W.OpenLaw} {q : Program} {loose : List Str} {XP : (Str → Option Value) → Heap → Prop} {YP : World → Heap → Prop} {d : DefRec} {K : Params → PySem.W.Frag} (hn : l.most = some 63) (hdf : d.params.defaults = [])
    (hY : ∀ (w : World) (h : Heap), YP w h → (K w.params).In h)
    (F : ∀ (w : World) (mg : Str → Option Value) (fa : Addr) (h : Heap), (K w.params).In h → h.Ns mainGlobals mg → mg d.name = some (.ref fa) →
      ∃ fd : FuncData, (∀ (s : Shared) (u : Value), BindsTo s fd ⟨[u], []⟩ [("_law_script", u)]) ∧ ∀ base : Heap, (K w.params).In base → base.Ns mainGlobals mg → FnOk l.prog w (K w.params) mg base CX0 8 fa fd ["_law_script"] (spLaw (K w.params))) :
    PySem.W.WalkO q loose XP YP l.row.toRowW d [] (fun f vs => PySem.call f vs) :=
  L2.walk_of (n := 63) (k := 8) (x := "_law_script") (CX := fun _ => CX0) (sp := fun w => spLaw (K w.params)) hn (by decide) hdf ⟨rfl, by decide, by decide⟩ hY F (fun _ _ a ns hl _ hS => ⟨a, ns, rfl, hS, hl, fun _ => rfl⟩) fun _ _ _ _ _ z => z
end My
open PySem PySem.W PyProof.Rows
set_option pp.maxSteps 300 in
set_option maxRecDepth 100000 in
set_option maxHeartbeats 0 in
theorem PySem.Challenge.cw_lowsure_k57_code_that_is_run_holds : PySem.Challenge.rw_lowsure_k57_code_that_is_run.Holds := by
  w_on; o_law; k_head; (case hw => w_witness2)
  k_fill
  refine My.walk (l := PySem.Challenge.rw_lowsure_k57_code_that_is_run) rfl rfl (fun w h Y => PySem.W.kIn_of Y) ?F
  case F =>
    intro w mg fa h KX G hmg
    refine' My.all_mk KX G hmg ?a_is_integer ?l_is_integer ?c_is_integer ?k_is_integer ?a_is_between ?l_is_between ?c_is_between ?k_is_between ?a_is_small ?l_is_small ?c_is_small ?k_is_small ?a_registers_of ?l_registers_of ?c_registers_of ?k_registers_of ?a_is_item ?l_is_item ?c_is_item ?k_is_item ?a_is_row ?l_is_row ?c_is_row ?k_is_row ?a_do_set ?l_do_set ?c_do_set ?k_do_set ?a_do_copy ?l_do_copy ?c_do_copy ?k_do_copy ?a_do_add ?l_do_add ?c_do_add ?k_do_add ?a_do_sub ?l_do_sub ?c_do_sub ?k_do_sub ?a_do_mul ?l_do_mul ?c_do_mul ?k_do_mul ?a_do_left ?l_do_left ?c_do_left ?k_do_left ?a_do_right ?l_do_right ?c_do_right ?k_do_right ?a_do_load ?l_do_load ?c_do_load ?k_do_load ?a_do_store ?l_do_store ?c_do_store ?k_do_store ?a_do_skip ?l_do_skip ?c_do_skip ?k_do_skip ?a_results ?l_results ?c_results ?k_results ?a_check_registers ?l_check_registers ?c_check_registers ?k_check_registers ?a_law_deal ?l_law_deal ?c_law_deal ?k_law_deal ?a_law_draw ?l_law_draw ?c_law_draw ?k_law_draw ?a_law_number ?l_law_number ?c_law_number ?k_law_number ?a_law_point ?l_law_point ?c_law_point ?k_law_point ?a_law_computed ?l_law_computed ?c_law_computed ?k_law_computed ?a_law_ran ?l_law_ran ?c_law_ran ?k_law_ran ?a_law_row ?l_law_row ?c_law_row ?k_law_row ?a_law_rows ?l_law_rows ?c_law_rows ?k_law_rows ?a_law_far_row ?l_law_far_row ?c_law_far_row ?k_law_far_row ?a_law_far_rows ?l_law_far_rows ?c_law_far_rows ?k_law_far_rows ?a_law_told ?l_law_told ?c_law_told ?k_law_told ?a_law_strange ?l_law_strange ?c_law_strange ?k_law_strange ?a_law_strange_right ?l_law_strange_right ?c_law_strange_right ?k_law_strange_right ?a_law_numbers ?l_law_numbers ?c_law_numbers ?k_law_numbers ?a_law ?l_law ?c_law ?k_law ?a_run ?l_run ?c_run ?k_run ?l_dflt ?l_t0 ?a_Code ?a_Machine ?a_InvalidCode ?a_Work ?m_Code_init ?l_Code_init ?c_Code_init ?k_Code_init ?i_Code_init ?m_Machine_init ?l_Machine_init ?c_Machine_init ?k_Machine_init ?i_Machine_init ?m_InvalidCode_init ?l_InvalidCode_init ?c_InvalidCode_init ?k_InvalidCode_init ?y_InvalidCode_init ?m_Work_init ?l_Work_init ?c_Work_init ?k_Work_init ?i_Work_init ?m_Work_zeros ?l_Work_zeros ?c_Work_zeros ?k_Work_zeros ?i_Work_zeros ?m_Work_do_row ?l_Work_do_row ?c_Work_do_row ?k_Work_do_row ?i_Work_do_row ?m_Work_wait ?l_Work_wait ?c_Work_wait ?k_Work_wait ?i_Work_wait ?m_Work_next_fill ?l_Work_next_fill ?c_Work_next_fill ?k_Work_next_fill ?i_Work_next_fill ?m_Work_slot ?l_Work_slot ?c_Work_slot ?k_Work_slot ?i_Work_slot ?pg_Code ?hd_Code ?po_Code ?sa_Code ?mk_Code ?kc_Code ?pg_Machine ?hd_Machine ?po_Machine ?sa_Machine ?mk_Machine ?kc_Machine ?pg_Work ?hd_Work ?po_Work ?sa_Work ?mk_Work ?kc_Work ?n_rows ?n_width ?n_registers ?w_mask ?w_top ?w_many ?w_registers ?w_slots ?w_fills ?w_rights ?w_at ?w_busy ?w_waiting ?xL ?saI ?kI ?bI ?tI ?gI ?hI ?dI ?nwI ?nrI ?sII ?gl_LIMIT ?gl_ROWS ?gl_REGS ?gl_SLOTS ?gl_MODULI ?gl_FORMS ?gl_DOING ?lM ?sM ?zM ?lF ?kF ?oF ?lD ?kD ?d_set ?d_copy ?d_add ?d_sub ?d_mul ?d_left ?d_right ?d_load ?d_store ?d_skip ?e_set ?e_copy ?e_add ?e_sub ?e_mul ?e_left ?e_right ?e_load ?e_store ?e_skip ?z_len ?z_max ?z_list ?z_tuple ?z_reversed ?z_range ?z_int ?z_str ?z_bool ?z_isinstance ?z_all ?z_enumerate ?z_zip ?z_any ?z_repr
    (case a_is_integer => k_is)
    (case l_is_integer => k_is)
    (case c_is_integer => k_is)
    (case k_is_integer => k_is)
    (case a_is_between => k_is)
    (case l_is_between => k_is)
    (case c_is_between => k_is)
    (case k_is_between => k_is)
    (case a_is_small => k_is)
    (case l_is_small => k_is)
    (case c_is_small => k_is)
    (case k_is_small => k_is)
    (case a_registers_of => k_is)
    (case l_registers_of => k_is)
    (case c_registers_of => k_is)
    (case k_registers_of => k_is)
    (case a_is_item => k_is)
    (case l_is_item => k_is)
    (case c_is_item => k_is)
    (case k_is_item => k_is)
    (case a_is_row => k_is)
    (case l_is_row => k_is)
    (case c_is_row => k_is)
    (case k_is_row => k_is)
    (case a_do_set => k_is)
    (case l_do_set => k_is)
    (case c_do_set => k_is)
    (case k_do_set => k_is)
    (case a_do_copy => k_is)
    (case l_do_copy => k_is)
    (case c_do_copy => k_is)
    (case k_do_copy => k_is)
    (case a_do_add => k_is)
    (case l_do_add => k_is)
    (case c_do_add => k_is)
    (case k_do_add => k_is)
    (case a_do_sub => k_is)
    (case l_do_sub => k_is)
    (case c_do_sub => k_is)
    (case k_do_sub => k_is)
    (case a_do_mul => k_is)
    (case l_do_mul => k_is)
    (case c_do_mul => k_is)
    (case k_do_mul => k_is)
    (case a_do_left => k_is)
    (case l_do_left => k_is)
    (case c_do_left => k_is)
    (case k_do_left => k_is)
    (case a_do_right => k_is)
    (case l_do_right => k_is)
    (case c_do_right => k_is)
    (case k_do_right => k_is)
    (case a_do_load => k_is)
    (case l_do_load => k_is)
    (case c_do_load => k_is)
    (case k_do_load => k_is)
    (case a_do_store => k_is)
    (case l_do_store => k_is)
    (case c_do_store => k_is)
    (case k_do_store => k_is)
    (case a_do_skip => k_is)
    (case l_do_skip => k_is)
    (case c_do_skip => k_is)
    (case k_do_skip => k_is)
    (case a_results => k_is)
    (case l_results => k_is)
    (case c_results => k_is)
    (case k_results => k_is)
    (case a_check_registers => k_is)
    (case l_check_registers => k_is)
    (case c_check_registers => k_is)
    (case k_check_registers => k_is)
    (case a_law_deal => k_is)
    (case l_law_deal => k_is)
    (case c_law_deal => k_is)
    (case k_law_deal => k_is)
    (case a_law_draw => k_is)
    (case l_law_draw => k_is)
    (case c_law_draw => k_is)
    (case k_law_draw => k_is)
    (case a_law_number => k_is)
    (case l_law_number => k_is)
    (case c_law_number => k_is)
    (case k_law_number => k_is)
    (case a_law_point => k_is)
    (case l_law_point => k_is)
    (case c_law_point => k_is)
    (case k_law_point => k_is)
    (case a_law_computed => k_is)
    (case l_law_computed => k_is)
    (case c_law_computed => k_is)
    (case k_law_computed => k_is)
    (case a_law_ran => k_is)
    (case l_law_ran => k_is)
    (case c_law_ran => k_is)
    (case k_law_ran => k_is)
    (case a_law_row => k_is)
    (case l_law_row => k_is)
    (case c_law_row => k_is)
    (case k_law_row => k_is)
    (case a_law_rows => k_is)
    (case l_law_rows => k_is)
    (case c_law_rows => k_is)
    (case k_law_rows => k_is)
    (case a_law_far_row => k_is)
    (case l_law_far_row => k_is)
    (case c_law_far_row => k_is)
    (case k_law_far_row => k_is)
    (case a_law_far_rows => k_is)
    (case l_law_far_rows => k_is)
    (case c_law_far_rows => k_is)
    (case k_law_far_rows => k_is)
    (case a_law_told => k_is)
    (case l_law_told => k_is)
    (case c_law_told => k_is)
    (case k_law_told => k_is)
    (case a_law_strange => k_is)
    (case l_law_strange => k_is)
    (case c_law_strange => k_is)
    (case k_law_strange => k_is)
    (case a_law_strange_right => k_is)
    (case l_law_strange_right => k_is)
    (case c_law_strange_right => k_is)
    (case k_law_strange_right => k_is)
    (case a_law_numbers => k_is)
    (case l_law_numbers => k_is)
    (case c_law_numbers => k_is)
    (case k_law_numbers => k_is)
    (case a_law => k_is)
    (case l_law => k_is)
    (case c_law => k_is)
    (case k_law => k_is)
    (case a_run => k_is)
    (case l_run => k_is)
    (case c_run => k_is)
    (case k_run => k_is)
    (case l_dflt => k_is)
    (case l_t0 => k_is)
    (case a_Code => k_is)
    (case a_Machine => k_is)
    (case a_InvalidCode => k_is)
    (case a_Work => k_is)
    (case m_Code_init => k_is)
    (case l_Code_init => k_is)
    (case c_Code_init => k_is)
    (case k_Code_init => k_is)
    (case i_Code_init => k_is)
    (case m_Machine_init => k_is)
    (case l_Machine_init => k_is)
    (case c_Machine_init => k_is)
    (case k_Machine_init => k_is)
    (case i_Machine_init => k_is)
    (case m_InvalidCode_init => k_is)
    (case l_InvalidCode_init => k_is)
    (case c_InvalidCode_init => k_is)
    (case k_InvalidCode_init => k_is)
    (case y_InvalidCode_init => k_is)
    (case m_Work_init => k_is)
    (case l_Work_init => k_is)
    (case c_Work_init => k_is)
    (case k_Work_init => k_is)
    (case i_Work_init => k_is)
    (case m_Work_zeros => k_is)
    (case l_Work_zeros => k_is)
    (case c_Work_zeros => k_is)
    (case k_Work_zeros => k_is)
    (case i_Work_zeros => k_is)
    (case m_Work_do_row => k_is)
    (case l_Work_do_row => k_is)
    (case c_Work_do_row => k_is)
    (case k_Work_do_row => k_is)
    (case i_Work_do_row => k_is)
    (case m_Work_wait => k_is)
    (case l_Work_wait => k_is)
    (case c_Work_wait => k_is)
    (case k_Work_wait => k_is)
    (case i_Work_wait => k_is)
    (case m_Work_next_fill => k_is)
    (case l_Work_next_fill => k_is)
    (case c_Work_next_fill => k_is)
    (case k_Work_next_fill => k_is)
    (case i_Work_next_fill => k_is)
    (case m_Work_slot => k_is)
    (case l_Work_slot => k_is)
    (case c_Work_slot => k_is)
    (case k_Work_slot => k_is)
    (case i_Work_slot => k_is)
    (case pg_Code => k_is)
    (case hd_Code => k_is)
    (case po_Code => k_is)
    (case sa_Code => k_is)
    (case mk_Code => k_is)
    (case kc_Code => k_is)
    (case pg_Machine => k_is)
    (case hd_Machine => k_is)
    (case po_Machine => k_is)
    (case sa_Machine => k_is)
    (case mk_Machine => k_is)
    (case kc_Machine => k_is)
    (case pg_Work => k_is)
    (case hd_Work => k_is)
    (case po_Work => k_is)
    (case sa_Work => k_is)
    (case mk_Work => k_is)
    (case kc_Work => k_is)
    (case n_rows => k_is)
    (case n_width => k_is)
    (case n_registers => k_is)
    (case w_mask => k_is)
    (case w_top => k_is)
    (case w_many => k_is)
    (case w_registers => k_is)
    (case w_slots => k_is)
    (case w_fills => k_is)
    (case w_rights => k_is)
    (case w_at => k_is)
    (case w_busy => k_is)
    (case w_waiting => k_is)
    (case xL => k_is)
    (case saI => k_is)
    (case kI => k_is)
    (case bI => k_is)
    (case tI => k_is)
    (case gI => k_is)
    (case hI => k_is)
    (case dI => k_is)
    (case nwI => k_is)
    (case nrI => k_is)
    (case sII => k_is)
    (case gl_LIMIT => k_is)
    (case gl_ROWS => k_is)
    (case gl_REGS => k_is)
    (case gl_SLOTS => k_is)
    (case gl_MODULI => k_is)
    (case gl_FORMS => k_is)
    (case gl_DOING => k_is)
    (case lM => k_is)
    (case sM => kernel_rfl)
    (case zM => kernel_rfl)
    (case lF => k_is)
    (case kF => k_keys)
    (case oF => decide)
    (case lD => k_is)
    (case kD => k_keys)
    (case d_set => k_is)
    (case d_copy => k_is)
    (case d_add => k_is)
    (case d_sub => k_is)
    (case d_mul => k_is)
    (case d_left => k_is)
    (case d_right => k_is)
    (case d_load => k_is)
    (case d_store => k_is)
    (case d_skip => k_is)
    (case e_set => k_is)
    (case e_copy => k_is)
    (case e_add => k_is)
    (case e_sub => k_is)
    (case e_mul => k_is)
    (case e_left => k_is)
    (case e_right => k_is)
    (case e_load => k_is)
    (case e_store => k_is)
    (case e_skip => k_is)
    (case z_len => k_is)
    (case z_max => k_is)
    (case z_list => k_is)
    (case z_tuple => k_is)
    (case z_reversed => k_is)
    (case z_range => k_is)
    (case z_int => k_is)
    (case z_str => k_is)
    (case z_bool => k_is)
    (case z_isinstance => k_is)
    (case z_all => k_is)
    (case z_enumerate => k_is)
    (case z_zip => k_is)
    (case z_any => k_is)
    (case z_repr => k_is)
