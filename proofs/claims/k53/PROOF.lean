import PyProof.Rows.All
import Wide.All
import OpenK.AllK
import Wide.FinOn
import HandS.ForMost
import HandS.Rev
import HandS.Walk
import KE.GoesMore
import KE.GoesEnum
import KE.GoesZip
import HandS.Wide
import PySem.Challenge.RW_lowsure_k53_code_and_machines
import PyProof.InstNe
import HandS.More
import HandS.OwnEq
import OpenK.KOps
import PyProof.ReprRoads
import PyProof.ReprReads
import PyProof.CallFns
import HandS.Ends
import HandS.IsInst
import HandS.Small
import HandS.ExcIs
import HandS.ExcField
import KE.KExcIs
import HandS.Exc
import HandS.ExcInit
import HandS.WordsExc
import HandS.ExcOwn
import HandS.Iter
import HandS.NoneIn
import PyProof.CallStr
import HandS.Text
import HandS.TupAny
import HandS.Style
set_option Elab.async false
set_option linter.all false
set_option maxRecDepth 100000
set_option maxHeartbeats 1000000
namespace MyR
open PySem PySem.Spec PyProof.Rows L2 RT
section
variable {prog : Program} {w : World} {A : Around} {E : Value → Shared → Prop} {s : Shared}
theorem extend_rev {R : Result → Shared → Prop} {S it l : Addr} {items : Array Value} {res : Value} {c0 : Nat} (hh : A.handled = none) (hit : s.heap.IsRevIter it l ((items.size : Int) - 1)) (hl : s.heap.IsList l items) (hne : l ≠ it) (hSi : S ≠ it) (hSl : S ≠ l) (hn : items.size ≤ sizeLine)
    (hS : s.heap.get? S = some { cls := .type "list", data := .seq #[] c0 })
    (hR : ∀ (s' : Shared) (acc : Array Value) (c' : Nat), (∀ b o, b ≠ it → b ≠ S → s.heap.get? b = some o → s'.heap.get? b = some o) → s' = { s with heap := s'.heap, toks := s'.toks } → s'.heap.get? S = some { cls := .type "list", dict := none, data := .seq acc c', slots := #[] } →
      ItemsOf (fun i v => items[items.size - 1 - i]? = some v) acc items.size → R (.ok (.ret res)) s') :
    wpAny (model prog w) A.in1 (Builtin.List.listExtendWith (.ref S) (.ref it) res)
      (fun fin s' => match fin with | .done f => R (.ok f) s' | .again c' => c'.quiet = true ∧ codeAny (model prog w) A c' R s') (fun e s' => R (.error e) s') s := by
  have W := (Walks.listRev (prog := prog) (w := w) (A := A.in1) hh it l hne items).toS
  have hSf : S ∉ [it, l] := by simp only [List.mem_cons, List.not_mem_nil, or_false, not_or]; exact ⟨hSi, hSl⟩
  have hT : s.TypeIs (.ref it) "list_reverseiterator" := hit.typeIs
  have h1 : Builtin.List.listSameRef (.ref S) (.ref it) = false := by simp [Builtin.List.listSameRef, hSi]
  unfold Builtin.List.listExtendWith
  refine wpAny_bind (wpAny_typeOf hT ?_)
  rw [if_neg (by rw [h1]; decide)]
  refine wpAny_bind (wpAny_pyIter_revIter hit ?_)
  refine wpAny_bind (wpAny_holding ?_)
  unfold Builtin.List.listLengthHint
  refine wpAny_bind (wpAny_specialOf hT nolen_lri ?_)
  show wpAny _ A.in1 (specialOf (Value.ref it) (Str.ofString "__length_hint__") >>= _) _ _ _
  refine wpAny_bind (wpAny_specialOf hT hint_lri ?_)
  generalize hid : ("list_reverseiterator.__length_hint__" : String) = id0
  wp_delta
  rw [show splitId id0 = some ("list_reverseiterator", "__length_hint__") from by subst hid; decide +kernel]
  subst hid
  refine wpAny_bind (wpAny_isInstance (b := true) hT (by rw [isSubtype_type]; kernel_rfl) ?_)
  refine wpAny_pure ?_
  rw [if_neg (by decide)]
  have e0 : ((items.size : Nat) : Int) - 1 - ((0 : Nat) : Int) = (items.size : Int) - 1 := by omega
  refine wpAny_pure ⟨plainId_quiet F.plain_extend_loop _, codeAny_extend_loopS W hn _ hSf _ items.size 0 _ _ _ rfl (Nat.zero_le _) ⟨Nat.zero_le _, by rw [e0]; exact hit, hl⟩ hS (ItemsOf.nil _) fun s' acc' c' hm hS' hacc => ?_⟩
  refine hR s' acc' c' (fun b o hb hb2 e => hm.heap b o (fun hmem => ?_) e) (Moved.eq_with hm) hS' hacc
  rcases List.mem_cons.mp hmem with e' | hmem
  · exact hb2 e'
  · exact hb (List.mem_singleton.mp hmem)
theorem list_init_rev {R : Result → Shared → Prop} {S it l : Addr} {items : Array Value} (hh : A.handled = none) (hit : s.heap.IsRevIter it l ((items.size : Int) - 1)) (hl : s.heap.IsList l items) (hne : l ≠ it) (hSi : S ≠ it) (hSl : S ≠ l) (hn : items.size ≤ sizeLine)
    (hS : s.heap.get? S = some { cls := .type "list", data := .seq #[] })
    (hR : ∀ (s' : Shared) (acc : Array Value) (c' : Nat), (∀ b o, b ≠ it → b ≠ S → s.heap.get? b = some o → s'.heap.get? b = some o) → s' = { s with heap := s'.heap, toks := s'.toks } → s'.heap.get? S = some { cls := .type "list", dict := none, data := .seq acc c', slots := #[] } →
      ItemsOf (fun i v => items[items.size - 1 - i]? = some v) acc items.size → R (.ok (.ret .none)) s') :
    wpAny (model prog w) A.in1 (Builtin.«list.__init__» ⟨[.ref S, .ref it], []⟩)
      (fun fin s' => match fin with | .done f => R (.ok f) s' | .again c' => c'.quiet = true ∧ codeAny (model prog w) A c' R s') (fun e s' => R (.error e) s') s := by
  show wpAny _ A.in1 (do let old ← Builtin.List.listItems (.ref S); Builtin.List.listUpdate (.ref S) (fun _ => #[]); letGo old.toList.reverse; Builtin.List.listExtendWith (.ref S) (.ref it) .none) _ _ s
  refine wpAny_bind ?_
  unfold Builtin.List.listItems
  refine wpAny_bind (wpAny_seqItems hS rfl (wpAny_pure ?_))
  show wpAny _ A.in1 (updateSeq S (fun _ => #[]) >>= fun _ => letGo (#[] : Array Value).toList.reverse >>= fun _ => Builtin.List.listExtendWith (.ref S) (.ref it) .none) _ _ s
  refine wpAny_bind (wpAny_updateSeq hS rfl ?_)
  have hS2 := Heap.get?_update_self (Obj.mapSeq (fun _ => (#[] : Array Value))) hS rfl
  have oth : ∀ b o, b ≠ S → s.heap.get? b = some o → (s.heap.update S (Obj.mapSeq (fun _ => (#[] : Array Value)))).get? b = some o :=
    fun b o hb e => (Heap.get?_update_other _ _ (Ne.symm hb)).trans e
  refine wpAny_bind (wpAny_letGo ?_)
  refine extend_rev hh (hit.at fun o e => oth it o (Ne.symm hSi) e) (hl.at fun o e => oth l o (Ne.symm hSl) e) hne hSi hSl hn hS2 fun s' acc c' hk hs hS' hi => ?_
  refine hR s' acc c' (fun b o h1 h2 e => hk b o h1 h2 (oth b o h2 e)) ?_ hS' hi
  exact hs
theorem call_list_rev {it l : Addr} {items : Array Value} {Q : Value → Shared → Prop} (hh : A.handled = none) (hit : s.heap.IsRevIter it l ((items.size : Int) - 1)) (hl : s.heap.IsList l items) (hne : l ≠ it) (hn : items.size ≤ sizeLine)
    (hQ : ∀ (s' : Shared) (acc : Array Value) (c' : Nat), (∀ b o, b ≠ it → s.heap.get? b = some o → s'.heap.get? b = some o) → s' = { s with heap := s'.heap, toks := s'.toks } → s'.heap.get? s.heap.objs.size = some { cls := .type "list", dict := none, data := .seq acc c', slots := #[] } →
      ItemsOf (fun i v => items[items.size - 1 - i]? = some v) acc items.size → Q (.ref s.heap.objs.size) s') :
    wpAny (model prog w) A (call (.type "list") [.ref it]) Q E s := by
  obtain ⟨oi, hoi, _⟩ := id hit
  obtain ⟨ol, hol, _⟩ := id hl
  have hSi : s.heap.objs.size ≠ it := Nat.ne_of_gt (Heap.lt_size hoi)
  have hSl : s.heap.objs.size ≠ l := Nat.ne_of_gt (Heap.lt_size hol)
  refine callType_codes (Q₁ := fun obj s₁ => obj = .ref s.heap.objs.size ∧ s₁ = { s with heap := s.heap.push { cls := .type "list", data := .seq #[] } }) F.called_list (F.typeCall_list_1 _) F.entry_list_init
    (code_list_new _ ⟨rfl, rfl⟩) fun obj s₁ h₁ => ?_
  obtain ⟨rfl, rfl⟩ := h₁
  have hS : (s.heap.push { cls := .type "list", data := .seq #[] }).get? s.heap.objs.size = some { cls := .type "list", data := .seq #[] } := Heap.get?_push_size _ rfl
  refine ⟨⟨_, hS, rfl⟩, F.args_list_init_2 _ _, list_init_rev (A := A.in1) hh (hit.at fun o e => Heap.get?_push_of_some _ e) (hl.push _) hne hSi hSl hn hS fun s' acc c' hk hs hS' hi => ?_⟩
  exact ⟨rfl, hQ s' acc c' (fun b o hb e => hk b o hb (Nat.ne_of_lt (Heap.lt_size e)) (Heap.get?_push_of_some _ e)) hs hS' hi⟩
end
/-- list(reversed(x)), x a list: a new list -/
def tLstRev (K : PySem.W.Frag) (te : TE) : TE := fun σ H Q => te σ H fun v H1 => ∃ (a : Addr) (xs : List V), v = .ref a ∧ SqL K H1 a xs ∧ ∀ q, H1 q = none → Q (.ref q) (upd H1 q (.lst xs.reverse))
section
variable {X : Cx}
theorem pe_lstRev {e : Expr} {te : TE} {p p2 pos pos2 : Pos} (hc : X.calm = true) (hg : Gl X "list") (hm : X.mg "list" = none) (hg2 : Gl X "reversed") (hm2 : X.mg "reversed" = none) (he : PE X e te)
    (hs : starEach [e] X.env = (false, eval e X.env) :: starEach [] X.env := by rfl)
    (hs2 : starEach [.Call (.Name "reversed" p2) [e] [] pos2] X.env = (false, eval (.Call (.Name "reversed" p2) [e] [] pos2) X.env) :: starEach [] X.env := by rfl) :
    PE X (.Call (.Name "list" p) [.Call (.Name "reversed" p2) [e] [] pos2] [] pos) (tLstRev X.K te) := by
  refine ⟨fun pins s σ H Q I h => ?_⟩
  refine Call_ (ld_blt I hg hm (show bootBuiltins "list" = some (.type "list") by decide +kernel) (PyProof.Rows.callWith_type1 (args_cons (Call_ (ld_blt I hg2 hm2 PyProof.Rows.boot_reversed (PyProof.Rows.callWith_type1 (args_cons (thn (he.run pins s σ H _ I h) fun u s1 ⟨v, H1, I1, r1, q1⟩ => args_nil ?_) hs) hs rfl))) hs2) hs2 rfl))
  obtain ⟨a, xs, ev, hq, q⟩ := q1
  subst ev
  obtain rfl : u = Value.ref a := r1
  obtain ⟨its, rv, p', hz⟩ := I1.list hq
  refine call_reversed_list p'.isList (args_nil ?_)
  have k0 : ∀ b o, s1.heap.get? b = some o → (s1.heap.push (revObj a ((its.toArray.size : Int) - 1))).get? b = some o := fun b o e => Heap.get?_push_of_some _ e
  have hl := p'.isList
  obtain ⟨ol, hol, _⟩ := id hl
  have hne : a ≠ s1.heap.objs.size := Nat.ne_of_lt (Heap.lt_size hol)
  have hn : its.toArray.size ≤ sizeLine := by rw [List.size_toArray, ← rv.length]; exact hz
  refine call_list_rev (s := { s1 with heap := s1.heap.push (revObj a ((its.toArray.size : Int) - 1)) }) (I1.ok.hd hc) ⟨_, Heap.get?_push_size _ rfl, rfl, rfl⟩ (hl.push _) hne hn fun s' acc c' hk hs' hS' hi => ?_
  have kk : ∀ b o, s1.heap.get? b = some o → s'.heap.get? b = some o := fun b o e => hk b o (Nat.ne_of_lt (Heap.lt_size e)) (k0 b o e)
  have hsz : s1.heap.objs.size ≤ (s1.heap.push (revObj a ((its.toArray.size : Int) - 1))).objs.size := by rw [Heap.size_push]; exact Nat.le_succ _
  have J := I1.laid (a := (s1.heap.push (revObj a ((its.toArray.size : Int) - 1))).objs.size) (o := .lst xs.reverse) (h' := s'.heap) (t' := s'.toks) kk hsz
    (show ObjOk X.prog X.w _ _ _ (.lst xs.reverse) from ⟨by rw [List.length_reverse]; exact hz, acc.toList, c', vals_rev rv hi, by rw [Array.toArray_toList]; exact hS'⟩)
  rw [hs']
  exact ⟨.ref _, _, J, rfl, q _ (I1.hok.fresh hsz)⟩
end
end MyR

set_option Elab.async false
set_option linter.all false
set_option maxRecDepth 100000
set_option maxHeartbeats 1000000
namespace MyR
open PySem PySem.Spec PyProof.Rows L2

/-! ### what gives new pairs over things that stand: enumerate(tuple), zip(text, tuple), told once -/
/-- at turn i a walk of n turns is at hand whose next pair is of x and y -/
def PairAt (P : Program) (w : World) (A : Around) (I : Addr) (cs : List Addr) (own : Nat → Heap → Prop) (h : Heap) (i : Nat) (x y : V) (more : Prop) : Prop :=
  ∃ (n : Nat) (wr fp : List Addr) (Pt : Nat → Array Value → Prop) (St : Nat → Heap → Prop) (Mid : Nat → Addr → Heap → Prop), WalksT P w A I fp wr n Pt St Mid ∧ (∀ b ∈ wr, b ∈ cs) ∧ St i h ∧ (∀ j g, St j g → own j g) ∧
    ((more → i < n ∧ ∀ vals, Pt i vals → ∃ u v, vals = #[u, v] ∧ RelV x u ∧ RelV y v) ∧ (¬ more → i = n))
theorem turn_pairs {P : Program} {w : World} {K : PySem.W.Frag} {elts : List Expr} {kk : Nat} {tpos : Pos} {I : Addr} {cs : List Addr} {J : It} {own : Nat → Heap → Prop} (hI : I ∈ cs)
    (cells : ∀ i h, own i h → ∀ b ∈ cs, ∃ o, h.get? b = some o ∧ ∀ v, o.data ≠ .cell v)
    (stays : ∀ i g g', own i g → (∀ b ∈ cs, ∀ o, g.get? b = some o → g'.get? b = some o) → own i g')
    (again : ∀ (A : Around) (i : Nat) (s : Shared) (Q E : Value → Shared → Prop), own i s.heap → Q (.ref I) s → wpAny (model P w) A (pyIter (.ref I)) Q E s)
    (goes : ∀ (X : Cx) (pins : List (Addr × Obj)) (s : Shared) (σ : L2.St) (H : Hp) (i : Nat), X.prog = P → X.w = w → X.K = K → X.A.handled = none → Inv X pins σ H s → own i s.heap → J.go i H →
      ∃ x y, PairAt P w X.A I cs own s.heap i x y True ∧ ∀ T, H T = none → J.yld i H (.ref T) (upd H T (.tup [x, y])))
    (ends : ∀ (X : Cx) (pins : List (Addr × Obj)) (s : Shared) (σ : L2.St) (H : Hp) (i : Nat), X.prog = P → X.w = w → X.K = K → X.A.handled = none → Inv X pins σ H s → own i s.heap → J.stop i H → PairAt P w X.A I cs own s.heap i .non .non False) :
    Turn P w K (.Tuple elts kk tpos) J cs I own where
  mem := hI
  obj := cells
  keep := stays
  self := again
  item := by
    intro X eP ew eK calm i pins s σ H E inv free st more
    obtain ⟨x, y, ⟨n, wr, fp, Pt, St, Mid, W, sub, hst, hown, hmore, _⟩, hyld⟩ := goes X pins s σ H i eP ew eK (inv.ok.hd calm) inv st more
    obtain ⟨hin, hvals⟩ := hmore trivial
    subst eP ew eK
    refine W.item i s _ _ hin hst fun T vals h1 tk hP hT hTup hMid k1 => ?_
    obtain ⟨u, v, rfl, ru, rv⟩ := hvals vals hP
    refine ⟨.ref T, rfl, W.go elts kk tpos i T _ _ _ hMid fun h2 st2 k2 => ?_⟩
    have tup2 : h2.IsTuple T #[u, v] := hTup.at fun o e => k2 T o (W.apart i T h1 hMid) e
    have fresh : H T = none := inv.hok.fresh hT
    have inv2 : Inv X pins σ (upd H T (.tup [x, y])) { s with heap := h2, toks := tk } :=
      inv.turnedNew (ch := cs) (fun b o nb e => k2 b o (fun m => nb (sub b m)) (k1 b o (fun m => nb (sub b m)) e)) free hT ⟨(by show 2 ≤ sizeLine; decide), [u, v], .cons ru (.cons rv .nil), tup2⟩
    refine ⟨.ref T, _, inv2, rfl, hyld T fresh, hown _ _ st2, fun b hb => ?_⟩
    obtain ⟨o, ho, _⟩ := cells i _ st b hb
    rw [upd_ne (Nat.ne_of_lt (Nat.lt_of_lt_of_le (Heap.lt_size ho) hT))]
    exact (free b hb).1
  done := by
    intro X eP ew eK calm i pins s σ H E inv free st stop
    obtain ⟨n, wr, fp, Pt, St, Mid, W, sub, hst, _, _, hend⟩ := ends X pins s σ H i eP ew eK (inv.ok.hd calm) inv st stop
    obtain rfl := hend (fun f => f)
    subst eP ew eK
    exact W.done s _ _ hst fun h1 tk k1 => ⟨rfl, inv.turnedL (t' := tk) (ch := cs) (fun b o nb e => k1 b o (fun m => nb (sub b m)) e) free⟩

/-! ### enumerate(tuple) -/
/-- the tuple at a, each item in a new pair -/
def IteT (K : PySem.W.Frag) (a : Addr) : It where
  go i H := ∃ (xs : List V) (x : V), SqT K H a xs ∧ xs[i]? = some x
  yld i H v H' := ∃ T x, v = .ref T ∧ H T = none ∧ H' = upd H T (.tup [.int (i : Nat), x]) ∧ ∀ xs, SqT K H a xs → xs[i]? = some x
  stop i H := ∃ xs : List V, SqT K H a xs ∧ xs.length = i
/-- the two cells of an enumerate over the tuple at a, i items taken -/
def EnumT (a e it : Addr) (i : Nat) (h : Heap) : Prop := (∃ old, IsEnum h e it (0 + (i : Int)) old) ∧ h.IsTupleIter it a i
theorem turn_enumT {P : Program} {w : World} {K : PySem.W.Frag} {elts : List Expr} {kk : Nat} {tpos : Pos} {a e it : Addr} (hei : e ≠ it) (hai : a ≠ it) (hae : a ≠ e) : Turn P w K (.Tuple elts kk tpos) (IteT K a) [e, it] e (EnumT a e it) := by
  have W : ∀ (A : Around), A.handled = none → ∀ items : Array Value, _ := fun A hh items =>
    WalksT.enumFrom (prog := P) (w := w) (A := A) 0 (Draws.tuple (A := A.in1) hh it a hai items) e hei (by simp only [List.mem_cons, List.not_mem_nil, or_false, not_or]; exact ⟨hei, Ne.symm hae⟩) (List.mem_cons_self ..)
  refine turn_pairs (List.mem_cons_self ..) (fun i h st b hb => ?_) (fun i g g' st k => ?_) (fun A i s Q E st q => ?_) (fun X pins s σ H i eP ew eK hh inv st go => ?_) (fun X pins s σ H i eP ew eK hh inv st stop => ?_)
  · obtain ⟨⟨old, he⟩, o, ho, _, hd⟩ := st
    rcases List.mem_cons.mp hb with z | z
    · subst z
      exact ⟨_, he, fun v q => nomatch q⟩
    · exact ⟨o, by rw [List.mem_singleton.mp z]; exact ho, fun v q => by rw [hd] at q; cases q⟩
  · obtain ⟨⟨old, he⟩, hi⟩ := st
    exact ⟨⟨old, k e (List.mem_cons_self ..) _ he⟩, hi.at fun o q => k it (List.mem_cons_of_mem _ (List.mem_cons_self ..)) o q⟩
  · obtain ⟨⟨_, he⟩, _⟩ := st
    exact wpAny_pyIter_enum he q
  · obtain ⟨xs, x, hq, hx⟩ := go
    subst eK
    obtain ⟨its, rv, tup, _⟩ := inv.tuple hq
    obtain ⟨u, hu, ru⟩ := rv.get hx
    have hu' : its.toArray[i]? = some u := by simpa using hu
    have hin : i < its.toArray.size := (Array.getElem?_eq_some_iff.mp hu').1
    refine ⟨.int (i : Nat), x, ⟨_, _, _, _, _, _, W X.A hh its.toArray, fun b hb => hb, ⟨st.1, st.2, tup⟩, fun j g z => ⟨z.1, z.2.1⟩, fun _ => ⟨hin, fun vals hP => ?_⟩, fun f => absurd trivial f⟩, fun T hT => ⟨T, x, rfl, hT, rfl, fun ys hy => by rw [inv.tuple_inj hy hq]; exact hx⟩⟩
    obtain ⟨t, v, hv, rfl⟩ := hP
    refine ⟨_, v, rfl, ⟨t, by rw [Int.zero_add]⟩, ?_⟩
    have e1 : its.toArray[i]? = some v := hv
    rw [e1] at hu'
    rw [Option.some.inj hu']
    exact ru
  · obtain ⟨xs, hq, hx⟩ := stop
    subst eK
    obtain ⟨its, rv, tup, _⟩ := inv.tuple hq
    have hl := rv.length
    exact ⟨_, _, _, _, _, _, W X.A hh its.toArray, fun b hb => hb, ⟨st.1, st.2, tup⟩, fun j g z => ⟨z.1, z.2.1⟩, fun f => f.elim, fun _ => by rw [List.size_toArray]; omega⟩
set_option maxHeartbeats 1000000 in
/-- enumerate(v): an iterator over v, and the object itself -/
theorem meets_enum1 {v : Value} {o : Obj} {There : Heap → Prop} (B : Begins v o There) :
    Meets (Builtin.«enumerate.__new__» ⟨[.type "enumerate", v], []⟩) fun _ R s => There s.heap ∧
      R (.ok (.ret (.ref (s.heap.push o).objs.size))) { s with heap := (s.heap.push o).push { cls := .type "enumerate", data := .fields #[.none, .bool false, .ref s.heap.objs.size, rawInt 0, .none, .none] } } :=
  .of_wp fun prog w A R s there => by
    obtain ⟨there, after⟩ := there
    obtain ⟨hp, gens, drawn, toks, os⟩ := s
    have sub := sub_enumerate
    have begin_ : ∀ {A' : Around} {E Q : Value → Shared → Prop}, Q (.ref hp.objs.size) ⟨hp.push o, gens, drawn, toks, os⟩ → wpAny (model prog w) A' (pyIter v) Q E ⟨hp, gens, drawn, toks, os⟩ := fun q => B.iter prog w _ _ _ _ there q
    wp_walk using begin_
    refine wpAny_stack_any fun frames => wpAny_pure ?_
    split <;> (try (rename_i c _ _ _ _ _; cases (c == Value.type "enumerate"))) <;> (wp_walk using begin_; exact ⟨_, rfl, after⟩)
theorem enum_over {prog : Program} {w : World} {A : Around} {E : Value → Shared → Prop} {s : Shared} {a : Addr} {items : Array Value} {Q : Value → Shared → Prop} (tup : s.heap.IsTuple a items)
    (next : ∀ g, EnumT a (s.heap.objs.size + 1) s.heap.objs.size 0 g → (∀ b o, s.heap.get? b = some o → g.get? b = some o) → Q (.ref (s.heap.objs.size + 1)) { s with heap := g }) :
    wpAny (model prog w) A (call (.type "enumerate") [.ref a]) Q E s := by
  refine callType_new F.called_enumerate (by decide) (F.typeCall_enumerate_1 _) (F.newCall_enumerate_1 _) (fun obj => F.args_object_init_2 obj _) F.entry_enumerate_new (meets_enum1 (begins_tuple a items)) ⟨tup, ?_⟩
  generalize ho1 : ({ cls := .type "tuple_iterator", data := .fields #[.ref a, .int 0 0] } : Obj) = o1
  have n1 : (s.heap.push o1).objs.size = s.heap.objs.size + 1 := Heap.size_push ..
  have g2 := Heap.get?_push_size (s.heap.push o1) (o := { cls := .type "enumerate", data := .fields #[.none, .bool false, .ref s.heap.objs.size, rawInt 0, .none, .none] }) rfl
  have g1 := Heap.get?_push_of_some { cls := .type "enumerate", data := .fields #[.none, .bool false, .ref s.heap.objs.size, rawInt 0, .none, .none] } (Heap.get?_push_size s.heap (o := o1) (by subst ho1; rfl))
  show _ ∧ _
  rw [n1] at g2 ⊢
  subst ho1
  exact ⟨⟨_, g2, rfl⟩, next _ ⟨⟨_, g2⟩, _, g1, rfl, rfl⟩ fun b o e => Heap.get?_push_of_some _ (Heap.get?_push_of_some _ e)⟩
def iEnumT (K : PySem.W.Frag) (ta : TA) : TI := fun σ H R => ta σ H fun vs H1 => ∃ a xs, vs = [.ref a] ∧ SqT K H1 a xs ∧ R (IteT K a) H1
theorem pi_enumT {X : Cx} {e : Expr} {ta : TA} {p pos tpos : Pos} {elts : List Expr} {kk : Nat} (hg : Gl X "enumerate") (hm : X.mg "enumerate" = none) (ha : PA X [e] ta) (one : starEach [e] X.env = [(false, eval e X.env)] := by rfl) :
    PI X (.Tuple elts kk tpos) (.Call (.Name "enumerate" p) [e] [] pos) (iEnumT X.K ta) where
  run pins s σ H R inv h := by
    refine Call_ (ld_blt inv hg hm boot_enumerate (PyProof.Rows.callWith_type1 (thn (ha.run pos pins s σ H _ inv h) fun us s1 after => ?_) one rfl))
    obtain ⟨vs, H1, inv1, rel, a, xs, rfl, hq, q⟩ := after
    obtain ⟨u, rfl, ru⟩ := vals1 rel
    obtain rfl : u = Value.ref a := ru
    obtain ⟨its, _, tup, _⟩ := inv1.tuple hq
    have la : a < s1.heap.objs.size := by obtain ⟨oa, hoa, _⟩ := id tup; exact Heap.lt_size hoa
    refine enum_over tup fun g en k => ?_
    obtain ⟨⟨old, he⟩, _⟩ := id en
    refine wpAny_pyIter_enum he ?_
    refine ⟨s1.heap.objs.size + 1, [s1.heap.objs.size + 1, s1.heap.objs.size], EnumT a _ _, IteT X.K a, H1, rfl, inv1.kept (t' := s1.toks) k, turn_enumT (Nat.succ_ne_self _) (Nat.ne_of_lt la) (Nat.ne_of_lt (Nat.lt_succ_of_lt la)), en, fun b hb => ?_, q⟩
    have up : s1.heap.objs.size ≤ b := by
      rcases List.mem_cons.mp hb with z | z
      · exact z ▸ Nat.le_succ _
      · exact Nat.le_of_eq (List.mem_singleton.mp z).symm
    exact inv1.fpOk up (inv1.hok.fresh up)
theorem walk_enumT {K : PySem.W.Frag} {a : Addr} {xs : List V} : Walk (IteT K a) xs.length (fun H => SqT K H a xs) (YPair (fun i => some (.int (i : Nat))) (fun i => xs[i]?)) where
  goes i H hi q := ⟨xs, xs[i], q, List.getElem?_eq_getElem hi⟩
  stops H q := ⟨xs, q, rfl⟩
  yields i H v H' _ q y := let ⟨T, x, h1, h2, h3, h4⟩ := y; ⟨T, .int (i : Nat), x, h1, h2, h3, rfl, h4 xs q⟩

/-! ### zip(text, tuple) -/
def IzST (K : PySem.W.Frag) (z : Str) (b : Addr) : It where
  go i H := ∃ (ys : List V) (y : V), SqT K H b ys ∧ i < z.cps.size ∧ ys[i]? = some y
  yld i H v H' := ∃ T c y, v = .ref T ∧ H T = none ∧ H' = upd H T (.tup [.str ⟨#[c]⟩, y]) ∧ z.cps[i]? = some c ∧ ∀ ys, SqT K H b ys → ys[i]? = some y
  stop i H := ∃ ys : List V, SqT K H b ys ∧ i = min z.cps.size ys.length
/-- the five cells of a zip over the text x and the tuple at b, i pairs taken -/
def ZipST (x : Str) (t : Tok) (b z TI TO i1 i2 : Addr) (i : Nat) (h : Heap) : Prop := IsZip h z TI TO .none ∧ IsTupOf2 h TI (.ref i1) (.ref i2) ∧ (∃ a1 a2, IsTupOf2 h TO a1 a2) ∧ h.IsStrIter i1 (strIterType x) x t i ∧ h.IsTupleIter i2 b i
theorem turn_zipST {P : Program} {w : World} {K : PySem.W.Frag} {elts : List Expr} {kk : Nat} {tpos : Pos} {b z TI TO i1 i2 : Addr} {x : Str} {t : Tok} (S : ZipSep2 z TI TO i1 i2 [i1] [i2, b]) (hb : b ≠ i2) :
    Turn P w K (.Tuple elts kk tpos) (IzST K x b) [z, TO, i1, i2, TI] z (ZipST x t b z TI TO i1 i2) := by
  have W : ∀ (A : Around), A.handled = none → ∀ items : Array Value, _ := fun A hh items =>
    WalksT.zipD2 (prog := P) (w := w) (A := A) S (Draws.text (A := A.in1) hh i1 x t) (Draws.tuple (A := A.in1) hh i2 b hb items)
  have sub : ∀ c ∈ [z, TO, i1, i2], c ∈ [z, TO, i1, i2, TI] := fun c hc => List.mem_append_left [TI] hc
  have down : ∀ {items : Array Value} (j : Nat) (g : Heap), (IsZip g z TI TO .none ∧ IsTupOf2 g TI (.ref i1) (.ref i2) ∧ (∃ a1 a2, IsTupOf2 g TO a1 a2) ∧ g.IsStrIter i1 (strIterType x) x t j ∧ g.IsTupleIter i2 b j ∧ g.IsTuple b items) → ZipST x t b z TI TO i1 i2 j g := fun j g st => ⟨st.1, st.2.1, st.2.2.1, st.2.2.2.1, st.2.2.2.2.1⟩
  refine turn_pairs (List.mem_cons_self ..) (fun i h st c hc => ?_) (fun i g g' st k => ?_) (fun A i s Q E st q => wpAny_pyIter_zip st.1 q) (fun X pins s σ H i eP ew eK hh inv st go => ?_) (fun X pins s σ H i eP ew eK hh inv st stop => ?_)
  · obtain ⟨s1, s2, ⟨u1, u2, s3⟩, ⟨o1, p1, _, d1⟩, ⟨o2, p2, _, d2⟩⟩ := st
    simp only [List.mem_cons, List.not_mem_nil, or_false] at hc
    rcases hc with rfl | rfl | rfl | rfl | rfl
    · exact ⟨_, s1, fun v q => nomatch q⟩
    · exact ⟨_, s3, fun v q => nomatch q⟩
    · exact ⟨o1, p1, fun v q => by rw [d1] at q; cases q⟩
    · exact ⟨o2, p2, fun v q => by rw [d2] at q; cases q⟩
    · exact ⟨_, s2, fun v q => nomatch q⟩
  · obtain ⟨s1, s2, ⟨u1, u2, s3⟩, ⟨o1, p1, r1⟩, s5⟩ := st
    have kk : ∀ c, c ∈ [z, TO, i1, i2, TI] → ∀ o, g.get? c = some o → g'.get? c = some o := k
    simp only [List.mem_cons, List.not_mem_nil, or_false, forall_eq_or_imp, forall_eq] at kk
    obtain ⟨k1, k2, k3, k4, k5⟩ := kk
    exact ⟨k1 _ s1, k5 _ s2, ⟨u1, u2, k2 _ s3⟩, ⟨o1, k3 _ p1, r1⟩, s5.at fun o q => k4 o q⟩
  · obtain ⟨ys, y, hq, hx, hy⟩ := go
    subst eK
    obtain ⟨its, rv, tup, _⟩ := inv.tuple hq
    obtain ⟨u, hu, ru⟩ := rv.get hy
    have hu' : its.toArray[i]? = some u := by simpa using hu
    have hin : i < its.toArray.size := (Array.getElem?_eq_some_iff.mp hu').1
    have hc : x.cps[i]? = some x.cps[i] := Array.getElem?_eq_getElem hx
    refine ⟨.str ⟨#[x.cps[i]]⟩, y, ⟨_, _, _, _, _, _, W X.A hh its.toArray, sub, ⟨st.1, st.2.1, st.2.2.1, st.2.2.2.1, st.2.2.2.2, tup⟩, fun j g q => down j g q, fun _ => ⟨by omega, fun vals hP => ?_⟩, fun f => absurd trivial f⟩, fun T hT => ⟨T, x.cps[i], y, rfl, hT, rfl, hc, fun l hl => by rw [inv.tuple_inj hl hq]; exact hy⟩⟩
    obtain ⟨x1, x2, ⟨c, tc, e1, rfl⟩, e2, rfl⟩ := hP
    rw [hc] at e1
    have e2 : its.toArray[i]? = some x2 := e2
    rw [hu'] at e2
    refine ⟨_, x2, rfl, ⟨tc, by rw [Option.some.inj e1]⟩, by rw [← Option.some.inj e2]; exact ru⟩
  · obtain ⟨ys, hq, hi⟩ := stop
    subst eK
    obtain ⟨its, rv, tup, _⟩ := inv.tuple hq
    have hl := rv.length
    exact ⟨_, _, _, _, _, _, W X.A hh its.toArray, sub, ⟨st.1, st.2.1, st.2.2.1, st.2.2.2.1, st.2.2.2.2, tup⟩, fun j g q => down j g q, fun f => f.elim, fun _ => (show i = min x.cps.size its.toArray.size from by
      have e : its.toArray.size = ys.length := by simpa using hl.symm
      rw [e]
      exact hi)⟩
def iZipST (K : PySem.W.Frag) (ta : TA) : TI := fun σ H R => ta σ H fun vs H1 => ∃ z b ys, vs = [.str z, .ref b] ∧ SqT K H1 b ys ∧ R (IzST K z b) H1
theorem pi_zipST {X : Cx} {e e2 : Expr} {ta : TA} {p pos tpos : Pos} {elts : List Expr} {kk : Nat} (hg : Gl X "zip") (hm : X.mg "zip" = none) (ha : PA X [e, e2] ta)
    (s1 : starEach [e, e2] X.env = (false, eval e X.env) :: starEach [e2] X.env := by rfl) (s2 : (backTo pos (starEach [e2] X.env)).any (·.1) = false := by rfl) : PI X (.Tuple elts kk tpos) (.Call (.Name "zip" p) [e, e2] [] pos) (iZipST X.K ta) where
  run pins s σ H R inv h := by
    refine Call_ (ld_blt inv hg hm PyProof.Rows.boot_zip (PyProof.Rows.callWith_type1 (thn (ha.run pos pins s σ H _ inv h) fun us s1 after => ?_) s1 s2))
    obtain ⟨vs, H1, inv1, rel, z, b, ys, rfl, hq, q⟩ := after
    obtain ⟨n, hn⟩ : ∃ n, n = s1.heap.objs.size := ⟨_, rfl⟩
    match us, rel with
    | [_, _], .cons r1 (.cons r2 .nil) =>
      obtain ⟨t, rfl⟩ := r1
      cases r2
      obtain ⟨its, _, tup, _⟩ := inv1.tuple hq
      have lb : b < s1.heap.objs.size := by obtain ⟨ob, hob, _⟩ := id tup; exact Heap.lt_size hob
      refine zip_begins2 (begins_text z t) (begins_tuple b its.toArray) trivial tup fun g c1 c2 c3 c4 c5 _ k => wpAny_pyIter_zip c1 ?_
      have S : ZipSep2 (s1.heap.objs.size + 4) (s1.heap.objs.size + 2) (s1.heap.objs.size + 3) s1.heap.objs.size (s1.heap.objs.size + 1) [s1.heap.objs.size] [s1.heap.objs.size + 1, b] :=
        zip_sep2 (fp1 := []) (fp2 := [b]) (fun c hc => by cases hc) (fun c hc => by rw [List.mem_singleton.mp hc]; exact lb)
      refine ⟨_, [s1.heap.objs.size + 4, s1.heap.objs.size + 3, s1.heap.objs.size, s1.heap.objs.size + 1, s1.heap.objs.size + 2], ZipST z t b _ _ _ _ _, IzST X.K z b, H1, rfl, inv1.kept (t' := s1.toks) k, turn_zipST S (Nat.ne_of_lt (Nat.lt_succ_of_lt lb)), ⟨c1, c2, ⟨_, _, c3⟩, ⟨_, c4, rfl, rfl⟩, ⟨_, c5, rfl, rfl⟩⟩, fun c hc => ?_, q⟩
      have up : s1.heap.objs.size ≤ c := by
        simp only [List.mem_cons, List.not_mem_nil, or_false] at hc
        rcases hc with rfl | rfl | rfl | rfl | rfl <;> first | exact Nat.le_refl _ | exact Nat.le_add_right _ _
      exact inv1.fpOk up (inv1.hok.fresh up)
theorem walk_zipST {K : PySem.W.Frag} {z : Str} {b : Addr} {ys : List V} (hl : z.cps.size = ys.length) : Walk (IzST K z b) ys.length (fun H => SqT K H b ys) (YPair (fun i => (z.cps[i]?).map fun c => V.str ⟨#[c]⟩) (fun i => ys[i]?)) where
  goes i H hi q := ⟨ys, ys[i], q, by omega, List.getElem?_eq_getElem hi⟩
  stops H q := ⟨ys, q, by omega⟩
  yields i H v H' _ q y := let ⟨T, c, y, h1, h2, h3, h4, h5⟩ := y; ⟨T, .str ⟨#[c]⟩, y, h1, h2, h3, by show Option.map _ z.cps[i]? = _; rw [h4]; rfl, h5 ys q⟩
end MyR

set_option Elab.async false
set_option linter.all false
set_option maxRecDepth 100000
set_option maxHeartbeats 1000000
namespace My
open PySem L2 MyR
def top (i : Nat) : Stmt := PySem.Challenge.pw_lowsure_k53_code_and_machines.main.body.getD i (.Pass ⟨0, 0, 0, 0⟩)
/-- what the module's names hold -/
structure Glob (mg : Str → Option Value) : Prop where
  g_len : mg "len" = none
  g_max : mg "max" = none
  g_list : mg "list" = none
  g_tuple : mg "tuple" = none
  g_reversed : mg "reversed" = none
  g_range : mg "range" = none
  g_int : mg "int" = none
  g_str : mg "str" = none
  g_bool : mg "bool" = none
  g_isinstance : mg "isinstance" = none
  g_all : mg "all" = none
  g_enumerate : mg "enumerate" = none
  g_zip : mg "zip" = none
/-! ### the source of draws -/
def dKV (s n : Int) (l : Addr) : List (Key × V) := [(.inr "seed", .int s), (.inr "number", .int n), (.inr "left", .ref l)]
theorem k_sn : ¬ ((.inr "seed" : Key) = .inr "number") := fun h => absurd (Sum.inr.inj h) (by decide +kernel)
theorem k_sl : ¬ ((.inr "seed" : Key) = .inr "left") := fun h => absurd (Sum.inr.inj h) (by decide +kernel)
theorem k_nl : ¬ ((.inr "number" : Key) = .inr "left") := fun h => absurd (Sum.inr.inj h) (by decide +kernel)
theorem d_seed {s n : Int} {l : Addr} : valV (dKV s n l) (.inr "seed") = some (.int s) := valV_pos rfl
theorem d_number {s n : Int} {l : Addr} : valV (dKV s n l) (.inr "number") = some (.int n) := by
  unfold dKV; rw [valV_neg k_sn, valV_pos rfl]
theorem d_left {s n : Int} {l : Addr} : valV (dKV s n l) (.inr "left") = some (.ref l) := by
  unfold dKV; rw [valV_neg k_sl, valV_neg k_nl, valV_pos rfl]
theorem d_put_seed {s n z : Int} {l : Addr} : putK (dKV s n l) (.inr "seed") (.int z) = dKV z n l := by
  unfold putK
  rw [valV_any, d_seed]
  rw [if_pos (show (some (V.int s)).isSome = true from rfl)]
  unfold dKV
  simp only [List.map_cons, List.map_nil, if_true, if_neg (Ne.symm k_sn), if_neg (Ne.symm k_sl)]
theorem d_put_number {s n z : Int} {l : Addr} : putK (dKV s n l) (.inr "number") (.int z) = dKV s z l := by
  unfold putK
  rw [valV_any, d_number]
  rw [if_pos (show (some (V.int n)).isSome = true from rfl)]
  unfold dKV
  simp only [List.map_cons, List.map_nil, if_true, if_neg k_sn, if_neg (Ne.symm k_nl)]
theorem d_merge {s n : Int} {l : Addr} : mergeK [] (dKV s n l) = dKV s n l := by
  unfold mergeK dKV
  simp only [List.foldl_cons, List.foldl_nil]
  have e1 : putK ([] : List (Key × V)) (.inr "seed") (.int s) = [(.inr "seed", .int s)] := putK_new _ valV_nil
  have e2 : putK ([(.inr "seed", .int s)] : List (Key × V)) (.inr "number") (.int n) = [(.inr "seed", .int s), (.inr "number", .int n)] := putK_new _ (by rw [valV_neg k_sn]; rfl)
  have e3 : putK ([(.inr "seed", .int s), (.inr "number", .int n)] : List (Key × V)) (.inr "left") (.ref l) = [(.inr "seed", .int s), (.inr "number", .int n), (.inr "left", .ref l)] := putK_new _ (by rw [valV_neg k_sl, valV_neg k_nl]; rfl)
  rw [e1, e2, e3]
theorem g_seed {H : Hp} {d l : Addr} {s n : Int} (h : H d = some (.dK (dKV s n l))) : DGet H d (.str "seed") (some (.int s)) := by
  have q := DGet.k (k := .inr "seed") h
  rw [d_seed] at q
  exact q
theorem g_number {H : Hp} {d l : Addr} {s n : Int} (h : H d = some (.dK (dKV s n l))) : DGet H d (.str "number") (some (.int n)) := by
  have q := DGet.k (k := .inr "number") h
  rw [d_number] at q
  exact q
theorem g_left {H : Hp} {d l : Addr} {s n : Int} (h : H d = some (.dK (dKV s n l))) : DGet H d (.str "left") (some (.ref l)) := by
  have q := DGet.k (k := .inr "left") h
  rw [d_left] at q
  exact q
theorem p_seed {H : Hp} {d l : Addr} {s n z : Int} (h : H d = some (.dK (dKV s n l))) : DPut H d (.str "seed") (.int z) (upd H d (.dK (dKV z n l))) := by
  have q := DPut.k (k := .inr "seed") (v := .int z) h (by show 3 < sizeLine; decide)
  rw [d_put_seed] at q
  exact q
theorem p_number {H : Hp} {d l : Addr} {s n z : Int} (h : H d = some (.dK (dKV s n l))) : DPut H d (.str "number") (.int z) (upd H d (.dK (dKV s z l))) := by
  have q := DPut.k (k := .inr "number") (v := .int z) h (by show 3 < sizeLine; decide)
  rw [d_put_number] at q
  exact q
/-- what holds between a statement and the rest -/
theorem seq_by {t u : TS} {D : Ends} {σ : St} {H : Hp} (Pv : St → Hp → Prop) (h1 : ∀ D' : Ends, (∀ σ H, Pv σ H → D'.nx σ H) → t D' σ H) (h2 : ∀ σ H, Pv σ H → u D σ H) : tSeq t u D σ H := h1 { D with nx := u D } h2
structure Deal (H : Hp) (d l : Addr) : Prop where
  ex : ∃ (s n : Int) (ns : List Int), H d = some (.dK (dKV s n l)) ∧ H l = some (.lst (ns.map V.int)) ∧ 0 ≤ s ∧ s < 2147483648
/-- what stood but at d and l stands as it was -/
def Kept (d l : Addr) (H H' : Hp) : Prop := ∀ b o, H b = some o → b ≠ d → b ≠ l → H' b = some o
theorem Kept.refl {d l : Addr} {H : Hp} : Kept d l H H := fun _ _ e _ _ => e
theorem Kept.trans {d l : Addr} {H H1 H2 : Hp} (a : Kept d l H H1) (b : Kept d l H1 H2) : Kept d l H H2 := fun c o e h1 h2 => b c o (a c o e h1 h2) h1 h2
theorem Kept.d {d l : Addr} {H H1 : Hp} {o : HO} (a : Kept d l H H1) : Kept d l H (upd H1 d o) := fun c o e h1 h2 => by rw [upd_ne h1]; exact a c o e h1 h2
theorem Kept.l {d l : Addr} {H H1 : Hp} {o : HO} (a : Kept d l H H1) : Kept d l H (upd H1 l o) := fun c o e h1 h2 => by rw [upd_ne h2]; exact a c o e h1 h2
def spDraw : Sp := fun vs H Q _ => ∃ (d l : Addr) (m : Int), vs = [.ref d, .int m] ∧ Deal H d l ∧ 0 < m ∧ m.natAbs < 2 ^ 65 ∧
  ∀ (r : Int) (H' : Hp), 0 ≤ r → r < m → Deal H' d l → Kept d l H H' → Q (.int r) H'
section
variable {P : Program} {w : World} {K : PySem.W.Frag} {mg : Str → Option Value} {base : Heap}
abbrev s_law_draw : Stmt := top 28
abbrev N_law_draw : List Str := ["_law_deal_here", "_law_many", "_law_number_here", "_law_one", "_law_other"]
theorem sc_law_draw : FnScope N_law_draw ["_law_deal_here", "_law_many"] (defScope s_law_draw) := ⟨rfl, rfl, rfl, by decide +kernel, rfl, by decide +kernel, by decide +kernel⟩
theorem ok_law_draw {f : Addr} {fd : FuncData} (F : Fun K "_law_draw" "_law_draw" s_law_draw f fd) (T : Glob mg) : FnOk P w K mg base CX0 1 f fd ["_law_deal_here", "_law_many"] spDraw := by
  refine F.ok sc_law_draw (fun vs H Q E h => ?_) (fun cdv A outer s H vs Q E hr h => ?_)
  · obtain ⟨d, l, m, rfl, _⟩ := h
    rfl
  · obtain ⟨d, l, m, rfl, D, hm, hb, k⟩ := h
    have hu := hu_of hr
    have nd := sc_law_draw.nd
    refine ⟨_, (pss_cons (ps_while PassesOwn.never (PW.pt (pw_and (pt_cmpR op_eq (pe_dget hu (pv 0) pe_str (fun _ _ => rfl)) pe_int (nomark _)) (pw_and1 (pt_cmpR op_gt (pe_callB call_len_seq (by rfl) T.g_len PySem.boot_len (pa_cons (pe_dget hu (pv 0) pe_str (fun _ _ => rfl)) pa_nil)) pe_int (nomark _)))))
      (pss_one (ps_dput hu (pv 0) pe_str (pe_bm0 PySem.F.plainAttrs_list PySem.F.slot_list_pop PySem.F.type_list_pop mt_pop (pe_dget hu (pv 0) pe_str (fun _ _ => rfl))) rfl)))
    (pss_cons (ps_set (i := 2) nd rfl (Or.inl rfl) (pe_dget hu (pv 0) pe_str (fun _ _ => rfl)))
    (pss_cons (ps_if (pt_cmpR op_gt (pv 2) pe_int (nomark _))
    (pss_cons (ps_dput hu (pv 0) pe_str (pe_op op_fdivW (pv 2) (pv 1)) rfl)
    (pss_one (ps_ret (pe_op op_mod (pv 2) (pv 1)))))
    pss_nil)
    (pss_cons (ps_set (i := 3) nd rfl (Or.inl rfl) (pe_op op_mod (pe_op op_add (pe_op op_mul (pe_dget hu (pv 0) pe_str (fun _ _ => rfl)) pe_int) pe_int) pe_int))
    (pss_cons (ps_dput hu (pv 0) pe_str (pe_op op_mod (pe_op op_add (pe_op op_mul (pv 3) pe_int) pe_int) pe_int) rfl)
    (pss_cons (ps_set (i := 4) nd rfl (Or.inl rfl) (pe_op op_mod (pe_op op_mul (pe_dget hu (pv 0) pe_str (fun _ _ => rfl)) (pe_dget hu (pv 0) pe_str (fun _ _ => rfl))) pe_int))
    (pss_one (ps_ret (pe_op op_mod (pe_op op_add (pe_op op_mul (pe_op op_mod (pe_op op_mul (pv 3) (pv 3)) pe_int) pe_int) (pv 4)) (pv 1)))))))))), ?_⟩
    refine seq_by (fun σ H1 => σ = [some (.ref d), some (.int m), none, none, none] ∧ Deal H1 d l ∧ Kept d l H H1) (fun D' hD' => ?_) ?_
    · refine while_by (fun σ H1 => σ = [some (.ref d), some (.int m), none, none, none] ∧ Deal H1 d l ∧ Kept d l H H1)
        (fun _ H1 => match H1 l with | some (.lst xs) => xs.length | _ => 0) ⟨rfl, D, Kept.refl⟩ ?_ ?_
      · rintro σ H1 ⟨rfl, D1, kp⟩
        obtain ⟨s0, n, ns, hd, hl, hs0, hs1⟩ := id D1
        have ndl : d ≠ l := ne_of hd hl (by intro z; cases z)
        refine ⟨_, rfl, d, _, rfl, g_number hd, rfl, _, rfl, ?_⟩
        refine ite2 (fun hz => ?_) (fun hz => ?_)
        · refine ⟨_, rfl, d, _, rfl, g_left hd, l, _, rfl, .inl (SqL.of hl), _, _, rfl, rfl, _, rfl, ?_⟩
          refine ite2 (fun hz2 => ?_) (fun hz2 => ?_)
          · have hp : 0 < ns.length := by
              have := of_decide_eq_true hz2
              rw [List.length_map] at this
              omega
            have hg : (ns.map V.int)[(ns.map V.int).length - 1]? = some (.int (ns[ns.length - 1])) := by
              rw [List.length_map, List.getElem?_map, List.getElem?_eq_getElem (by omega)]
              rfl
            refine ⟨_, rfl, d, _, rfl, g_left hd, .inl ⟨rfl, _, SqL.of hl⟩, l, _, _, rfl, rfl, hl, hg, _, rfl, d, _, rfl, p_number (by rw [upd_ne ndl]; exact hd), ?_⟩
            have e2 : (ns.map V.int).dropLast = ns.dropLast.map V.int := by rw [List.map_dropLast]
            refine ⟨⟨rfl, ⟨⟨s0, _, ns.dropLast, upd_same, by rw [upd_ne ndl.symm, upd_same, e2], hs0, hs1⟩⟩, kp.l.d⟩, ?_⟩
            rw [upd_ne ndl.symm, upd_same, hl]
            show (ns.map V.int).dropLast.length < (ns.map V.int).length
            rw [List.length_dropLast, List.length_map]
            omega
          · exact hD' _ _ ⟨rfl, D1, kp⟩
        · refine iteF ?_
          exact hD' _ _ ⟨rfl, D1, kp⟩
      · intro σ H1 Q1 Q2 hq hc
        obtain ⟨x, e1, a, v, e2, hg, sc, b1, eb, hc⟩ := hc
        refine ⟨x, e1, a, v, e2, hg, sc, b1, eb, ?_⟩
        revert hc
        cases b1 with
        | false => exact fun hc => hq _ _ hc
        | true =>
          intro hc
          obtain ⟨x2, e3, a2, v2, e4, hg2, p, ys, e5, sq, i1, j1, e6, e7, k1, e8, hc⟩ := hc
          exact ⟨x2, e3, a2, v2, e4, hg2, p, ys, e5, sq, i1, j1, e6, e7, k1, e8, hq _ _ hc⟩
    · rintro σ H1 ⟨rfl, D1, kp⟩
      obtain ⟨s0, n, ns, hd, hl, hs0, hs1⟩ := id D1
      have ndl : d ≠ l := ne_of hd hl (by intro z; cases z)
      refine ⟨_, rfl, d, _, rfl, g_number hd, _, rfl, _, _, rfl, rfl, _, rfl, ?_⟩
      refine ite2 (fun hz => ?_) (fun hz => ?_)
      · have h63 : 0 < m := hm
        refine ⟨_, rfl, _, rfl, _, _, rfl, rfl, wide_div hm hb (by decide) (by decide), _, rfl, d, _, rfl, p_number hd, ?_⟩
        refine ⟨_, rfl, _, rfl, _, _, rfl, rfl, hm, ?_⟩
        exact k _ _ (Int.emod_nonneg _ (by omega)) (Int.emod_lt_of_pos _ hm) ⟨⟨s0, _, ns, upd_same, by rw [upd_ne ndl.symm]; exact hl, hs0, hs1⟩⟩ kp.d
      · -- the seed turns
        have r1 : ∀ (x y : Int), 0 < y → 0 ≤ x % y ∧ x % y < y := fun x y hy => ⟨Int.emod_nonneg _ (by omega), Int.emod_lt_of_pos _ hy⟩
        have ha1 := r1 (s0 * 48271 + 7919) 2147483647 (by decide)
        have hb1 := r1 ((s0 * 48271 + 7919) % 2147483647 * 40692 + 104729) 2147483399 (by decide)
        have q := r1 ((s0 * 48271 + 7919) % 2147483647 * ((s0 * 48271 + 7919) % 2147483647)) 2147483629 (by decide)
        refine ⟨_, rfl, d, _, rfl, g_seed hd, _, _, rfl, rfl, .inl ⟨by omega, by omega⟩, _, _, rfl, rfl, _, _, rfl, rfl, (by show (0 : Int) < 2147483647; decide), ?_⟩
        refine ⟨_, rfl, _, _, rfl, rfl, .inl ⟨by omega, by omega⟩, _, _, rfl, rfl, _, _, rfl, rfl, (by show (0 : Int) < 2147483399; decide), ?_⟩
        refine ⟨_, rfl, d, _, rfl, p_seed hd, ?_⟩
        refine ⟨_, rfl, d, _, rfl, g_seed upd_same, _, rfl, d, _, rfl, g_seed upd_same, _, _, rfl, rfl, .inl ⟨by omega, by omega⟩, _, _, rfl, rfl, (by show (0 : Int) < 2147483563; decide), ?_⟩
        refine ⟨_, rfl, _, rfl, _, _, rfl, rfl, .inl ⟨by omega, by omega⟩, _, _, rfl, rfl, (by show (0 : Int) < 2147483629; decide), _, _, rfl, rfl, .inl ⟨by omega, by omega⟩, _, rfl, _, _, rfl, rfl, _, rfl, _, _, rfl, rfl, hm, ?_⟩
        exact k _ _ (Int.emod_nonneg _ (by omega)) (Int.emod_lt_of_pos _ hm) ⟨⟨_, n, ns, upd_same, by rw [upd_ne ndl.symm]; exact hl, hb1.1, by omega⟩⟩ kp.d
end
end My

set_option Elab.async false
set_option linter.all false
set_option maxRecDepth 100000
set_option maxHeartbeats 1000000
namespace My
open PySem L2 MyR
/-- a new source of draws from the script -/
def spDeal (K : PySem.W.Frag) : Sp := fun vs H Q _ => ∃ (a : Addr) (ns : List Int), vs = [.ref a, .int 0] ∧ SqL K H a (ns.map V.int) ∧ ns.length ≤ 63 ∧
  ∀ (d l : Addr) (H' : Hp), H d = none → H l = none → Same H H' → Deal H' d l → Q (.ref d) H'
theorem cut_ints (ns : List Int) (lo hi : Option Int) : ∃ ms : List Int, cutV (ns.map V.int) lo hi = ms.map V.int ∧ ms.length ≤ ns.length := by
  unfold cutV
  rw [← List.map_drop, ← List.map_take]
  refine ⟨_, rfl, ?_⟩
  rw [List.length_take, List.length_drop]
  omega
theorem get_int {ms : List Int} {i : Nat} {x : V} (h : (ms.map V.int)[i]? = some x) : ∃ z, x = V.int z ∧ i < ms.length := by
  rw [List.getElem?_map] at h
  cases e : ms[i]? with
  | none => rw [e] at h; cases h
  | some z =>
    rw [e] at h
    exact ⟨z, (Option.some.inj h).symm, (List.getElem?_eq_some_iff.mp e).1⟩
theorem small63 {n : Nat} (h : n ≤ 63) : n < sizeLine := small1000 (by omega)
section
variable {P : Program} {w : World} {K : PySem.W.Frag} {mg : Str → Option Value} {base : Heap}
abbrev s_law_deal : Stmt := top 27
abbrev N_law_deal : List Str := ["_law_script", "_law_base", "_law_cells", "_law_cell", "_law_number_here"]
theorem sc_law_deal : FnScope N_law_deal ["_law_script", "_law_base"] (defScope s_law_deal) := ⟨rfl, rfl, rfl, by decide +kernel, rfl, by decide +kernel, by decide +kernel⟩
theorem ok_law_deal {f : Addr} {fd : FuncData} (F : Fun K "_law_deal" "_law_deal" s_law_deal f fd) (T : Glob mg) : FnOk P w K mg base CX0 1 f fd ["_law_script", "_law_base"] (spDeal K) := by
  refine F.ok sc_law_deal (fun vs H Q E h => ?_) (fun cdv A outer s H vs Q E hr h => ?_)
  · obtain ⟨a, ns, rfl, _⟩ := h
    rfl
  · obtain ⟨a, ns, rfl, hS, hlen, k⟩ := h
    have hu := hu_of hr
    have nd := sc_law_deal.nd
    refine ⟨_, (pss_cons (ps_setLc (i := 2) (own := [("_law_cell", 3)]) (g := gName 3) (tt := tYes) rfl nd rfl rfl (sw_true rfl rfl rfl (by decide +kernel)) (pi_list (pe_slice sl_list (pv 0) (po_some (pv 1)) (po_some pe_int))) (blkOk_by (N := N_law_deal) (sc := defScope s_law_deal) (by decide +kernel)) (fun _ _ _ _ _ => pg_name (i := 3) nd rfl (Or.inl rfl)) (fun _ _ _ _ _ => pts_nil) (fun _ _ _ _ _ => (pe_callB (call_max2 rfl) (by rfl) T.g_max (by decide +kernel) (pa_cons (pv 3) (pa_cons (pe_op op_sub pe_int (pv 3)) pa_nil)))))
    (pss_cons (ps_set (i := 4) nd rfl (Or.inl rfl) (pe_op op_add pe_int (pv 1)))
    (pss_cons (ps_for PassesOwn.never rfl (pi_list (pv 2)) (pg_name (i := 3) nd rfl (Or.inl rfl))
    (pss_one (ps_set (i := 4) nd rfl (Or.inl rfl) (pe_op op_mod (pe_op op_add (pe_op op_mul (pv 4) pe_int) (pe_op op_mod (pv 3) pe_int)) pe_int))))
    (pss_one (ps_ret (pe_disp (pps_cons pe_str (pv 4) (pps_cons pe_str pe_int (pps_cons pe_str (pe_lstRev rfl (by rfl) T.g_list (by rfl) T.g_reversed (pe_lc (own := [("_law_cell", 3)]) (g := gName 3) rfl nd (pi_list (pv 2)) (blkOk_by (N := N_law_deal) (sc := defScope s_law_deal) (by decide +kernel)) (fun _ _ _ _ _ => pg_name (i := 3) nd rfl (Or.inl rfl)) (fun _ _ _ _ _ => pts_one (pt_cmpR op_ge (pv 3) (pe_op op_pow pe_int pe_int) (nomark _))) (fun _ _ _ _ _ => (pv 3)))) pps_nil))) (by rfl) (by rfl) (fun z => by cases z) (by decide))))))), ?_⟩
    -- the cells
    refine ⟨_, rfl, _, rfl, _, rfl, _, rfl, a, _, rfl, hS, fun sl hsl => ?_⟩
    obtain ⟨ms, em, hml⟩ := cut_ints ns (some 0) (some 63)
    rw [em]
    refine ⟨sl, rfl, ⟨_, SqL.of upd_same⟩, fun D hD => ?_⟩
    have nDs : sl ≠ D := fun e => by rw [e, upd_same] at hD; cases hD
    have hD0 : H D = none := by rw [← upd_ne (H := H) (Ne.symm nDs)]; exact hD
    refine lc_list (K := K) (a := sl) (xs := ms.map V.int) (fun i H1 => Same H H1 ∧ H1 sl = some (.lst (ms.map V.int)) ∧ ∃ acc : List Int, H1 D = some (.lst (acc.map V.int)) ∧ acc.length = i)
      ⟨fun b o e => by rw [upd_ne (ne_of_none e hD0), upd_ne (ne_of_none e hsl)]; exact e, by rw [upd_ne nDs, upd_same], [], upd_same, rfl⟩ (fun i H1 _ ⟨_, h1, _⟩ => SqL.of h1) ?_ ?_
    · rintro i x H1 hx ⟨sm, h1, acc, h2, hl⟩
      obtain ⟨z, rfl, hi⟩ := get_int hx
      refine ⟨rfl, ?_⟩
      refine ⟨_, rfl, _, rfl, _, _, rfl, rfl, ?_⟩
      refine ⟨_, _, rfl, ?_⟩
      refine ⟨acc.map V.int, h2, by rw [List.length_map]; exact small63 (by omega), fun b o e => ?_, ?_, ?_⟩
      · rw [upd_ne (ne_of_none e hD0)]; exact sm b o e
      · rw [upd_ne nDs]; exact h1
      · refine ⟨acc ++ [if 0 - z > z then 0 - z else z], ?_, by rw [List.length_append, hl]; rfl⟩
        rw [upd_same, List.map_append]
        rfl
    · rintro H1 ⟨sm, h1, cs, h2, hl⟩
      rw [List.length_map] at hl
      refine ⟨_, rfl, _, _, rfl, rfl, ?_⟩
      refine ⟨_, rfl, D, rfl, ⟨_, SqL.of h2⟩, ?_⟩
      refine for_list (K := K) (a := D) (xs := cs.map V.int) (fun i σ H2 => ∃ (v : Option V) (t : Int), σ = [some (.ref a), some (.int 0), some (.ref D), v, some (.int t)] ∧ 0 ≤ t ∧ t < 2147483648 ∧ H2 = H1)
        ⟨none, 6143, rfl, by decide, by decide, rfl⟩ (fun i σ H2 _ ⟨_, _, _, _, _, e⟩ => by rw [e]; exact SqL.of h2) ?_ ?_
      · rintro i x σ H2 hx ⟨v, t, rfl, t0, t1, rfl⟩
        obtain ⟨z, rfl, hi⟩ := get_int hx
        refine ⟨_, rfl, _, _, rfl, rfl, .inl ⟨by omega, by omega⟩, _, rfl, _, _, rfl, rfl, (by show (0 : Int) < 2147483629; decide), _, _, rfl, rfl, _, _, rfl, rfl, (by show (0 : Int) < 2147483647; decide), ?_⟩
        refine ⟨_, _, rfl, Int.emod_nonneg _ (by decide), ?_, rfl⟩
        have := Int.emod_lt_of_pos (t * 69621 + z % 2147483629) (show (0 : Int) < 2147483647 by decide)
        omega
      · rintro σ H2 ⟨v, t, rfl, t0, t1, rfl⟩
        -- the dict
        intro d hd
        have nDd : D ≠ d := ne_of_none h2 hd
        refine ⟨_, rfl, ?_⟩
        refine ⟨_, rfl, D, rfl, ⟨_, SqL.of (by rw [upd_ne nDd]; exact h2)⟩, fun L hL => ?_⟩
        have nLd : d ≠ L := fun e => by rw [e, upd_same] at hL; cases hL
        have hL0 : H2 L = none := by rw [← upd_ne (H := H2) (Ne.symm nLd)]; exact hL
        have nDL : D ≠ L := ne_of_none h2 hL0
        refine lc_list (K := K) (a := D) (xs := cs.map V.int) (fun i H3 => Same H2 H3 ∧ H3 d = some (.dK []) ∧ ∃ acc : List Int, H3 L = some (.lst (acc.map V.int)) ∧ acc.length ≤ i)
          ⟨fun b o e => by rw [upd_ne (ne_of_none e hL0), upd_ne (ne_of_none e hd)]; exact e, by rw [upd_ne nLd, upd_same], [], upd_same, Nat.le_refl _⟩ (fun i H3 _ ⟨sm3, _, _⟩ => SqL.of (sm3 _ _ h2)) ?_ ?_
        · rintro i x H3 hx ⟨sm3, hd3, acc, h3, hl3⟩
          obtain ⟨z, rfl, hi⟩ := get_int hx
          refine ⟨rfl, ?_⟩
          refine ⟨_, rfl, _, _, rfl, rfl, ⟨by decide, by decide, by decide⟩, _, _, rfl, rfl, _, rfl, ?_⟩
          have go : ∀ (zs : List Int), zs.length ≤ i + 1 → ∀ H4, H4 = upd H3 L (.lst (zs.map V.int)) → Same H2 H4 ∧ H4 d = some (.dK []) ∧ ∃ acc : List Int, H4 L = some (.lst (acc.map V.int)) ∧ acc.length ≤ i + 1 := fun zs hz H4 e4 => by
            subst e4
            refine ⟨fun b o e => ?_, by rw [upd_ne nLd]; exact hd3, zs, upd_same, hz⟩
            rw [upd_ne (ne_of_none e hL0)]
            exact sm3 b o e
          refine ite2 (fun _ => ?_) (fun _ => ?_)
          · refine ⟨_, rfl, acc.map V.int, h3, by rw [List.length_map]; exact small63 (by omega), ?_⟩
            refine go (acc ++ [z]) (by rw [List.length_append]; exact Nat.succ_le_succ hl3) _ ?_
            rw [List.map_append]
            rfl
          · exact ⟨sm3, hd3, acc, h3, Nat.le_succ_of_le hl3⟩
        · rintro H3 ⟨sm3, hd3, acc, h3, hl3⟩
          refine ⟨L, _, rfl, SqL.of h3, fun R hR => ?_⟩
          have nRd : d ≠ R := ne_of_none hd3 hR
          refine ⟨by rw [upd_ne nRd]; exact hd3, dKV t 0 R, rfl, (by show 3 ≤ 15; decide), ?_⟩
          rw [d_merge]
          have hR2 : H2 R = none := sm3.free hR
          refine k d R _ (sm.free hd) (sm.free hR2) (fun b o e => ?_) ⟨⟨t, 0, acc.reverse, upd_same, ?_, t0, t1⟩⟩
          · have e2 := sm b o e
            rw [upd_ne (ne_of_none e2 hd), upd_ne (ne_of_none e2 hR2)]
            exact sm3 b o e2
          · rw [upd_ne (Ne.symm nRd), upd_same, List.map_reverse]
end
end My

set_option Elab.async false
set_option linter.all false
set_option maxRecDepth 100000
set_option maxHeartbeats 1000000
namespace MyN
open PySem PySem.Spec PyProof.Rows PySem.SeqAt
open Builtin
section
variable {M : Model} {prog : Program} {w : World} {A : Around} {E : Value → Shared → Prop} {s : Shared} {K : PySem.W.Frag} {x y C D f L : Addr} {ox : Obj} {od : Option Obj} {tb : Value} {h₀ : Heap} {m : Str → Option Value}
theorem ifBound_objNe {args : List Value} {Q : Option Value → Shared → Prop} (X : K.In s.heap) (I : PySem.W.InstAt s.heap x ox C od) (hs : PySem.W.findIn K (.ref C) "__ne__" = some (some (.builtin "object.__ne__")))
    (h : wpAny M A (call (.builtin "object.__ne__") (.ref x :: args)) (fun v => Q (some v)) E s) : wpAny M A (callSpecialIfBound? (.ref x) "__ne__" args) Q E s := by
  simp only [callSpecialIfBound?, bindSpecialIfBound?]
  refine wpAny_holding (wpAny_bind (wpAny_bind (wpAny_bind (I.type.here ((PySem.W.looks_findIn X hs).here ?_)))))
  refine wpAny_bind (wpAny_askSetting (wpAny_ite ?_))
  have fin : wpAny M A (call (.builtin "object.__ne__") ([.ref x] ++ args) >>= fun v => pure (some v)) Q E s := wpAny_bind (wpAny_mono h (fun v s' h' => wpAny_pure h') fun _ _ h' => h')
  split
  · exact wpAny_bind (wpAny_of_eq (F.cmp_object.ne.bind _) (wpAny_pure (by exact fin)))
  · exact wpAny_tryCatch (wpAny_bind (wpAny_of_eq (F.cmp_object.ne.bind _) (wpAny_pure (by exact fin))))
theorem objNe_entry {Q : Fin → Shared → Prop} (hu : A.units < cLine) (X : K.In s.heap) (I : PySem.W.InstAt s.heap x ox C od) (hs : PySem.W.findIn K (.ref C) "__eq__" = some (some (.ref f))) (hf : PySem.W.isFn K (.ref f) = true)
    (hcall : wpAny (model prog w) A (call (.ref f) [.ref x, .ref y]) (fun v s' => ∃ b, v = .bool b ∧ Q (.done (.ret (.bool (!b)))) s') E s) :
    wpAny (model prog w) A (Builtin.«object.__ne__» ⟨[.ref x, .ref y], []⟩) Q E s := by
  obtain ⟨h, g, d, t, os⟩ := s
  unfold Builtin.«object.__ne__»
  repeat (first
    | with_reducible refine wpAny_cRoomFor hu ?_
    | (refine wpAny_bind (m := callSpecialIfBound? (.ref x) (Str.ofString "__eq__") [.ref y])
        (PySem.W.ifBound_K X I hs hf (wpAny_mono hcall (fun r s' hr => by
          obtain ⟨b, rfl, hq⟩ := hr
          repeat (first | exact hq | exact wpAny_pure hq | exact wpAny_truthy_bool hq | (refine wpAny_bind (m := truthy (.bool _)) (wpAny_truthy_bool ?_)) | wp_step)) fun _ _ e => e)))
    | wp_step)
theorem call_objNe {Q : Value → Shared → Prop} (hu : A.units + 1 < cLine) (X : K.In s.heap) (I : PySem.W.InstAt s.heap x ox C od) (hm : PySem.W.mroIn K C (.type "object") = some true) (hs : PySem.W.findIn K (.ref C) "__eq__" = some (some (.ref f))) (hf : PySem.W.isFn K (.ref f) = true)
    (hcall : wpAny (model prog w) A.in1 (call (.ref f) [.ref x, .ref y]) (fun v s' => ∃ b, v = .bool b ∧ Q (.bool (!b)) s') E s) :
    wpAny (model prog w) A (call (.builtin "object.__ne__") [.ref x, .ref y]) Q E s :=
  wpAny_call (codeAny_call_builtin F.cmp_object.ne.plain F.cmpEntry_ne (PySem.W.check_slot F.cmpKind_ne F.cmpSplit_ne (I.type.andThen (PySem.W.looks_mroIn X hm)) (F.cmpArgs_ne _ _)
    (objNe_entry (A := A.in1) hu X I hs hf hcall)))
theorem ne_K {Q : Value → Shared → Prop} (hu : A.units + 1 < cLine) (X : K.In s.heap) (I : PySem.W.InstAt s.heap x ox C od) (hb : PySem.W.Looks (model prog w) s.heap (typeOf (.ref y)) tb) (hn : PySem.W.notFirst K C tb = true)
    (hne : PySem.W.findIn K (.ref C) "__ne__" = some (some (.builtin "object.__ne__"))) (hm : PySem.W.mroIn K C (.type "object") = some true) (hs : PySem.W.findIn K (.ref C) "__eq__" = some (some (.ref f))) (hf : PySem.W.isFn K (.ref f) = true)
    (hcall : wpAny (model prog w) A.in1 (call (.ref f) [.ref x, .ref y]) (fun v s' => ∃ b, v = .bool b ∧ Q (.bool (!b)) s') E s) :
    wpAny (model prog w) A (richCompare .NotEq (.ref x) (.ref y)) Q E s := by
  have one : wpAny (model prog w) A (tryCompare (.ref x) (cmpInfo .NotEq).2.1 (.ref y)) (fun r s' => ∃ v, r = some v ∧ Q v s') E s := by
    unfold tryCompare
    refine wpAny_bind (ifBound_objNe X I hne (call_objNe hu X I hm hs hf (wpAny_mono hcall (fun v s' hv => ?_) fun _ _ e => e)))
    obtain ⟨b, rfl, hq⟩ := hv
    exact ⟨b, rfl, wpAny_pure ⟨_, rfl, hq⟩⟩
  unfold richCompare
  simp only [oneThing_ref]
  refine wpAny_holding (wpAny_bind (wpAny_cRoomFor (Nat.lt_of_succ_lt hu) ?_))
  refine wpAny_bind (I.type.here (wpAny_bind (hb.here ?_)))
  split
  · rename_i q
    have e : PySem.W.subIn K tb (.ref C) = some false := by
      rcases Bool.or_eq_true_iff.mp hn with e | e
      · rw [beq_iff_eq.mp e] at q; simp at q
      · exact beq_iff_eq.mp e
    refine wpAny_bind ((PySem.W.looks_subIn X e).here ?_)
    simp only [Bool.false_eq_true, if_false]
    refine wpAny_bind (wpAny_mono one (fun r s' z => ?_) fun _ _ e => e)
    obtain ⟨v, rfl, hq⟩ := z
    exact wpAny_pure hq
  · refine wpAny_bind (wpAny_pure ?_)
    simp only [Bool.false_eq_true, if_false]
    refine wpAny_bind (wpAny_mono one (fun r s' z => ?_) fun _ _ e => e)
    obtain ⟨v, rfl, hq⟩ := z
    exact wpAny_pure hq
end
end MyN

set_option Elab.async false
set_option linter.all false
set_option maxRecDepth 100000
set_option maxHeartbeats 1000000
namespace MyR
open PySem PySem.Spec PyProof.Rows L2
/-- the class at C has its == at f, and no != of its own -/
structure EqC (K : PySem.W.Frag) (C f : Addr) : Prop where
  eq : PySem.W.findIn K (.ref C) "__eq__" = some (some (.ref f))
  ne : PySem.W.findIn K (.ref C) "__ne__" = some (some (.builtin "object.__ne__"))
  fn : PySem.W.isFn K (.ref f) = true
  mo : PySem.W.mroIn K C (.type "object") = some true
def rEqF (X : Cx) (neg : Bool) : R2 := fun x y H Q => ∃ (a b C dx dy : Addr) (fs gs : List (Str × V)) (f : Addr) (fd : FuncData) (ps : List Str) (sp : Sp) (k : Nat) (CX : CXT) (E : XK), x = .ref a ∧ y = .ref b ∧ H a = some (.ins C dx fs) ∧ H b = some (.ins C dy gs) ∧ EqC X.K C f ∧
  FnOk X.prog X.w X.K X.mg X.base CX k f fd ps sp ∧ Room (k + 1) X.A ∧ Binds X.K fd ps [] ∧ Passes CX X E ∧ sp [.ref a, .ref b] H (fun v H' => ∃ t : Bool, v = .bl t ∧ Q (.bl (if neg = true then !t else t)) H') E
section
variable {X : Cx}
theorem op_eqF : OpR X (compareOp .Eq) (rEqF X false) := by
  intro pins s σ H x y u v Q I rx ry h
  obtain ⟨a, b, C, dx, dy, fs, gs, f, fd, ps, sp, k, CX, E, rfl, rfl, ha, hb', c, F, hr, hb, hx, hsp⟩ := h
  cases rx
  cases ry
  obtain ⟨mA, J, _⟩ := ins_get I.hok ha
  obtain ⟨mB, J', _⟩ := ins_get I.hok hb'
  obtain ⟨od, J, _⟩ := J.look
  obtain ⟨od', J', _⟩ := J'.look
  obtain ⟨m, hF⟩ := I.fr
  show wpAny (model X.prog X.w) X.A (richCompare .Eq (.ref a) (.ref b)) (EP X pins σ Q) X.xe s
  refine PySem.W.cmp_K (op := .Eq) (tb := .ref C) hr.units0 hF I.ok.mod.kin J J'.type (by simp [PySem.W.notFirst]) c.eq c.fn ?_
  have e0 := I.env0
  have hl := F.len _ _ _ _ hsp
  have r2 : Vals [V.ref a, V.ref b] [Value.ref a, Value.ref b] := .cons rfl (.cons rfl .nil)
  refine wpAny_call (codeAny_mono (F.run X.A X.stack s H ⟨[.ref a, .ref b], []⟩ [.ref a, .ref b] [.ref a, .ref b] _ E (hr.mono (Nat.le_succ _)) e0 (by
    have := hb s [.ref a, .ref b] I.kIn (by simpa using hl)
    simpa using this) r2 hsp) fun r s' hq => ?_)
  cases r with
  | error e => exact hx pins σ H s e s' I hq
  | ok fl =>
    cases fl with
    | ret w =>
      obtain ⟨z, H', I', rz, t, ez, q⟩ := I.after hq
      subst ez
      cases rz
      exact ⟨.bl t, H', I', rfl, q⟩
    | next => exact False.elim hq
    | brk => exact False.elim hq
    | cont => exact False.elim hq
theorem op_neF : OpR X (compareOp .NotEq) (rEqF X true) := by
  intro pins s σ H x y u v Q I rx ry h
  obtain ⟨a, b, C, dx, dy, fs, gs, f, fd, ps, sp, k, CX, E, rfl, rfl, ha, hb', c, F, hr, hb, hx, hsp⟩ := h
  cases rx
  cases ry
  obtain ⟨mA, J, _⟩ := ins_get I.hok ha
  obtain ⟨mB, J', _⟩ := ins_get I.hok hb'
  obtain ⟨od, J, _⟩ := J.look
  obtain ⟨od', J', _⟩ := J'.look
  show wpAny (model X.prog X.w) X.A (richCompare .NotEq (.ref a) (.ref b)) (EP X pins σ Q) X.xe s
  refine MyN.ne_K (tb := .ref C) (hu_of hr) I.kIn J J'.type (by simp [PySem.W.notFirst]) c.ne c.mo c.eq c.fn ?_
  have e0 := I.env0
  have hl := F.len _ _ _ _ hsp
  have r2 : Vals [V.ref a, V.ref b] [Value.ref a, Value.ref b] := .cons rfl (.cons rfl .nil)
  refine wpAny_call (codeAny_mono (F.run X.A.in1 X.stack s H ⟨[.ref a, .ref b], []⟩ [.ref a, .ref b] [.ref a, .ref b] _ E hr.in1 e0.in1 (by
    have := hb s [.ref a, .ref b] I.kIn (by simpa using hl)
    simpa using this) r2 hsp) fun r s' hq => ?_)
  cases r with
  | error e => exact hx pins σ H s e s' I hq
  | ok fl =>
    cases fl with
    | ret w =>
      obtain ⟨z, H', I', rz, t, ez, q⟩ := I.after hq
      subst ez
      cases rz
      exact ⟨t, rfl, .bl (!t), H', I', rfl, q⟩
    | next => exact False.elim hq
    | brk => exact False.elim hq
    | cont => exact False.elim hq
end
end MyR

set_option Elab.async false
set_option linter.all false
set_option maxRecDepth 100000
set_option maxHeartbeats 1000000
namespace MyR
open PySem PySem.Spec PyProof.Rows L2
/-- len of an object whose class has its own -/
def rLenF (X : Cx) : List V → Hp → VK → Prop := fun xs H Q => ∃ (a C dx : Addr) (fs : List (Str × V)) (f : Addr) (fd : FuncData) (ps : List Str) (sp : Sp) (k : Nat) (CX : CXT) (E : XK), xs = [.ref a] ∧ H a = some (.ins C dx fs) ∧
  PySem.W.findIn X.K (.ref C) "__len__" = some (some (.ref f)) ∧ PySem.W.isFn X.K (.ref f) = true ∧ FnOk X.prog X.w X.K X.mg X.base CX k f fd ps sp ∧ Room (k + 1) X.A ∧ Binds X.K fd ps [] ∧ Passes CX X E ∧
  sp [.ref a] H (fun v H' => ∃ n : Int, v = .int n ∧ 0 ≤ n ∧ n < 9223372036854775808 ∧ Q (.int n) H') E
theorem call_lenF {X : Cx} : CallR X (.builtin "len") (rLenF X) := by
  intro pins s σ H xs us Q I r h
  obtain ⟨a, C, dx, fs, f, fd, ps, sp, k, CX, E, rfl, ha, hfi, hfn, F, hr, hb, hx, hsp⟩ := h
  obtain ⟨u, rfl, ru⟩ := vals1 r
  obtain rfl : u = Value.ref a := ru
  obtain ⟨mA, J, _⟩ := ins_get I.hok ha
  obtain ⟨od, J, _⟩ := J.look
  obtain ⟨m, hF⟩ := I.fr
  refine PySem.W.len_K hF I.ok.mod.kin J hfi hfn ?_
  have e0 := I.env0
  have hl := F.len _ _ _ _ hsp
  have r2 : Vals [V.ref a] [Value.ref a] := .cons rfl .nil
  refine wpAny_call (codeAny_mono (F.run X.A.in1 X.stack s H ⟨[.ref a], []⟩ [.ref a] [.ref a] _ E hr.in1 e0.in1 (by
    have := hb s [.ref a] I.kIn (by simpa using hl)
    simpa using this) r2 hsp) fun r s' hq => ?_)
  cases r with
  | error e => exact hx pins σ H s e s' I hq
  | ok fl =>
    cases fl with
    | ret w =>
      obtain ⟨z, H', I', rz, n, ez, n0, n1, q⟩ := I.after hq
      subst ez
      obtain ⟨t, rfl⟩ := rz
      exact ⟨⟨n0, by omega⟩, ⟨.int n, H', I'.tok _, ⟨_, rfl⟩, q⟩⟩
    | next => exact False.elim hq
    | brk => exact False.elim hq
    | cont => exact False.elim hq
end MyR

set_option Elab.async false
set_option linter.all false
set_option maxRecDepth 100000
set_option maxHeartbeats 1000000
namespace MyR
open PySem PySem.Spec PyProof.Rows L2
/-! ### promises kept where no repr is on its way -/
section
variable {P : Program} {w : World} {K : PySem.W.Frag} {mg : Str → Option Value} {base : Heap} {CX : CXT} {k : Nat} {f : Addr} {fd : FuncData} {ps : List Str} {sp : Sp}
structure FnOkG (P : Program) (w : World) (K : PySem.W.Frag) (mg : Str → Option Value) (base : Heap) (CX : CXT) (k : Nat) (f : Addr) (fd : FuncData) (ps : List Str) (sp : Sp) : Prop where
  len : ∀ vs H Q E, sp vs H Q E → vs.length = ps.length
  run : ∀ (A : Around), A.guards = some [] → ∀ (outer : List Env) (s : Shared) (H : Hp) (args : Args) (us : List Value) (vs : List V) (Q : VK) (E : XK), Room k A → Env0 P w K mg base A outer s H → BindsTo s fd args (ps.zip us) → Vals vs us → sp vs H Q E →
    codeAny (model P w) A (.call (.ref f) args) (CR CX outer P w H s Q E) s
theorem FnOkG.of (F : FnOk P w K mg base CX k f fd ps sp) : FnOkG P w K mg base CX k f fd ps sp := ⟨F.len, fun A _ => F.run A⟩
theorem deeper_guards {A : Around} {env : Env} (h : A.guards = some []) : (A.deeper env).guards = some [] := h
/-- a def by its body, as Fun.ok; the body knows that no repr is on its way -/
theorem okG {x qual : Str} {st : Stmt} {N : List Str} (F : Fun K x qual st f fd) (S : FnScope N ps (defScope st)) (len : ∀ vs H Q E, sp vs H Q E → vs.length = ps.length)
    (body : ∀ (cdv : Value) (A : Around), A.guards = some [] → ∀ (outer : List Env) (s : Shared) (H : Hp) (vs : List V) (Q : VK) (E : XK), Room k (A.deeper (envOfC qual (defScope st) s.heap.objs.size f cdv)) → sp vs H Q E →
      ∃ t, PSs (cxOf CX0 P w K mg base N qual (defScope st) f cdv A outer s H E).nox (defBody st) t ∧ t { nx := fun _ H' => Q .non H', rt := Q } (start N vs) H) : FnOkG P w K mg base CX0 (k + 1) f fd ps sp where
  len := len
  run A hg outer s H args us vs Q E room env bind vals want := by
    obtain ⟨oc, od, kV, doc, pm, an, cdv, ct, osl, rfl, at_, code⟩ := F.ex
    obtain ⟨t, derived, reading⟩ := body cdv A hg outer s H vs Q E (room.deeper _) want
    have held : ∀ b o, base.get? b = some o → s.heap.get? b = some o := fun b o e => (env.bs b o e).1
    have written : K.In s.heap := env.mod.kin.keeps held
    have local_ : ∀ y ∈ ps.zip us, (defScope st).names.lookup y.1 = some .local ∨ ((defScope st).names.lookup y.1 = some .cell ∧ ((cellsFrom (s.heap.objs.size + 1) (defScope st).names []).lookup y.1).isSome = true) := by
      rintro ⟨n, v⟩ hy
      exact (S.par n (List.of_mem_zip hy).1).imp id fun q => ⟨q, PySem.W.cellsFrom_some _ _ _ (.inl q)⟩
    refine codeAny_call_function room.depth (written _ _ at_) rfl S.co S.gen rfl (PySem.W.codeRec_of written code) (bind _ _ _ _ ?_)
    refine wpAny_newFunctionEnv_cells S.kind local_ fun e he s1 entered => ?_
    subst he
    refine ⟨(env.mod.nolimit.keeps held).keeps entered.toInCall.keep, codeAny_func ?_⟩
    refine wpAny_mono (derived.nox.run [] s1 (start N vs) H _ (inv_start S room.hd env (len _ _ _ _ want) vals entered) reading) (fun fl s' hs => ?_) fun e s' hs => hs
    cases fl with
    | brk => exact (let ⟨_, _, _, z⟩ := hs; z).elim
    | cont => exact (let ⟨_, _, _, z⟩ := hs; z).elim
    | ret u =>
      obtain ⟨v, _, H', J, rv, q⟩ := hs
      exact ⟨v, H', J.os, J.bare, J.base, J.hok, rv, q⟩
    | next =>
      obtain ⟨_, H', J, q⟩ := hs
      exact ⟨.non, H', J.os, J.bare, J.base, J.hok, rfl, q⟩
end
section
variable {X : Cx} {CX : CXT} {k : Nat} {f : Addr} {fd : FuncData} {ps : List Str} {sp : Sp} {ds : List Value} {dvs : List V} {E : XK} {x : Str} {p pos : Pos} {e : Expr} {es : List Expr} {t : TA}
/-- f(e, ..) of such a def -/
theorem pe_callG (F : FnOkG X.prog X.w X.K X.mg X.base CX k f fd ps sp) (hgd : X.A.guards = some []) (hr : Room k X.A) (hg : Gl X x) (hm : X.mg x = some (.ref f)) (hk : PySem.W.keepIn X.K (.ref f) = true) (hb : Binds X.K fd ps ds) (hd : Vals dvs ds) (hx : Passes CX X E)
    (ha : PA X (e :: es) t) (hdb : (x == ("__debug__" : Str)) = false := by decide) (he : starEach (e :: es) X.env = (false, eval e X.env) :: starEach es X.env := by rfl) (hpl : (backTo pos (starEach es X.env)).any (·.1) = false := by rfl) :
    PE X (.Call (.Name x p) (e :: es) [] pos) (tCall sp dvs E t) where
  run pins s σ H Q I h := by
    refine wpAny_Call_Name_kw (ld_glob I hg hm (PySem.W.callWith_K (h₀ := X.base) I.ok.mod.kin hk (thn (ha.run pos pins s σ H _ I h) fun us s1 got => ?_) he hpl) hdb)
    obtain ⟨vs, H1, I1, r, q⟩ := got
    refine ⟨I1.kIn, wpAny_call ?_⟩
    have long : (us ++ ds).length = ps.length := by rw [← (r.append hd).length]; exact F.len _ _ _ _ q
    refine codeAny_mono (F.run X.A hgd X.stack s1 H1 ⟨us, []⟩ (us ++ ds) (vs ++ dvs) Q E hr I1.env0 (hb s1 us I1.kIn long) (r.append hd) q) fun res s' hq => ?_
    match res, hq with
    | .error e, hq => exact hx pins σ H1 s1 e s' I1 hq
    | .ok (.ret u), hq => exact I1.after hq
/-- repr of None, and of lists and tuples of data at any depth -/
def rReprD (K : PySem.W.Frag) : List V → Hp → VK → Prop := fun xs H Q => (xs = [.non] ∧ Q (.str "None") H) ∨
  ∃ (a : Addr) (d : PyData), xs = [.ref a] ∧ Dp K H (.ref a) d ∧ d.showable = true ∧ d.hasDict = false ∧ d.depth ≤ 60 ∧ d.shown.length ≤ sizeLine ∧ Q (.str d.shown) H
theorem call_reprD (hgd : X.A.guards = some []) (hu : X.A.units + 64 < cLine) : CallR X (.builtin "repr") (rReprD X.K) := by
  intro pins s σ H xs us Q I r h
  rcases h with ⟨rfl, q⟩ | ⟨a, d, rfl, hd, sh, nd, deep, long, q⟩
  · obtain ⟨u, rfl, ru⟩ := vals1 r
    obtain rfl : u = Value.none := ru
    exact PySem.P.repr_of_none ⟨.str "None", H, I.tok _, ⟨_, rfl⟩, q⟩
  · obtain ⟨u, rfl, ru⟩ := vals1 r
    obtain rfl : u = Value.ref a := ru
    obtain ⟨as, rd⟩ := Dp.reads I d _ _ hd rfl
    exact repr_of_reads' rd sh (fun e => by rw [nd] at e; cases e) hgd (by omega) (fun _ _ e => e) (fun h' u tk keep => ⟨.str d.shown, H, I.kept (t' := tk) keep, ⟨u, rfl⟩, q⟩) long
end
end MyR

set_option Elab.async false
set_option linter.all false
set_option maxRecDepth 100000
set_option maxHeartbeats 1000000
namespace MyR
open PySem PySem.Spec PyProof.Rows L2
/-! ### the end of a law whose def knows that no repr is on its way -/
section
variable {P : Program} {w : World} {K : PySem.W.Frag} {mg mb : Str → Option Value} {a : Addr} {s : Shared} {vs : List Value} {ns : List Int}
/-- the heap that the law begins with: the script alone, or nothing where the script is the module's own -/
theorem first_heap (written : K.In s.heap) (script : s.heap.get? a = some { cls := .type "list", data := .seq vs.toArray }) (whole : IntsAre vs ns) (fits : ns.length ≤ sizeLine) :
    ∃ H : Hp, Only H ∧ SqL K H a (ns.map V.int) ∧ HOk P w H s.heap ∧ ∀ b u, H b = some u → b = a ∧ K.lookup a = none ∧ u = .frz { cls := .type "list", data := .seq vs.toArray } (.lst (ns.map V.int)) := by
  have rv := vals_ints whole
  cases found : K.lookup a with
  | some o =>
    have same := written a o found
    rw [script] at same
    obtain rfl := Option.some.inj same
    refine ⟨fun _ => none, fun _ => .inl rfl, .inr ⟨_, vs.toArray, _, found, rfl, rfl, rfl, by rw [List.size_toArray, whole.length]; exact fits, by simpa using rv⟩, fun b u e => ?_, fun b u e => ?_⟩
    · exact absurd (show (none : Option HO) = some u from e) (by simp)
    · exact absurd (show (none : Option HO) = some u from e) (by simp)
  | none =>
    let o : Obj := { cls := .type "list", data := .seq vs.toArray }
    let one : HO := .frz o (.lst (ns.map V.int))
    have only : ∀ b u, (if b = a then some one else none : Option HO) = some u → b = a ∧ u = one := fun b u e => by
      split at e
      · exact ⟨by assumption, (Option.some.inj e).symm⟩
      · cases e
    refine ⟨fun b => if b = a then some one else none, fun b => ?_, .inl (.inr ⟨o, if_pos rfl⟩), fun b u e => ?_, fun b u e => ⟨(only b u e).1, rfl, (only b u e).2⟩⟩
    · by_cases hb : b = a
      · exact .inr ⟨_, _, if_pos hb⟩
      · exact .inl (if_neg hb)
    · obtain ⟨rfl, rfl⟩ := only b u e
      exact ⟨script, by rw [List.length_map]; exact fits, vs, _, rv, script⟩
variable {CX : CXT} {k : Nat} {fa : Addr} {fd : FuncData} {x : Str} {sp : Sp}
theorem law_callG (written : K.In s.heap) (names : s.heap.Ns mainGlobals mg) (blt : s.heap.Ns builtinsNs mb) (bltIs : ∀ x : Str, x ≠ "__name__" → mb x = bootBuiltins x) (free : s.heap.NoLimit) (noGens : s.gens = #[])
    (script : s.heap.get? a = some { cls := .type "list", data := .seq vs.toArray }) (whole : IntsAre vs ns) (fits : ns.length ≤ sizeLine) (room : Room k callerA)
    (F : ∀ base : Heap, K.In base → base.Ns mainGlobals mg → FnOkG P w K mg base CX k fa fd [x] sp) (bind : ∀ (s : Shared) (u : Value), BindsTo s fd ⟨[u], []⟩ [(x, u)])
    (want : ∀ H : Hp, Only H → SqL K H a (ns.map V.int) → sp [.ref a] H (fun v _ => v = .bl true) fun _ _ _ => False) (quiet : ∀ H e s', CX [] H s (fun _ _ _ => False) e s' → False) :
    codeAny (model P w) callerA (.call (.ref fa) ⟨[.ref a], []⟩) (fun r s' => r = .ok (.ret (.bool true)) ∧ OldK s.heap s'.heap ∧ s'.os = s.os ∧ AllBare s'.gens) s := by
  obtain ⟨H, only, sq, hok, known⟩ := first_heap (P := P) (w := w) written script whole fits
  -- what is no dict's or the written part's stands with the script hidden
  have hid : ∀ {b : Addr} {o : Obj}, s.heap.get? b = some o → (b = a → False) → (hidT s.heap H).get? b = some o := fun {b o} e nb => hidT_get e (by
    cases q : H b with
    | none => rfl
    | some u => exact (nb (known b u q).1).elim)
  have dicts : ∀ {b : Addr} {m : Str → Option Value}, s.heap.Ns b m → (hidT s.heap H).Ns b m := fun {b m} n => by
    obtain ⟨o, es, ep, e, d, r⟩ := n
    refine ⟨o, es, ep, hid e (fun z => ?_), d, r⟩
    subst z
    rw [script] at e
    obtain rfl := Option.some.inj e
    exact absurd (show Data.seq vs.toArray _ = Data.dict es ep from d) (by simp)
  have kin : K.In (hidT s.heap H) := fun b o e => hidT_get (written b o e) (by
    cases q : H b with
    | none => rfl
    | some u =>
      obtain ⟨rfl, no, _⟩ := known b u q
      rw [no] at e
      cases e)
  have mod : Mod K mg (hidT s.heap H) := ⟨kin, dicts names, ⟨mb, dicts blt, bltIs⟩, let ⟨mc, h1, h2⟩ := free; ⟨mc, dicts h1, h2⟩⟩
  have env : Env0 P w K mg (hidT s.heap H) callerA [] s H := ⟨rfl, mod, fun b o e => of_hidT e, Nat.le_of_eq (hidT_size _ _), trivial, fun b hb => (List.not_mem_nil (show b ∈ ([] : List Addr) from hb)).elim, hok, .of_eq noGens⟩
  refine codeAny_mono ((F _ kin (dicts names)).run callerA rfl [] s H ⟨[.ref a], []⟩ [.ref a] [.ref a] _ _ room env (bind s (.ref a)) (.cons rfl .nil) (want H only sq)) fun r s' h => ?_
  match r, h with
  | .error e, h => exact (quiet H e s' h).elim
  | .ok (.ret u), h =>
    obtain ⟨v, H', os, bare, un, hok', r', q⟩ := h
    obtain rfl : v = .bl true := q
    obtain rfl : u = Value.bool true := r'
    refine ⟨rfl, OldK.of_keep fun b o e => ?_, os, bare⟩
    cases q : H b with
    | none => exact un.keep b o e q (fun z => nomatch z) (by simp)
    | some u =>
      obtain ⟨rfl, _, rfl⟩ := known b u q
      have e2 := (hok' _ _ (un.frzs _ _ _ q)).1
      rw [script] at e
      rw [← Option.some.inj e]
      exact e2
end
theorem walk_ofG {l : PySem.W.OpenLaw} {n k : Nat} {q : Program} {loose : List Str} {XP : (Str → Option Value) → Heap → Prop} {YP : World → Heap → Prop} {d : DefRec} {K : Params → PySem.W.Frag} {CX : World → CXT} {sp : World → Sp} {x : Str}
    (most : l.most = some n) (line : n ≤ sizeLine) (plain : d.params.defaults = []) (room : Room k callerA) (top : ∀ (w : World) (h : Heap), YP w h → (K w.params).In h)
    (F : ∀ (w : World) (mg : Str → Option Value) (fa : Addr) (h : Heap), (K w.params).In h → h.Ns mainGlobals mg → mg d.name = some (.ref fa) →
      ∃ fd : FuncData, (∀ (s : Shared) (u : Value), BindsTo s fd ⟨[u], []⟩ [(x, u)]) ∧ ∀ base : Heap, (K w.params).In base → base.Ns mainGlobals mg → FnOkG l.prog w (K w.params) mg base (CX w) k fa fd [x] (sp w))
    (want : ∀ (w : World) (H : Hp) (a : Addr) (ns : List Int), ns.length ≤ n → Only H → SqL (K w.params) H a (ns.map V.int) → sp w [.ref a] H (fun v _ => v = .bl true) fun _ _ _ => False)
    (quiet : ∀ (w : World) (H : Hp) (s : Shared) (e : Value) (s' : Shared), CX w [] H s (fun _ _ _ => False) e s' → False) : PySem.W.WalkO q loose XP YP l.row.toRowW d [] (fun f vs => PySem.call f vs) :=
  Att.attach_call most plain fun w s₀ s₁ mg mb fa o pm cd doc a vs ns G Y _ _ _ hmg hobj hints hlen hgen => by
    obtain ⟨fd, bind, hF⟩ := F w mg fa _ (top w _ Y) G.T.g hmg
    exact law_callG (top w _ Y) G.T.g G.T.b G.T.builtins G.T.nolimit hgen hobj hints (Nat.le_trans hlen line) room hF bind (fun H only sq => want w H a ns hlen only sq) fun H e s' => quiet w H s₁ e s'
end MyR

set_option Elab.async false
set_option linter.all false
set_option maxRecDepth 100000
set_option maxHeartbeats 1000000
namespace My
open PySem L2 MyR
structure Df (P : Program) (w : World) (K : PySem.W.Frag) (mg : Str → Option Value) (base : Heap) (k : Nat) (x : Str) (ps : List Str) (sp : Sp) where
  f : Addr
  fd : FuncData
  ok : FnOk P w K mg base CX0 k f fd ps sp
  g : mg x = some (.ref f)
  kp : PySem.W.keepIn K (.ref f) = true
  b : Binds K fd ps []
theorem Deal.new {H : Hp} {d l p : Addr} {o : HO} (D : Deal H d l) (h : H p = none) : Deal (upd H p o) d l := by
  obtain ⟨s, n, ns, hd, hl, r⟩ := D.ex
  exact ⟨⟨s, n, ns, by rw [upd_ne (ne_of_none hd h)]; exact hd, by rw [upd_ne (ne_of_none hl h)]; exact hl, r⟩⟩
theorem Deal.other {H : Hp} {d l p : Addr} {o : HO} (D : Deal H d l) (h1 : p ≠ d) (h2 : p ≠ l) : Deal (upd H p o) d l := by
  obtain ⟨s, n, ns, hd, hl, r⟩ := D.ex
  exact ⟨⟨s, n, ns, by rw [upd_ne (Ne.symm h1)]; exact hd, by rw [upd_ne (Ne.symm h2)]; exact hl, r⟩⟩
theorem Deal.free {H : Hp} {d l p : Addr} (D : Deal H d l) (h : H p = none) : p ≠ d ∧ p ≠ l := by
  obtain ⟨s, n, ns, hd, hl, r⟩ := D.ex
  exact ⟨Ne.symm (ne_of_none hd h), Ne.symm (ne_of_none hl h)⟩
theorem Deal.same {H H' : Hp} {d l : Addr} (D : Deal H d l) (s : Same H H') : Deal H' d l := by
  obtain ⟨z, n, ns, hd, hl, r⟩ := D.ex
  exact ⟨z, n, ns, s _ _ hd, s _ _ hl, r⟩
theorem Deal.nt {H : Hp} {d l p : Addr} {xs : List V} (D : Deal H d l) (h : H p = some (.tup xs)) : p ≠ d ∧ p ≠ l := by
  obtain ⟨z, n, ns, hd, hl, r⟩ := D.ex
  exact ⟨ne_of h hd (by intro z; cases z), ne_of h hl (by intro z; cases z)⟩
theorem Deal.ni {H : Hp} {d l p C dx : Addr} {fs : List (Str × V)} (D : Deal H d l) (h : H p = some (.ins C dx fs)) : p ≠ d ∧ p ≠ l := by
  obtain ⟨z, n, ns, hd, hl, r⟩ := D.ex
  exact ⟨ne_of h hd (by intro z; cases z), ne_of h hl (by intro z; cases z)⟩
theorem Kept.new {d l p : Addr} {H H1 : Hp} {o : HO} (a : Kept d l H H1) (h : H p = none) : Kept d l H (upd H1 p o) := fun c u e h1 h2 => by rw [upd_ne (ne_of_none e h)]; exact a c u e h1 h2
theorem Kept.of {d l : Addr} {H H' : Hp} (s : Same H H') : Kept d l H H' := fun b o e _ _ => s b o e
theorem Kept.free {d l p : Addr} {H H1 : Hp} (k : Kept d l H H1) (D : Deal H1 d l) (h : H1 p = none) : H p = none := by
  obtain ⟨n1, n2⟩ := D.free h
  cases e : H p with
  | none => rfl
  | some o => rw [k p o e n1 n2] at h; cases h
theorem new_same {H : Hp} {p : Addr} {o : HO} (h : H p = none) : Same H (upd H p o) := fun b q e => by rw [upd_ne (ne_of_none e h)]; exact e
theorem Same.tr {H H1 H2 : Hp} (a : Same H H1) (b : Same H1 H2) : Same H H2 := fun c o e => b c o (a c o e)
theorem same_free {H H1 : Hp} {p : Addr} (s : Same H H1) (h : H1 p = none) : H p = none := by
  cases e : H p with
  | none => rfl
  | some o => rw [s p o e] at h; cases h

/-! ### rows of code -/
structure Rw where
  w : Str
  xs : List Int
def Rw.vs (r : Rw) : List V := .str r.w :: r.xs.map V.int
def forms : List (Str × Str) := [("set", "WI"), ("copy", "WR"), ("add", "WRR"), ("sub", "WRR"), ("mul", "WRR"), ("left", "WR"), ("right", "WR"), ("load", "WS"), ("store", "SR"), ("skip", "RMCN")]
def mods : List Int := [1, 2, 4, 8, 16, 32, 64]
/-- a number that may stand behind a letter -/
def itOk (c : Nat) (z : Int) : Prop :=
  (c = 73 ∧ -18446744073709551616 < z ∧ z < 18446744073709551616) ∨ ((c = 87 ∨ c = 82) ∧ 0 ≤ z ∧ z ≤ 7) ∨ (c = 83 ∧ 0 ≤ z ∧ z ≤ 999) ∨ (c = 77 ∧ z ∈ mods) ∨ ((c = 67 ∨ c = 78) ∧ 0 ≤ z ∧ z ≤ 1000)
/-- a row that may stand -/
def Rw.ok (r : Rw) : Prop := (∃ f, (r.w, f) ∈ forms ∧ r.xs.length = f.cps.size ∧ ∀ (i c : Nat) (z : Int), f.cps[i]? = some c → r.xs[i]? = some z → itOk c z) ∧
  (r.w = ("skip" : Str) → ∃ a m c n : Int, r.xs = [a, m, c, n] ∧ c < m)
/-- it skips no rows that are not there: left rows stand behind it -/
def Rw.fits (r : Rw) (left : Int) : Prop := r.w = ("skip" : Str) → ∃ a m c n : Int, r.xs = [a, m, c, n] ∧ n ≤ left
def RowAt (H : Hp) (r : Rw) (p : Addr) : Prop := H p = some (.tup r.vs)
theorem RowAt.same {H H' : Hp} {r : Rw} {p : Addr} (h : RowAt H r p) (s : Same H H') : RowAt H' r p := s _ _ h
theorem RowAt.kept {H H' : Hp} {r : Rw} {p d l : Addr} (h : RowAt H r p) (D : Deal H d l) (k : Kept d l H H') : RowAt H' r p := k _ _ h (D.nt h).1 (D.nt h).2
/-- the tables of the program -/
structure Tabs (w : World) (K : PySem.W.Frag) (mg : Str → Option Value) : Prop where
  limit : ∃ t, mg "LIMIT" = some (.int 18446744073709551616 t)
  rows : ∃ t, mg "MOST_ROWS" = some (.int 1000 t)
  regs : ∃ t, mg "MOST_REGISTERS" = some (.int 8 t)
  slots : ∃ t, mg "SLOTS" = some (.int 1000 t)
  moduli : ∃ a, mg "MODULI" = some (.ref a) ∧ ∀ H, SqT K H a (mods.map V.int)
  forms : ∃ a, mg "FORMS" = some (.ref a) ∧ (∃ es n, KDict K w a es n) ∧ ∀ x f, (x, f) ∈ forms → KDct K w a x (.str f)
def sg (c : Nat) : Str := ⟨#[c]⟩
theorem sg_inj {a b : Nat} : sg a = sg b ↔ a = b := by
  constructor
  · intro h
    have h1 : (sg a).cps = (sg b).cps := congrArg Str.cps h
    have h2 : (#[a] : Array Nat) = #[b] := h1
    simpa using h2
  · intro h; rw [h]
theorem sg_eq (c b : Nat) (x : Str) (hx : x = sg b) : decide (V.str (sg c) = V.str x) = decide (c = b) := by
  subst hx
  refine decide_eq_decide.mpr ⟨fun h => ?_, fun h => by rw [h]⟩
  exact sg_inj.mp (V.str.inj h)
theorem sg_I : ("I" : Str) = sg 73 := by decide +kernel
theorem sg_S : ("S" : Str) = sg 83 := by decide +kernel
theorem sg_M : ("M" : Str) = sg 77 := by decide +kernel
theorem wr_cps : ("WR" : Str).cps.toList = [87, 82] := by decide +kernel

theorem in_mods {z : Int} (h : z ∈ mods) : inV (.int z) (mods.map V.int) = true := by
  unfold inV
  rw [List.any_map]
  exact List.any_eq_true.mpr ⟨z, h, by show (z == z) = true; exact beq_self_eq_true z⟩
theorem mods_bound : ∀ z ∈ mods, (1 : Int) ≤ z ∧ z ≤ 64 := by decide
theorem mods_flat : (mods.map V.int).all flatV = true := by decide
/-! ### rows in the heap -/
structure RowsAt (H : Hp) (rs : List Rw) (as : List Addr) : Prop where
  len : as.length = rs.length
  at_ : ∀ (i : Nat) r, rs[i]? = some r → ∃ p, as[i]? = some p ∧ RowAt H r p
theorem RowsAt.nil {H : Hp} : RowsAt H [] [] := ⟨rfl, fun i r h => by simp at h⟩
theorem RowsAt.same {H H' : Hp} {rs : List Rw} {as : List Addr} (h : RowsAt H rs as) (s : Same H H') : RowsAt H' rs as := ⟨h.len, fun i r e => let ⟨p, e1, e2⟩ := h.at_ i r e; ⟨p, e1, e2.same s⟩⟩
theorem RowsAt.kept {H H' : Hp} {rs : List Rw} {as : List Addr} {d l : Addr} (h : RowsAt H rs as) (D : Deal H d l) (k : Kept d l H H') : RowsAt H' rs as := ⟨h.len, fun i r e => let ⟨p, e1, e2⟩ := h.at_ i r e; ⟨p, e1, e2.kept D k⟩⟩
theorem RowsAt.upd {H : Hp} {rs : List Rw} {as : List Addr} {D : Addr} {xs : List V} {o : HO} (h : RowsAt H rs as) (hD : H D = some (.lst xs)) : RowsAt (upd H D o) rs as :=
  ⟨h.len, fun i r e => let ⟨p, e1, e2⟩ := h.at_ i r e; ⟨p, e1, by unfold RowAt; rw [upd_ne (ne_of e2 hD (by intro z; cases z))]; exact e2⟩⟩
theorem RowsAt.updN {H : Hp} {rs : List Rw} {as : List Addr} {D : Addr} {o : HO} (h : RowsAt H rs as) (hD : H D = none) : RowsAt (L2.upd H D o) rs as := h.same (new_same hD)
theorem RowsAt.snoc {H : Hp} {rs : List Rw} {as : List Addr} {r : Rw} {p : Addr} (h : RowsAt H rs as) (hp : RowAt H r p) : RowsAt H (rs ++ [r]) (as ++ [p]) := by
  refine ⟨by rw [List.length_append, List.length_append, h.len]; rfl, fun i r' e => ?_⟩
  by_cases hi : i < rs.length
  · rw [List.getElem?_append_left hi] at e
    obtain ⟨q, e1, e2⟩ := h.at_ i r' e
    exact ⟨q, by rw [List.getElem?_append_left (by rw [h.len]; exact hi)]; exact e1, e2⟩
  · rw [List.getElem?_append_right (by omega)] at e
    have h0 : i - rs.length = 0 := by
      by_cases h1 : i - rs.length = 0
      · exact h1
      · rw [List.getElem?_eq_none (by simp only [List.length_cons, List.length_nil]; omega)] at e
        cases e
    rw [h0] at e
    have e' : r = r' := Option.some.inj e
    refine ⟨p, ?_, by rw [← e']; exact hp⟩
    rw [List.getElem?_append_right (by rw [h.len]; omega), h.len, h0]
    rfl
def refs (as : List Addr) : List V := as.map V.ref
theorem refs_len (as : List Addr) : (refs as).length = as.length := List.length_map ..
theorem refs_at {as : List Addr} {i : Nat} {p : Addr} (h : as[i]? = some p) : (refs as)[i]? = some (.ref p) := by unfold refs; rw [List.getElem?_map, h]; rfl
def LstAt (H : Hp) (rs : List Rw) (a : Addr) : Prop := ∃ as : List Addr, H a = some (.lst (refs as)) ∧ RowsAt H rs as
theorem cut_front (a b : List V) (k : Nat) (hk : a.length = k) : cutV (a ++ b) none (some (k : Int)) = a := by
  unfold cutV
  rw [HT.sIx_nat]
  show ((a ++ b).drop 0).take (min k (a ++ b).length - 0) = a
  rw [List.drop_zero, List.length_append, Nat.sub_zero, show min k (a.length + b.length) = a.length by omega, List.take_left]
theorem not_whole_front (a b : List V) (k : Nat) (hk : a.length = k) (hb : b ≠ []) : ¬ (HT.sIx (a ++ b).length 0 none = 0 ∧ HT.sIx (a ++ b).length (a ++ b).length (some (k : Int)) = (a ++ b).length) := by
  rintro ⟨_, h⟩
  rw [HT.sIx_nat, List.length_append] at h
  have : 0 < b.length := List.length_pos_iff.mpr hb
  omega

/-! ### items and rows of any kind -/
inductive It
  | int (z : Int)
  | bl (b : Bool)
  | non
  | str (s : Str)
  | emp
inductive Rv
  | it (i : It)
  | tup (xs : List It)
  | lst (xs : List It)
inductive All2 {α β : Type} (R : α → β → Prop) : List α → List β → Prop
  | nil : All2 R [] []
  | cons {a : α} {b : β} {as : List α} {bs : List β} : R a b → All2 R as bs → All2 R (a :: as) (b :: bs)
namespace All2
variable {α β : Type} {R S : α → β → Prop}
theorem len : ∀ {as : List α} {bs : List β}, All2 R as bs → as.length = bs.length
  | _, _, .nil => rfl
  | _, _, .cons _ h => by rw [List.length_cons, List.length_cons, h.len]
theorem mono (f : ∀ a b, R a b → S a b) : ∀ {as : List α} {bs : List β}, All2 R as bs → All2 S as bs
  | _, _, .nil => .nil
  | _, _, .cons h t => .cons (f _ _ h) (t.mono f)
theorem app : ∀ {as : List α} {bs : List β} {cs : List α} {ds : List β}, All2 R as bs → All2 R cs ds → All2 R (as ++ cs) (bs ++ ds)
  | _, _, _, _, .nil, h => h
  | _, _, _, _, .cons x t, h => .cons x (t.app h)
theorem take : ∀ {as : List α} {bs : List β} (n : Nat), All2 R as bs → All2 R (as.take n) (bs.take n)
  | _, _, 0, _ => by rw [List.take_zero, List.take_zero]; exact .nil
  | _, _, _ + 1, .nil => .nil
  | _, _, n + 1, .cons x t => .cons x (t.take n)
theorem drop : ∀ {as : List α} {bs : List β} (n : Nat), All2 R as bs → All2 R (as.drop n) (bs.drop n)
  | _, _, 0, h => h
  | _, _, _ + 1, .nil => .nil
  | _, _, n + 1, .cons _ t => t.drop n
theorem get : ∀ {as : List α} {bs : List β} {i : Nat} {b : β}, All2 R as bs → bs[i]? = some b → ∃ a, as[i]? = some a ∧ R a b
  | _, _, _, _, .nil, h => by simp at h
  | _, _, 0, _, .cons x _, h => by
    obtain rfl := Option.some.inj h
    exact ⟨_, rfl, x⟩
  | _, _, i + 1, _, .cons _ t, h => t.get (i := i) h
theorem getL : ∀ {as : List α} {bs : List β} {i : Nat} {a : α}, All2 R as bs → as[i]? = some a → ∃ b, bs[i]? = some b ∧ R a b
  | _, _, _, _, .nil, h => by simp at h
  | _, _, 0, _, .cons x _, h => by
    obtain rfl := Option.some.inj h
    exact ⟨_, rfl, x⟩
  | _, _, i + 1, _, .cons _ t, h => t.getL (i := i) h
theorem set : ∀ {as : List α} {bs : List β} {a : α} {b : β} (i : Nat), All2 R as bs → R a b → All2 R (as.set i a) (bs.set i b)
  | _, _, _, _, _, .nil, _ => .nil
  | _, _, _, _, 0, .cons _ t, h => .cons h t
  | _, _, _, _, i + 1, .cons x t, h => .cons x (t.set i h)
theorem rev : ∀ {as : List α} {bs : List β}, All2 R as bs → All2 R as.reverse bs.reverse
  | _, _, .nil => .nil
  | _, _, .cons x t => by
    rw [List.reverse_cons, List.reverse_cons]
    exact t.rev.app (.cons x .nil)
end All2
def ItAt (H : Hp) (v : V) : It → Prop
  | .int z => v = .int z
  | .bl b => v = .bl b
  | .non => v = .non
  | .str s => v = .str s ∧ PyData.strOk s = true
  | .emp => ∃ p, v = .ref p ∧ H p = some (.tup [])
/-- d, l: what a draw may change -/
def RvAt (d l : Addr) (H : Hp) (v : V) : Rv → Prop
  | .it i => ItAt H v i
  | .tup xs => ∃ p vs, v = .ref p ∧ H p = some (.tup vs) ∧ All2 (ItAt H) vs xs
  | .lst xs => ∃ p vs, v = .ref p ∧ p ≠ d ∧ p ≠ l ∧ H p = some (.lst vs) ∧ All2 (ItAt H) vs xs
theorem ItAt.same {H H' : Hp} {v : V} {i : It} (s : Same H H') (h : ItAt H v i) : ItAt H' v i := by
  cases i with
  | emp => obtain ⟨p, e, q⟩ := h; exact ⟨p, e, s _ _ q⟩
  | int z => exact h
  | bl b => exact h
  | non => exact h
  | str z => exact h
theorem RvAt.same {d l : Addr} {H H' : Hp} {v : V} {r : Rv} (s : Same H H') (h : RvAt d l H v r) : RvAt d l H' v r := by
  cases r with
  | it i => exact ItAt.same s h
  | tup xs => obtain ⟨p, vs, e, q, a⟩ := h; exact ⟨p, vs, e, s _ _ q, a.mono fun _ _ => ItAt.same s⟩
  | lst xs => obtain ⟨p, vs, e, n1, n2, q, a⟩ := h; exact ⟨p, vs, e, n1, n2, s _ _ q, a.mono fun _ _ => ItAt.same s⟩
theorem ItAt.kept {d l : Addr} {H H' : Hp} {v : V} {i : It} (D : Deal H d l) (s : Kept d l H H') (h : ItAt H v i) : ItAt H' v i := by
  cases i with
  | emp => obtain ⟨p, e, q⟩ := h; exact ⟨p, e, s _ _ q (D.nt q).1 (D.nt q).2⟩
  | int z => exact h
  | bl b => exact h
  | non => exact h
  | str z => exact h
theorem RvAt.kept {d l : Addr} {H H' : Hp} {v : V} {r : Rv} (D : Deal H d l) (s : Kept d l H H') (h : RvAt d l H v r) : RvAt d l H' v r := by
  cases r with
  | it i => exact ItAt.kept D s h
  | tup xs => obtain ⟨p, vs, e, q, a⟩ := h; exact ⟨p, vs, e, s _ _ q (D.nt q).1 (D.nt q).2, a.mono fun _ _ => ItAt.kept D s⟩
  | lst xs => obtain ⟨p, vs, e, n1, n2, q, a⟩ := h; exact ⟨p, vs, e, n1, n2, s _ _ q n1 n2, a.mono fun _ _ => ItAt.kept D s⟩
abbrev RvsAt (d l : Addr) (H : Hp) (vs : List V) (rs : List Rv) : Prop := All2 (RvAt d l H) vs rs
/-- a row of a word and numbers -/
def Rw.rv (r : Rw) : Rv := .tup (.str r.w :: r.xs.map .int)
theorem ints_at {H : Hp} : ∀ xs : List Int, All2 (ItAt H) (xs.map V.int) (xs.map It.int)
  | [] => .nil
  | _ :: xs => .cons rfl (ints_at xs)
theorem RowAt.rv {d l : Addr} {H : Hp} {r : Rw} {p : Addr} (hw : PyData.strOk r.w = true) (h : RowAt H r p) : RvAt d l H (.ref p) r.rv := ⟨p, r.vs, rfl, h, .cons ⟨rfl, hw⟩ (ints_at r.xs)⟩
/-! ### what is asked of rows -/
instance : DecidablePred (itOk c) := fun z => by unfold itOk; infer_instance
def itB (c : Nat) : It → Bool
  | .int z => decide (itOk c z)
  | _ => false
def formOf (w : Str) : Option Str := forms.lookup w
def lessB : List It → Bool
  | [_, .int m, .int c, _] => decide (c < m)
  | _ => false
def good : Rv → Bool
  | .tup (.str w :: xs) => match formOf w with
    | some f => decide (xs.length = f.cps.size) && (((List.range xs.length).all fun j => itB (f.cps.toList.getD j 0) (xs.getD j .non)) && (!(decide (w = ("skip" : Str))) || lessB xs))
    | none => false
  | _ => false
def over (r : Rv) (left : Int) : Bool := match r with
  | .tup [.str w, _, _, _, .int n] => decide (w = ("skip" : Str)) && decide (left < n)
  | _ => false
def dueG (n : Int) : Nat → List Rv → Option (Str × Int)
  | _, [] => none
  | i, r :: rs => if good r = true then (if over r (n - 1 - (i : Int)) = true then some ("skip", (i : Int)) else dueG n (i + 1) rs) else some ("row", (i : Int))
def due (rs : List Rv) : Option (Str × Int) := if 1000 < rs.length then some ("count", -1) else dueG (rs.length : Int) 0 rs
/-! the law's own words -/
def lforms : List (Str × Str) := [("set", "RN"), ("copy", "RR"), ("add", "RRR"), ("sub", "RRR"), ("mul", "RRR"), ("left", "RR"), ("right", "RR"), ("load", "RS"), ("store", "SR"), ("skip", "RMCK")]
def fitB (c : Nat) (x m : It) : Bool := match x with
  | .int z => if c = 82 then decide (0 ≤ z ∧ z ≤ 7) else if c = 78 then decide (-18446744073709551616 < z ∧ z < 18446744073709551616) else if c = 83 then decide (0 ≤ z ∧ z ≤ 999) else if c = 77 then decide (z ∈ mods)
    else if c = 67 then (match m with | .int k => decide (0 ≤ z ∧ z < k) | _ => false) else decide (0 ≤ z ∧ z ≤ 1000)
  | _ => false
def fits : Rv → Bool
  | .tup (.str w :: xs) => match lforms.lookup w with
    | some f => decide (xs.length = f.cps.size) && ((List.range xs.length).all fun j => fitB (f.cps.toList.getD j 0) (xs.getD j .non) (xs.getD 1 .non))
    | none => false
  | _ => false
theorem fit_W (x m : It) : fitB 82 x m = itB 87 x := by
  cases x <;> try rfl
  rename_i z
  show decide (0 ≤ z ∧ z ≤ 7) = decide (itOk 87 z)
  exact decide_eq_decide.mpr ⟨fun h => by unfold itOk; omega, fun h => by unfold itOk at h; omega⟩
theorem fit_R (x m : It) : fitB 82 x m = itB 82 x := by
  cases x <;> try rfl
  rename_i z
  show decide (0 ≤ z ∧ z ≤ 7) = decide (itOk 82 z)
  exact decide_eq_decide.mpr ⟨fun h => by unfold itOk; omega, fun h => by unfold itOk at h; omega⟩
theorem fit_I (x m : It) : fitB 78 x m = itB 73 x := by
  cases x <;> try rfl
  rename_i z
  show decide (-18446744073709551616 < z ∧ z < 18446744073709551616) = decide (itOk 73 z)
  exact decide_eq_decide.mpr ⟨fun h => by unfold itOk; omega, fun h => by unfold itOk at h; omega⟩
theorem fit_S (x m : It) : fitB 83 x m = itB 83 x := by
  cases x <;> try rfl
  rename_i z
  show decide (0 ≤ z ∧ z ≤ 999) = decide (itOk 83 z)
  exact decide_eq_decide.mpr ⟨fun h => by unfold itOk; omega, fun h => by unfold itOk at h; omega⟩
theorem fit_M (x m : It) : fitB 77 x m = itB 77 x := by
  cases x <;> try rfl
  rename_i z
  show decide (z ∈ mods) = decide (itOk 77 z)
  exact decide_eq_decide.mpr ⟨fun h => .inr (.inr (.inr (.inl ⟨rfl, h⟩))), fun h => by
    rcases h with h | h | h | h | h
    · omega
    · omega
    · omega
    · exact h.2
    · omega⟩
theorem fit_K (x m : It) : fitB 75 x m = itB 78 x := by
  cases x <;> try rfl
  rename_i z
  show decide (0 ≤ z ∧ z ≤ 1000) = decide (itOk 78 z)
  exact decide_eq_decide.mpr ⟨fun h => by unfold itOk; omega, fun h => by unfold itOk at h; omega⟩
theorem mod_of {k : Int} (h : itOk 77 k) : k ∈ mods := by
  rcases h with h | h | h | h | h
  · omega
  · omega
  · omega
  · exact h.2
  · omega
theorem fit_C (x m : It) (hm : itB 77 m = true) : fitB 67 x m = (itB 67 x && lessB [m, m, x, m]) := by
  cases x with
  | int z =>
    cases m with
    | int k =>
      have hb := mods_bound k (mod_of (of_decide_eq_true hm))
      show decide (0 ≤ z ∧ z < k) = (decide (itOk 67 z) && decide (z < k))
      rw [← Bool.decide_and]
      exact decide_eq_decide.mpr ⟨fun h => by unfold itOk; omega, fun h => by unfold itOk at h; omega⟩
    | _ => cases hm
  | _ => rfl
theorem forms_at {w f : Str} (h : forms.lookup w = some f) : (w, f) ∈ forms := by
  have : ∀ (l : List (Str × Str)), l.lookup w = some f → (w, f) ∈ l := by
    intro l
    induction l with
    | nil => intro h; cases h
    | cons p l ih =>
      intro h
      obtain ⟨a, b⟩ := p
      rw [List.lookup_cons] at h
      by_cases e : w == a
      · rw [e] at h
        obtain rfl := Option.some.inj h
        rw [beq_iff_eq.mp e]
        exact List.mem_cons_self
      · rw [Bool.eq_false_iff.mpr e] at h
        exact List.mem_cons_of_mem _ (ih h)
  exact this forms h
theorem lf_none {w : Str} (h : formOf w = none) : lforms.lookup w = none := by
  unfold formOf forms at h
  unfold lforms
  simp only [List.lookup_cons, List.lookup_nil] at h ⊢
  split at h <;> try cases h
  split at h <;> try cases h
  split at h <;> try cases h
  split at h <;> try cases h
  split at h <;> try cases h
  split at h <;> try cases h
  split at h <;> try cases h
  split at h <;> try cases h
  split at h <;> try cases h
  split at h <;> try cases h
  simp only [*]
end My

set_option Elab.async false
set_option linter.all false
set_option maxRecDepth 100000
set_option maxHeartbeats 1000000
namespace My
open PySem L2 MyR
theorem len2 {α : Type} {xs : List α} (h : xs.length = 2) : ∃ a b, xs = [a, b] := by
  match xs, h with
  | [a, b], _ => exact ⟨a, b, rfl⟩
theorem len3 {α : Type} {xs : List α} (h : xs.length = 3) : ∃ a b c, xs = [a, b, c] := by
  match xs, h with
  | [a, b, c], _ => exact ⟨a, b, c, rfl⟩
theorem len4 {α : Type} {xs : List α} (h : xs.length = 4) : ∃ a b c d, xs = [a, b, c, d] := by
  match xs, h with
  | [a, b, c, d], _ => exact ⟨a, b, c, d, rfl⟩
theorem gf2 {w f f' : Str} {c0 c1 d0 d1 : Nat} {xs : List It} (h1 : formOf w = some f) (h2 : lforms.lookup w = some f') (e : f.cps = #[c0, c1]) (e' : f'.cps = #[d0, d1]) (ns : w ≠ ("skip" : Str)) (q0 : ∀ x m, fitB d0 x m = itB c0 x) (q1 : ∀ x m, fitB d1 x m = itB c1 x) :
    good (.tup (.str w :: xs)) = fits (.tup (.str w :: xs)) := by
  unfold good fits
  simp only [h1, h2, e, e', decide_eq_false ns]
  by_cases hl : xs.length = 2
  · obtain ⟨a, b, rfl⟩ := len2 hl
    have r : List.range [a, b].length = [0, 1] := rfl
    rw [r]
    simp [q0, q1]
  · have : decide (xs.length = (#[c0, c1] : Array Nat).size) = false := decide_eq_false hl
    have t : decide (xs.length = (#[d0, d1] : Array Nat).size) = false := decide_eq_false hl
    rw [this, t]
    rfl
theorem gf3 {w f f' : Str} {c0 c1 c2 d0 d1 d2 : Nat} {xs : List It} (h1 : formOf w = some f) (h2 : lforms.lookup w = some f') (e : f.cps = #[c0, c1, c2]) (e' : f'.cps = #[d0, d1, d2]) (ns : w ≠ ("skip" : Str)) (q0 : ∀ x m, fitB d0 x m = itB c0 x) (q1 : ∀ x m, fitB d1 x m = itB c1 x) (q2 : ∀ x m, fitB d2 x m = itB c2 x) :
    good (.tup (.str w :: xs)) = fits (.tup (.str w :: xs)) := by
  unfold good fits
  simp only [h1, h2, e, e', decide_eq_false ns]
  by_cases hl : xs.length = 3
  · obtain ⟨a, b, c, rfl⟩ := len3 hl
    have r : List.range [a, b, c].length = [0, 1, 2] := rfl
    rw [r]
    simp [q0, q1, q2]
  · have : decide (xs.length = (#[c0, c1, c2] : Array Nat).size) = false := decide_eq_false hl
    have t : decide (xs.length = (#[d0, d1, d2] : Array Nat).size) = false := decide_eq_false hl
    rw [this, t]
    rfl
theorem gf4 {xs : List It} : good (.tup (.str "skip" :: xs)) = fits (.tup (.str "skip" :: xs)) := by
  have h1 : formOf ("skip" : Str) = some ("RMCN" : Str) := by decide +kernel
  have h2 : lforms.lookup ("skip" : Str) = some ("RMCK" : Str) := by decide +kernel
  have e : ("RMCN" : Str).cps = #[82, 77, 67, 78] := by decide +kernel
  have e' : ("RMCK" : Str).cps = #[82, 77, 67, 75] := by decide +kernel
  have e3 : (#[82, 77, 67, 78] : Array Nat).size = 4 := rfl
  have e4 : (#[82, 77, 67, 75] : Array Nat).size = 4 := rfl
  unfold good fits
  simp only [h1, h2, e, e', e3, e4]
  by_cases hl : xs.length = 4
  · obtain ⟨a, m, c, n, rfl⟩ := len4 hl
    have r : List.range [a, m, c, n].length = [0, 1, 2, 3] := rfl
    rw [r]
    show (true && (([0, 1, 2, 3].all fun j => itB ([82, 77, 67, 78].getD j 0) ([a, m, c, n].getD j .non)) && (!(decide (("skip" : Str) = "skip")) || lessB [a, m, c, n]))) = (true && ([0, 1, 2, 3].all fun j => fitB ([82, 77, 67, 75].getD j 0) ([a, m, c, n].getD j .non) m))
    have es : decide (("skip" : Str) = "skip") = true := by decide +kernel
    rw [es]
    show (true && ((itB 82 a && (itB 77 m && (itB 67 c && (itB 78 n && true)))) && (!true || lessB [a, m, c, n]))) = (true && (fitB 82 a m && (fitB 77 m m && (fitB 67 c m && (fitB 75 n m && true)))))
    rw [fit_R, fit_M, fit_K]
    have el : lessB [a, m, c, n] = lessB [m, m, c, m] := by cases m <;> cases c <;> rfl
    rw [el]
    by_cases hm : itB 77 m = true
    · rw [fit_C c m hm]
      cases itB 82 a <;> cases itB 77 m <;> cases itB 67 c <;> cases itB 78 n <;> cases lessB [m, m, c, m] <;> rfl
    · rw [Bool.eq_false_iff.mpr hm]
      cases itB 82 a <;> rfl
  · rw [decide_eq_false hl]
    rfl
theorem good_fits (r : Rv) : good r = fits r := by
  cases r with
  | it i => rfl
  | lst xs => rfl
  | tup xs =>
    cases xs with
    | nil => rfl
    | cons x xs =>
      cases x with
      | str w =>
        cases h : formOf w with
        | none =>
          have h2 := lf_none h
          unfold good fits
          simp only [h, h2]
        | some f =>
          have hm := forms_at (show forms.lookup w = some f from h)
          have case : ∀ p ∈ forms, formOf p.1 = some p.2 → ∀ xs, good (.tup (.str p.1 :: xs)) = fits (.tup (.str p.1 :: xs)) := by
            intro p hp hf xs
            simp only [forms, List.mem_cons, List.not_mem_nil, or_false] at hp
            rcases hp with rfl | rfl | rfl | rfl | rfl | rfl | rfl | rfl | rfl | rfl
            · exact gf2 (c0 := 87) (c1 := 73) (d0 := 82) (d1 := 78) hf (f' := "RN") (by decide +kernel) (by decide +kernel) (by decide +kernel) (by decide +kernel) fit_W fit_I
            · exact gf2 (c0 := 87) (c1 := 82) (d0 := 82) (d1 := 82) hf (f' := "RR") (by decide +kernel) (by decide +kernel) (by decide +kernel) (by decide +kernel) fit_W fit_R
            · exact gf3 (c0 := 87) (c1 := 82) (c2 := 82) (d0 := 82) (d1 := 82) (d2 := 82) hf (f' := "RRR") (by decide +kernel) (by decide +kernel) (by decide +kernel) (by decide +kernel) fit_W fit_R fit_R
            · exact gf3 (c0 := 87) (c1 := 82) (c2 := 82) (d0 := 82) (d1 := 82) (d2 := 82) hf (f' := "RRR") (by decide +kernel) (by decide +kernel) (by decide +kernel) (by decide +kernel) fit_W fit_R fit_R
            · exact gf3 (c0 := 87) (c1 := 82) (c2 := 82) (d0 := 82) (d1 := 82) (d2 := 82) hf (f' := "RRR") (by decide +kernel) (by decide +kernel) (by decide +kernel) (by decide +kernel) fit_W fit_R fit_R
            · exact gf2 (c0 := 87) (c1 := 82) (d0 := 82) (d1 := 82) hf (f' := "RR") (by decide +kernel) (by decide +kernel) (by decide +kernel) (by decide +kernel) fit_W fit_R
            · exact gf2 (c0 := 87) (c1 := 82) (d0 := 82) (d1 := 82) hf (f' := "RR") (by decide +kernel) (by decide +kernel) (by decide +kernel) (by decide +kernel) fit_W fit_R
            · exact gf2 (c0 := 87) (c1 := 83) (d0 := 82) (d1 := 83) hf (f' := "RS") (by decide +kernel) (by decide +kernel) (by decide +kernel) (by decide +kernel) fit_W fit_S
            · exact gf2 (c0 := 83) (c1 := 82) (d0 := 83) (d1 := 82) hf (f' := "SR") (by decide +kernel) (by decide +kernel) (by decide +kernel) (by decide +kernel) fit_S fit_R
            · exact gf4
          exact case _ hm h xs
      | _ => rfl
/-- a good row has a word and numbers -/
theorem all_ints : ∀ (cs : List Nat) (xs : List It), ((List.range xs.length).all fun j => itB (cs.getD j 0) (xs.getD j .non)) = true → ∃ zs : List Int, xs = zs.map It.int
  | _, [], _ => ⟨[], rfl⟩
  | cs, x :: xs, h => by
    rw [List.all_eq_true] at h
    have h0 := h 0 (List.mem_range.mpr (by simp))
    obtain ⟨zs, hz⟩ := all_ints (cs.drop 1) xs (by
      rw [List.all_eq_true]
      intro j hj
      have := h (j + 1) (List.mem_range.mpr (by have := List.mem_range.mp hj; simp only [List.length_cons]; omega))
      have e : (cs.drop 1).getD j 0 = cs.getD (j + 1) 0 := by
        rw [List.getD_eq_getElem?_getD, List.getD_eq_getElem?_getD, List.getElem?_drop, Nat.add_comm 1 j]
      rw [e]
      exact this)
    cases x with
    | int z => exact ⟨z :: zs, by rw [hz]; rfl⟩
    | _ => cases h0
theorem good_form {r : Rv} (h : good r = true) : ∃ (w f : Str) (zs : List Int), r = .tup (.str w :: zs.map .int) ∧ formOf w = some f ∧ zs.length = f.cps.size ∧ (w = ("skip" : Str) → ∃ a m c n : Int, zs = [a, m, c, n] ∧ c < m) := by
  cases r with
  | it i => cases h
  | lst xs => cases h
  | tup xs =>
    cases xs with
    | nil => cases h
    | cons x xs =>
      cases x with
      | str w =>
        unfold good at h
        cases hf : formOf w with
        | none => simp only [hf] at h; cases h
        | some f =>
          simp only [hf] at h
          obtain ⟨h1, h2⟩ := Bool.and_eq_true_iff.mp h
          obtain ⟨h2, h3⟩ := Bool.and_eq_true_iff.mp h2
          obtain ⟨zs, rfl⟩ := all_ints _ _ h2
          refine ⟨w, f, zs, rfl, hf, by have := of_decide_eq_true h1; simpa using this, fun hw => ?_⟩
          rw [decide_eq_true hw] at h3
          have h3 : lessB (zs.map It.int) = true := by simpa using h3
          match zs, h3 with
          | [a, m, c, n], h3 => exact ⟨a, m, c, n, rfl, of_decide_eq_true h3⟩
          | [], h3 => cases h3
          | [_], h3 => cases h3
          | [_, _], h3 => cases h3
          | [_, _, _], h3 => cases h3
          | _ :: _ :: _ :: _ :: _ :: _, h3 => cases h3
      | _ => cases h
end My

set_option Elab.async false
set_option linter.all false
set_option maxRecDepth 100000
set_option maxHeartbeats 1000000
namespace My
open PySem L2 MyR
theorem cut_tail (x : V) (ys : List V) : cutV (x :: ys) (some 1) none = ys := by
  unfold cutV
  have e1 : HT.sIx (x :: ys).length 0 (some 1) = 1 := by
    show (if (1 : Int) < 0 then ((1 : Int) + ((x :: ys).length : Int)).toNat else min (1 : Int).toNat (x :: ys).length) = 1
    rw [if_neg (by decide), List.length_cons]
    show min 1 (ys.length + 1) = 1
    omega
  have e2 : HT.sIx (x :: ys).length (x :: ys).length none = (x :: ys).length := rfl
  rw [e1, e2, List.length_cons]
  show (ys.take (ys.length + 1 - 1)) = ys
  rw [Nat.add_sub_cancel, List.take_length]
theorem not_whole_tail (x : V) (ys : List V) : ¬ (HT.sIx (x :: ys).length 0 (some 1) = 0 ∧ HT.sIx (x :: ys).length (x :: ys).length none = (x :: ys).length) := by
  rintro ⟨h, _⟩
  have e1 : HT.sIx (x :: ys).length 0 (some 1) = 1 := by
    show (if (1 : Int) < 0 then ((1 : Int) + ((x :: ys).length : Int)).toNat else min (1 : Int).toNat (x :: ys).length) = 1
    rw [if_neg (by decide), List.length_cons]
    show min 1 (ys.length + 1) = 1
    omega
  omega

/-- the tables of the program -/
structure Tabs3 (w : World) (K : PySem.W.Frag) (mg : Str → Option Value) : Prop extends Tabs w K mg where
  miss : ∃ a, mg "FORMS" = some (.ref a) ∧ ∀ x, formOf x = none → PySem.W.nsIn K a x = some none
def It.bI : It → Bool | .int _ => true | .bl _ => true | _ => false
def It.bB : It → Bool | .bl _ => true | _ => false
def It.bS : It → Bool | .str _ => true | _ => false
def It.bW : It → Bool | .int _ => true | _ => false
theorem it_int {K : PySem.W.Frag} {H : Hp} {v : V} {x : It} (h : ItAt H v x) : ∃ t, TyX K H v t ∧ PySem.W.kitOne K t (.type "int") = some x.bI := by
  cases x with
  | non => subst h; exact ⟨_, .base .non, kit_ty (a := "NoneType") (b := "int") (r := false) (by decide +kernel)⟩
  | bl b => subst h; exact ⟨_, .base (.bl b), kit_ty (a := "bool") (b := "int") (r := true) (by decide +kernel)⟩
  | int i => subst h; exact ⟨_, .base (.int i), kit_ty (a := "int") (b := "int") (r := true) (by decide +kernel)⟩
  | str z => obtain ⟨rfl, _⟩ := h; exact ⟨_, .base (.str z), kit_ty (a := "str") (b := "int") (r := false) (by decide +kernel)⟩
  | emp => obtain ⟨p, rfl, e⟩ := h; exact ⟨_, .base (.tup e), kit_ty (a := "tuple") (b := "int") (r := false) (by decide +kernel)⟩
theorem it_bool {K : PySem.W.Frag} {H : Hp} {v : V} {x : It} (h : ItAt H v x) : ∃ t, TyX K H v t ∧ PySem.W.kitOne K t (.type "bool") = some x.bB := by
  cases x with
  | non => subst h; exact ⟨_, .base .non, kit_ty (a := "NoneType") (b := "bool") (r := false) (by decide +kernel)⟩
  | bl b => subst h; exact ⟨_, .base (.bl b), kit_ty (a := "bool") (b := "bool") (r := true) (by decide +kernel)⟩
  | int i => subst h; exact ⟨_, .base (.int i), kit_ty (a := "int") (b := "bool") (r := false) (by decide +kernel)⟩
  | str z => obtain ⟨rfl, _⟩ := h; exact ⟨_, .base (.str z), kit_ty (a := "str") (b := "bool") (r := false) (by decide +kernel)⟩
  | emp => obtain ⟨p, rfl, e⟩ := h; exact ⟨_, .base (.tup e), kit_ty (a := "tuple") (b := "bool") (r := false) (by decide +kernel)⟩
theorem it_str {K : PySem.W.Frag} {H : Hp} {v : V} {x : It} (h : ItAt H v x) : ∃ t, TyX K H v t ∧ PySem.W.kitOne K t (.type "str") = some x.bS := by
  cases x with
  | non => subst h; exact ⟨_, .base .non, kit_ty (a := "NoneType") (b := "str") (r := false) (by decide +kernel)⟩
  | bl b => subst h; exact ⟨_, .base (.bl b), kit_ty (a := "bool") (b := "str") (r := false) (by decide +kernel)⟩
  | int i => subst h; exact ⟨_, .base (.int i), kit_ty (a := "int") (b := "str") (r := false) (by decide +kernel)⟩
  | str z => obtain ⟨rfl, _⟩ := h; exact ⟨_, .base (.str z), kit_ty (a := "str") (b := "str") (r := true) (by decide +kernel)⟩
  | emp => obtain ⟨p, rfl, e⟩ := h; exact ⟨_, .base (.tup e), kit_ty (a := "tuple") (b := "str") (r := false) (by decide +kernel)⟩
def Rv.bT : Rv → Bool | .it .emp => true | .tup _ => true | _ => false
/-- the items of a tuple -/
def Rv.its : Rv → List It | .tup xs => xs | .lst xs => xs | _ => []
theorem rv_tup {K : PySem.W.Frag} {d l : Addr} {H : Hp} {v : V} {r : Rv} (h : RvAt d l H v r) : ∃ t, TyX K H v t ∧ PySem.W.kitOne K t (.type "tuple") = some r.bT := by
  cases r with
  | it x =>
    cases x with
    | non => subst h; exact ⟨_, .base .non, kit_ty (a := "NoneType") (b := "tuple") (r := false) (by decide +kernel)⟩
    | bl b => subst h; exact ⟨_, .base (.bl b), kit_ty (a := "bool") (b := "tuple") (r := false) (by decide +kernel)⟩
    | int i => subst h; exact ⟨_, .base (.int i), kit_ty (a := "int") (b := "tuple") (r := false) (by decide +kernel)⟩
    | str z => obtain ⟨rfl, _⟩ := h; exact ⟨_, .base (.str z), kit_ty (a := "str") (b := "tuple") (r := false) (by decide +kernel)⟩
    | emp => obtain ⟨p, rfl, e⟩ := h; exact ⟨_, .base (.tup e), kit_ty (a := "tuple") (b := "tuple") (r := true) (by decide +kernel)⟩
  | tup xs => obtain ⟨p, vs, rfl, e, _⟩ := h; exact ⟨_, .base (.tup e), kit_ty (a := "tuple") (b := "tuple") (r := true) (by decide +kernel)⟩
  | lst xs => obtain ⟨p, vs, rfl, _, _, e, _⟩ := h; exact ⟨_, .base (.lst e), kit_ty (a := "list") (b := "tuple") (r := false) (by decide +kernel)⟩
/-- a tuple's own list -/
theorem tup_at {d l : Addr} {H : Hp} {v : V} {r : Rv} (h : RvAt d l H v r) (ht : r.bT = true) : ∃ p vs, v = .ref p ∧ H p = some (.tup vs) ∧ All2 (ItAt H) vs r.its := by
  cases r with
  | it x =>
    cases x with
    | emp => obtain ⟨p, rfl, e⟩ := h; exact ⟨p, [], rfl, e, .nil⟩
    | _ => cases ht
  | tup xs => exact h
  | lst xs => cases ht
theorem good_empty {r : Rv} (h : r.its = []) : good r = false := by
  cases r with
  | tup xs => subst h; rfl
  | _ => rfl
theorem good_tup {r : Rv} (h : r.bT = true) (hn : r.its ≠ []) : r = .tup r.its := by
  cases r with
  | it x => exact absurd rfl hn
  | tup xs => rfl
  | lst xs => cases h
def btw : It → Int → Int → Bool
  | .int i, lo, hi => decide (lo ≤ i) && decide (i ≤ hi)
  | _, _, _ => false
def spInt : Sp := fun vs H Q _ => ∃ v x, vs = [v] ∧ ItAt H v x ∧ Q (.bl x.bW) H
def spBtw : Sp := fun vs H Q _ => ∃ v x lo hi, vs = [v, .int lo, .int hi] ∧ ItAt H v x ∧ Q (.bl (btw x lo hi)) H
def spSmall : Sp := fun vs H Q _ => ∃ v x, vs = [v] ∧ ItAt H v x ∧ Q (.bl (itB 73 x)) H
def lets : List Nat := [73, 87, 82, 83, 77, 67, 78]
def spItem : Sp := fun vs H Q _ => ∃ c v x, vs = [.str (sg c), v] ∧ c ∈ lets ∧ ItAt H v x ∧ Q (.bl (itB c x)) H
def spRow : Sp := fun vs H Q _ => ∃ (d l : Addr) (v : V) (r : Rv), vs = [v] ∧ RvAt d l H v r ∧ r.its.length ≤ 100 ∧ ∀ H', Same H H' → Q (.bl (good r)) H'
section
variable {P : Program} {w : World} {K : PySem.W.Frag} {mg : Str → Option Value} {base : Heap}
abbrev s_is_integer : Stmt := top 9
abbrev N_is_integer : List Str := ["value"]
theorem sc_is_integer : FnScope N_is_integer ["value"] (defScope s_is_integer) := ⟨rfl, rfl, rfl, by decide +kernel, rfl, by decide +kernel, by decide +kernel⟩
theorem ok_is_integer {f : Addr} {fd : FuncData} (F : Fun K "is_integer" "is_integer" s_is_integer f fd) (T : Glob mg) : FnOk P w K mg base CX0 1 f fd ["value"] spInt := by
  refine F.ok sc_is_integer (fun vs H Q E h => ?_) (fun cdv A outer s H vs Q E hr h => ?_)
  · obtain ⟨v, x, rfl, _⟩ := h
    rfl
  · obtain ⟨v, x, rfl, ha, k⟩ := h
    refine ⟨_, (pss_one (ps_ret (pe_and (pe_callB call_isi (by rfl) T.g_isinstance (by decide +kernel) (pa_cons (pv 0) (pa_cons (pe_bltn (v := .ty "int") (by rfl) T.g_int (by decide +kernel) rfl) pa_nil))) (pe_one (pe_not (pe_callB call_isi (by rfl) T.g_isinstance (by decide +kernel) (pa_cons (pv 0) (pa_cons (pe_bltn (v := .ty "bool") (by rfl) T.g_bool (by decide +kernel) rfl) pa_nil)))))))), ?_⟩
    obtain ⟨t, ht, e⟩ := it_int (K := K) ha
    obtain ⟨t2, ht2, e2⟩ := it_bool (K := K) ha
    refine ⟨_, rfl, _, _, t, _, x.bI, rfl, .ty "int", ht, e, _, rfl, ?_⟩
    cases x with
    | non => exact k
    | bl b => exact ⟨_, rfl, _, _, t2, _, true, rfl, .ty "bool", ht2, e2, _, rfl, k⟩
    | int i => exact ⟨_, rfl, _, _, t2, _, false, rfl, .ty "bool", ht2, e2, _, rfl, k⟩
    | str z => exact k
    | emp => exact k
abbrev s_law_is_whole : Stmt := top 33
abbrev N_law_is_whole : List Str := ["_law_value"]
theorem sc_law_is_whole : FnScope N_law_is_whole ["_law_value"] (defScope s_law_is_whole) := ⟨rfl, rfl, rfl, by decide +kernel, rfl, by decide +kernel, by decide +kernel⟩
theorem ok_law_is_whole {f : Addr} {fd : FuncData} (F : Fun K "_law_is_whole" "_law_is_whole" s_law_is_whole f fd) (T : Glob mg) : FnOk P w K mg base CX0 1 f fd ["_law_value"] spInt := by
  refine F.ok sc_law_is_whole (fun vs H Q E h => ?_) (fun cdv A outer s H vs Q E hr h => ?_)
  · obtain ⟨v, x, rfl, _⟩ := h
    rfl
  · obtain ⟨v, x, rfl, ha, k⟩ := h
    refine ⟨_, (pss_one (ps_ret (pe_and (pe_callB call_isi (by rfl) T.g_isinstance (by decide +kernel) (pa_cons (pv 0) (pa_cons (pe_bltn (v := .ty "int") (by rfl) T.g_int (by decide +kernel) rfl) pa_nil))) (pe_one (pe_not (pe_callB call_isi (by rfl) T.g_isinstance (by decide +kernel) (pa_cons (pv 0) (pa_cons (pe_bltn (v := .ty "bool") (by rfl) T.g_bool (by decide +kernel) rfl) pa_nil)))))))), ?_⟩
    obtain ⟨t, ht, e⟩ := it_int (K := K) ha
    obtain ⟨t2, ht2, e2⟩ := it_bool (K := K) ha
    refine ⟨_, rfl, _, _, t, _, x.bI, rfl, .ty "int", ht, e, _, rfl, ?_⟩
    cases x with
    | non => exact k
    | bl b => exact ⟨_, rfl, _, _, t2, _, true, rfl, .ty "bool", ht2, e2, _, rfl, k⟩
    | int i => exact ⟨_, rfl, _, _, t2, _, false, rfl, .ty "bool", ht2, e2, _, rfl, k⟩
    | str z => exact k
    | emp => exact k
abbrev s_is_between : Stmt := top 10
abbrev N_is_between : List Str := ["value", "least", "most"]
theorem sc_is_between : FnScope N_is_between ["value", "least", "most"] (defScope s_is_between) := ⟨rfl, rfl, rfl, by decide +kernel, rfl, by decide +kernel, by decide +kernel⟩
theorem ok_is_between {f : Addr} {fd : FuncData} (F : Fun K "is_between" "is_between" s_is_between f fd) (D_is_integer : Df P w K mg base 1 "is_integer" ["value"] spInt) : FnOk P w K mg base CX0 2 f fd ["value", "least", "most"] spBtw := by
  refine F.ok sc_is_between (fun vs H Q E h => ?_) (fun cdv A outer s H vs Q E hr h => ?_)
  · obtain ⟨v, x, lo, hi, rfl, _⟩ := h
    rfl
  · obtain ⟨v, x, lo, hi, rfl, ha, k⟩ := h
    refine ⟨_, (pss_one (ps_ret (pe_and (pe_call D_is_integer.ok (hr.mono (by decide)) (by rfl) D_is_integer.g D_is_integer.kp D_is_integer.b .nil pass0 (pa_cons (pv 0) pa_nil)) (pe_one (pe_chain op_le op_le (pv 1) (pv 0) (pv 2)))))), ?_⟩
    refine ⟨_, rfl, v, x, rfl, ha, _, rfl, ?_⟩
    cases x with
    | non => exact k
    | bl b => exact k
    | str z => exact k
    | emp => exact k
    | int i =>
      obtain rfl : v = .int i := ha
      refine ⟨_, rfl, _, rfl, _, _, rfl, rfl, _, rfl, ?_⟩
      refine ite2 (fun h1 => ?_) (fun h1 => ?_)
      · refine ⟨_, rfl, _, _, rfl, rfl, ?_⟩
        have e : btw (.int i) lo hi = decide (i ≤ hi) := by
          show (decide (lo ≤ i) && decide (i ≤ hi)) = _
          rw [h1, Bool.true_and]
        rw [e] at k
        exact k
      · have e : btw (.int i) lo hi = false := by
          show (decide (lo ≤ i) && decide (i ≤ hi)) = _
          rw [Bool.eq_false_iff.mpr h1, Bool.false_and]
        rw [e] at k
        exact k
abbrev s_is_small : Stmt := top 11
abbrev N_is_small : List Str := ["value"]
theorem sc_is_small : FnScope N_is_small ["value"] (defScope s_is_small) := ⟨rfl, rfl, rfl, by decide +kernel, rfl, by decide +kernel, by decide +kernel⟩
theorem ok_is_small {f : Addr} {fd : FuncData} (F : Fun K "is_small" "is_small" s_is_small f fd) (T2 : Tabs w K mg) (D_is_integer : Df P w K mg base 1 "is_integer" ["value"] spInt) : FnOk P w K mg base CX0 2 f fd ["value"] spSmall := by
  obtain ⟨tL, hL⟩ := T2.limit
  refine F.ok sc_is_small (fun vs H Q E h => ?_) (fun cdv A outer s H vs Q E hr h => ?_)
  · obtain ⟨v, x, rfl, _⟩ := h
    rfl
  · obtain ⟨v, x, rfl, ha, k⟩ := h
    refine ⟨_, (pss_one (ps_ret (pe_and (pe_call D_is_integer.ok (hr.mono (by decide)) (by rfl) D_is_integer.g D_is_integer.kp D_is_integer.b .nil pass0 (pa_cons (pv 0) pa_nil)) (pe_one (pe_chain op_lt op_lt (pe_un un_neg (pe_glob (v := .int 18446744073709551616) rfl hL ⟨_, rfl⟩)) (pv 0) (pe_glob (v := .int 18446744073709551616) rfl hL ⟨_, rfl⟩)))))), ?_⟩
    refine ⟨_, rfl, v, x, rfl, ha, _, rfl, ?_⟩
    cases x with
    | non => exact k
    | bl b => exact k
    | str z => exact k
    | emp => exact k
    | int i =>
      obtain rfl : v = .int i := ha
      refine ⟨_, rfl, _, rfl, _, _, rfl, rfl, _, rfl, ?_⟩
      refine ite2 (fun h1 => ?_) (fun h1 => ?_)
      · have h1 := of_decide_eq_true h1
        refine ⟨_, _, rfl, rfl, ?_⟩
        have e : itB 73 (.int i) = decide (i < 18446744073709551616) := decide_eq_decide.mpr ⟨fun h => by unfold itOk at h; omega, fun h => by unfold itOk; omega⟩
        rw [e] at k
        exact k
      · have h1 := of_decide_eq_false (Bool.eq_false_iff.mpr h1)
        have e : itB 73 (.int i) = false := decide_eq_false (fun h => by unfold itOk at h; omega)
        rw [e] at k
        exact k
abbrev s_is_item : Stmt := top 20
abbrev N_is_item : List Str := ["letter", "value"]
theorem sc_is_item : FnScope N_is_item ["letter", "value"] (defScope s_is_item) := ⟨rfl, rfl, rfl, by decide +kernel, rfl, by decide +kernel, by decide +kernel⟩
theorem ok_is_item {f : Addr} {fd : FuncData} (F : Fun K "is_item" "is_item" s_is_item f fd) (T2 : Tabs w K mg) (D_is_between : Df P w K mg base 2 "is_between" ["value", "least", "most"] spBtw) (D_is_small : Df P w K mg base 2 "is_small" ["value"] spSmall) : FnOk P w K mg base CX0 3 f fd ["letter", "value"] spItem := by
  obtain ⟨tR, hMR⟩ := T2.rows
  obtain ⟨tG, hMG⟩ := T2.regs
  obtain ⟨tS, hSL⟩ := T2.slots
  obtain ⟨aM, hM, hMs⟩ := T2.moduli
  refine F.ok sc_is_item (fun vs H Q E h => ?_) (fun cdv A outer s H vs Q E hr h => ?_)
  · obtain ⟨c, v, x, rfl, _⟩ := h
    rfl
  · obtain ⟨c, v, x, rfl, hc, ha, k⟩ := h
    have hc : c = 73 ∨ c = 87 ∨ c = 82 ∨ c = 83 ∨ c = 77 ∨ c = 67 ∨ c = 78 := by simpa [lets] using hc
    have eb : ∀ lo hi : Int, (∀ z : Int, itOk c z ↔ lo ≤ z ∧ z ≤ hi) → itB c x = btw x lo hi := by
      intro lo hi hz
      cases x with
      | int z =>
        show decide (itOk c z) = (decide (lo ≤ z) && decide (z ≤ hi))
        rw [← Bool.decide_and]
        exact decide_eq_decide.mpr (hz z)
      | _ => rfl
    refine ⟨_, (pss_cons (ps_if (pt_cmpR op_eq (pv 0) pe_str (nomark _))
    (pss_one (ps_ret (pe_call D_is_small.ok (hr.mono (by decide)) (by rfl) D_is_small.g D_is_small.kp D_is_small.b .nil pass0 (pa_cons (pv 1) pa_nil))))
    pss_nil)
    (pss_cons (ps_if (pt_cmpR op_in_sign (pv 0) pe_str (by rfl))
    (pss_one (ps_ret (pe_call D_is_between.ok (hr.mono (by decide)) (by rfl) D_is_between.g D_is_between.kp D_is_between.b .nil pass0 (pa_cons (pv 1) (pa_cons pe_int (pa_cons (pe_op op_sub (pe_glob (v := .int 8) rfl hMG ⟨_, rfl⟩) pe_int) pa_nil))))))
    pss_nil)
    (pss_cons (ps_if (pt_cmpR op_eq (pv 0) pe_str (nomark _))
    (pss_one (ps_ret (pe_call D_is_between.ok (hr.mono (by decide)) (by rfl) D_is_between.g D_is_between.kp D_is_between.b .nil pass0 (pa_cons (pv 1) (pa_cons pe_int (pa_cons (pe_op op_sub (pe_glob (v := .int 1000) rfl hSL ⟨_, rfl⟩) pe_int) pa_nil))))))
    pss_nil)
    (pss_cons (ps_if (pt_cmpR op_eq (pv 0) pe_str (nomark _))
    (pss_one (ps_ret (pe_and (pe_call D_is_between.ok (hr.mono (by decide)) (by rfl) D_is_between.g D_is_between.kp D_is_between.b .nil pass0 (pa_cons (pv 1) (pa_cons pe_int (pa_cons (pe_ix ix_tup (pe_glob (v := .ref aM) rfl hM rfl) (pe_un un_neg pe_int) (fun _ _ => rfl)) pa_nil)))) (pe_one (pe_cmpR op_in_seq (pv 1) (pe_glob (v := .ref aM) rfl hM rfl) (by rfl))))))
    pss_nil)
    (pss_one (ps_ret (pe_call D_is_between.ok (hr.mono (by decide)) (by rfl) D_is_between.g D_is_between.kp D_is_between.b .nil pass0 (pa_cons (pv 1) (pa_cons pe_int (pa_cons (pe_glob (v := .int 1000) rfl hMR ⟨_, rfl⟩) pa_nil)))))))))), ?_⟩
    refine ⟨_, rfl, rfl, _, rfl, ?_⟩
    rw [sg_eq c 73 _ sg_I]
    refine ite2 (fun h1 => ?_) (fun h1 => ?_)
    · have h1 := of_decide_eq_true h1
      subst h1
      exact ⟨_, rfl, v, x, rfl, ha, k⟩
    have h1 : ¬ c = 73 := fun e => h1 (decide_eq_true e)
    refine ⟨_, rfl, c, _, rfl, rfl, _, rfl, ?_⟩
    rw [wr_cps]
    refine ite2 (fun h2 => ?_) (fun h2 => ?_)
    · have h2 := of_decide_eq_true h2
      have h2 : c = 87 ∨ c = 82 := by simpa using h2
      refine ⟨_, rfl, _, _, rfl, rfl, v, x, 0, 7, rfl, ha, ?_⟩
      rw [← eb 0 7 (fun z => ⟨fun h => by unfold itOk at h; omega, fun h => by unfold itOk; omega⟩)]
      exact k
    have h2 : ¬ (c = 87 ∨ c = 82) := fun e => h2 (decide_eq_true (by simpa using e))
    refine ⟨_, rfl, rfl, _, rfl, ?_⟩
    rw [sg_eq c 83 _ sg_S]
    refine ite2 (fun h3 => ?_) (fun h3 => ?_)
    · have h3 := of_decide_eq_true h3
      refine ⟨_, rfl, _, _, rfl, rfl, v, x, 0, 999, rfl, ha, ?_⟩
      rw [← eb 0 999 (fun z => ⟨fun h => by unfold itOk at h; omega, fun h => by unfold itOk; omega⟩)]
      exact k
    have h3 : ¬ c = 83 := fun e => h3 (decide_eq_true e)
    refine ⟨_, rfl, rfl, _, rfl, ?_⟩
    rw [sg_eq c 77 _ sg_M]
    refine ite2 (fun h4 => ?_) (fun h4 => ?_)
    · have h4 := of_decide_eq_true h4
      subst h4
      refine ⟨_, rfl, _, rfl, aM, _, _, .int 64, rfl, rfl, hMs _, by rfl, v, x, 1, 64, rfl, ha, _, rfl, ?_⟩
      cases x with
      | non => exact k
      | bl b => exact k
      | str z => exact k
      | emp => exact k
      | int z =>
        obtain rfl : v = .int z := ha
        refine ite2 (fun hb => ?_) (fun hb => ?_)
        · refine ⟨_, rfl, aM, _, rfl, .inr (hMs _), rfl, mods_flat, ?_⟩
          by_cases hz : z ∈ mods
          · rw [in_mods hz]
            have e : itB 77 (.int z) = true := decide_eq_true (.inr (.inr (.inr (.inl ⟨rfl, hz⟩))))
            rw [e] at k
            exact k
          · have e : itB 77 (.int z) = false := decide_eq_false (fun h => hz (mod_of h))
            rw [e] at k
            have e2 : inV (.int z) (mods.map V.int) = false := by
              refine Bool.eq_false_iff.mpr fun q => hz ?_
              unfold inV at q
              rw [List.any_map] at q
              obtain ⟨y, hy, hq⟩ := List.any_eq_true.mp q
              have hq : (y == z) = true := hq
              rw [← beq_iff_eq.mp hq]
              exact hy
            rw [e2]
            exact k
        · have e : itB 77 (.int z) = false := decide_eq_false (fun h => hb (by
            have := mods_bound z (mod_of h)
            show (decide (1 ≤ z) && decide (z ≤ 64)) = true
            rw [decide_eq_true this.1, decide_eq_true this.2]
            rfl))
          rw [e] at k
          exact k
    have h4 : ¬ c = 77 := fun e => h4 (decide_eq_true e)
    refine ⟨_, rfl, v, x, 0, 1000, rfl, ha, ?_⟩
    rw [← eb 0 1000 (fun z => ⟨fun h => by unfold itOk at h; omega, fun h => by unfold itOk; omega⟩)]
    exact k
end
end My

set_option Elab.async false
set_option linter.all false
set_option maxRecDepth 100000
set_option maxHeartbeats 1000000
namespace My
open PySem L2 MyR
theorem range_snoc {α : Type} (f : Nat → α) (i : Nat) : (List.range (i + 1)).map f = (List.range i).map f ++ [f i] := by
  rw [List.range_succ, List.map_append]
  rfl
theorem ints_of {H : Hp} : ∀ {zs : List Int} {vs : List V}, All2 (ItAt H) vs (zs.map It.int) → vs = zs.map V.int
  | [], _, .nil => rfl
  | _ :: _, _, .cons h t => by
    rw [List.map_cons, ← ints_of t]
    exact congrArg (· :: _) h
theorem lets_ok {w f : Str} (h : formOf w = some f) {i c : Nat} (hc : f.cps[i]? = some c) : c ∈ lets := by
  have q : ∀ p ∈ forms, ∀ c ∈ p.2.cps.toList, c ∈ lets := by decide +kernel
  exact q _ (forms_at h) c (List.mem_of_getElem? (by rw [Array.getElem?_toList]; exact hc))
theorem getD_of {α : Type} {xs : List α} {i : Nat} {x d : α} (h : xs[i]? = some x) : xs.getD i d = x := by
  rw [List.getD_eq_getElem?_getD, h]
  rfl
theorem good_none {w : Str} {xs : List It} (h : formOf w = none) : good (.tup (.str w :: xs)) = false := by
  unfold good
  simp only [h]
theorem good_some {w f : Str} {xs : List It} (h : formOf w = some f) : good (.tup (.str w :: xs)) = (decide (xs.length = f.cps.size) && (((List.range xs.length).all fun j => itB (f.cps.toList.getD j 0) (xs.getD j .non)) && (!(decide (w = ("skip" : Str))) || lessB xs))) := by
  unfold good
  simp only [h]
theorem form_size {w f : Str} (h : formOf w = some f) : f.cps.size ≤ 4 := by
  have q : ∀ p ∈ forms, p.2.cps.size ≤ 4 := by decide +kernel
  exact q _ (forms_at h)
section
variable {P : Program} {w : World} {K : PySem.W.Frag} {mg : Str → Option Value} {base : Heap}
abbrev s_is_row : Stmt := top 21
abbrev N_is_row : List Str := ["row", "form", "letter", "value"]
theorem sc_is_row : FnScope N_is_row ["row"] (defScope s_is_row) := ⟨rfl, rfl, rfl, by decide +kernel, rfl, by decide +kernel, by decide +kernel⟩
theorem ok_is_row {f : Addr} {fd : FuncData} (F : Fun K "is_row" "is_row" s_is_row f fd) (T : Glob mg) (T2 : Tabs3 w K mg) (D_is_item : Df P w K mg base 3 "is_item" ["letter", "value"] spItem) : FnOk P w K mg base CX0 4 f fd ["row"] spRow := by
  obtain ⟨aF, hF, ⟨es, n0, DF⟩, hFs⟩ := T2.forms
  obtain ⟨aF', hF', hmiss⟩ := T2.miss
  have eF : aF' = aF := by
    rw [hF] at hF'
    exact (Value.ref.inj (Option.some.inj hF')).symm
  rw [eF] at hmiss
  refine F.ok sc_is_row (fun vs H Q E h => ?_) (fun cdv A outer s H vs Q E hr h => ?_)
  · obtain ⟨d, l, v, r, rfl, _⟩ := h
    rfl
  · obtain ⟨d, l, v, r, rfl, ha, hlong, k⟩ := h
    have hu := hu_of hr
    have nd := sc_is_row.nd
    refine ⟨_, (pss_cons (ps_if (PW.pt (pw_or (pt_not (pt_val (pe_callB call_isi (by rfl) T.g_isinstance (by decide +kernel) (pa_cons (pv 0) (pa_cons (pe_bltn (v := .ty "tuple") (by rfl) T.g_tuple (by decide +kernel) rfl) pa_nil))))) (pw_or (pt_cmpR op_eq (pe_callB call_len_seq (by rfl) T.g_len PySem.boot_len (pa_cons (pv 0) pa_nil)) pe_int (nomark _)) (pw_or (pt_not (pt_val (pe_callB call_isi (by rfl) T.g_isinstance (by decide +kernel) (pa_cons (pe_ix ix_tup (pv 0) pe_int (fun _ _ => rfl)) (pa_cons (pe_bltn (v := .ty "str") (by rfl) T.g_str (by decide +kernel) rfl) pa_nil))))) (pw_or1 (pt_cmpR (op_notIn_kd DF) (pe_ix ix_tup (pv 0) pe_int (fun _ _ => rfl)) (pe_glob (v := .ref aF) rfl hF rfl) (by rfl)))))))
    (pss_one (ps_ret pe_bl))
    pss_nil)
    (pss_cons (ps_set (i := 1) nd rfl (Or.inl rfl) (pe_ix ix_kdict (pe_glob (v := .ref aF) rfl hF rfl) (pe_ix ix_tup (pv 0) pe_int (fun _ _ => rfl)) (fun _ _ => rfl)))
    (pss_cons (ps_if (PW.pt (pw_or (pt_cmpR op_ne (pe_callB call_len_seq (by rfl) T.g_len PySem.boot_len (pa_cons (pv 0) pa_nil)) (pe_op op_add (pe_callB call_len_str (by rfl) T.g_len PySem.boot_len (pa_cons (pv 1) pa_nil)) pe_int) (nomark _)) (pw_or1 (pt_not (pt_val (pe_callB (cr_all rfl) (by rfl) T.g_all (by decide +kernel) (pa_cons (pe_lc (own := [("letter", 2), ("value", 3)]) (g := gTup K 2 (gCons (gName 2) (gCons (gName 3) gNil))) (tt := tYes) rfl nd (pi_zipST (by rfl) T.g_zip (pa_cons (pv 1) (pa_cons (pe_slice sl_tup (pv 0) (po_some pe_int) po_none) pa_nil))) (blkOk_by (N := N_is_row) (sc := defScope s_is_row) (by decide +kernel)) (fun _ _ _ _ _ => pg_tup (by rfl) (pgs_cons (pg_name (i := 2) nd rfl (Or.inl rfl)) (pgs_cons (pg_name (i := 3) nd rfl (Or.inl rfl)) pgs_nil))) (fun _ _ _ _ _ => pts_nil) (fun _ _ _ _ _ => (pe_call D_is_item.ok (hr.mono (by decide)) (by rfl) D_is_item.g D_is_item.kp D_is_item.b .nil pass0 (pa_cons (pv 2) (pa_cons (pv 3) pa_nil))))) pa_nil)))))))
    (pss_one (ps_ret pe_bl))
    pss_nil)
    (pss_one (ps_ret (pe_or (pe_cmpR op_ne (pe_ix ix_tup (pv 0) pe_int (fun _ _ => rfl)) pe_str (nomark _)) (pe_one (pe_cmpR op_lt (pe_ix ix_tup (pv 0) pe_int (fun _ _ => rfl)) (pe_ix ix_tup (pv 0) pe_int (fun _ _ => rfl)) (nomark _))))))))), ?_⟩
    obtain ⟨tT, hTy, hkit⟩ := rv_tup (K := K) ha
    refine ⟨_, rfl, _, _, tT, _, r.bT, rfl, .ty "tuple", hTy, hkit, _, rfl, ?_⟩
    cases hT : r.bT with
    | false =>
      have e : good r = false := by
        cases r with
        | tup xs => cases hT
        | _ => rfl
      have k0 := k H (Same.refl H)
      rw [e] at k0
      exact k0
    | true =>
    obtain ⟨p, vs, rfl, hp, hal⟩ := tup_at ha hT
    have hl := hal.len
    have sq0 : ∀ H', Same H H' → SqT K H' p vs := fun H' sm => SqT.of (sm _ _ hp)
    refine ⟨_, rfl, p, _, rfl, .inr (sq0 H (Same.refl H)), rfl, _, rfl, ?_⟩
    refine ite2 (fun h0 => ?_) (fun h0 => ?_)
    · have h0 := V.int.inj (of_decide_eq_true h0)
      have e : good r = false := good_empty (List.eq_nil_of_length_eq_zero (by omega))
      have k0 := k H (Same.refl H)
      rw [e] at k0
      exact k0
    have hne : r.its ≠ [] := by
      intro e
      rw [e] at hl
      exact h0 (decide_eq_true (by rw [hl]; rfl))
    have er := good_tup hT hne
    obtain ⟨x, xs, ex⟩ : ∃ x xs, r.its = x :: xs := by
      cases e : r.its with
      | nil => exact absurd e hne
      | cons x xs => exact ⟨x, xs, rfl⟩
    rw [ex] at hal er hlong hl
    subst er
    cases hal with
    | @cons v0 _ vs' _ hx hxs =>
    have hl' := hxs.len
    have sqc : ∀ H', Same H H' → SqT K H' p (v0 :: vs') := fun H' sm => sq0 H' sm
    obtain ⟨tS, hTyS, hkitS⟩ := it_str (K := K) hx
    refine ⟨_, rfl, p, _, _, v0, rfl, rfl, sqc H (Same.refl H), atI_nat (j := 0) rfl, ?_⟩
    refine ⟨_, _, tS, _, x.bS, rfl, .ty "str", hTyS, hkitS, _, rfl, ?_⟩
    cases x with
    | int z => exact k H (Same.refl H)
    | bl z => exact k H (Same.refl H)
    | non => exact k H (Same.refl H)
    | emp => exact k H (Same.refl H)
    | str w0 =>
    obtain ⟨rfl, hstr⟩ := hx
    refine ⟨_, rfl, p, _, _, .str w0, rfl, rfl, sqc H (Same.refl H), atI_nat (j := 0) rfl, ?_⟩
    cases hf : formOf w0 with
    | none =>
      refine ⟨w0, none, rfl, rfl, hmiss w0 hf, _, rfl, ?_⟩
      have k0 := k H (Same.refl H)
      rw [good_none hf] at k0
      exact k0
    | some fm =>
    obtain ⟨es', n', u, hl0, _, hu', ru⟩ := hFs _ _ (forms_at hf)
    refine ⟨w0, some u, rfl, rfl, hu', _, rfl, ?_⟩
    refine ⟨_, rfl, p, _, _, .str w0, rfl, rfl, sqc H (Same.refl H), atI_nat (j := 0) rfl, aF, w0, .str fm, rfl, rfl, hFs _ _ (forms_at hf), ?_⟩
    have hfl : fm.length = fm.cps.size := rfl
    have h4 := form_size hf
    rw [good_some hf] at k
    refine ⟨_, rfl, p, _, rfl, .inr (sqc H (Same.refl H)), _, rfl, fm, rfl, Nat.le_of_lt (small1000 (by rw [hfl]; omega)), _, _, rfl, rfl, rfl, _, rfl, ?_⟩
    by_cases hlen : xs.length = fm.cps.size
    case neg =>
      rw [decide_eq_false hlen, Bool.false_and] at k
      refine ite2 (fun _ => k H (Same.refl H)) (fun hz => absurd ?_ hz)
      refine Bool.not_eq_true' _ ▸ ?_
      refine decide_eq_false fun e => hlen ?_
      have := V.int.inj e
      rw [List.length_cons, hl', hfl] at this
      omega
    rw [decide_eq_true hlen, Bool.true_and] at k
    refine iteNS (by rw [hfl, ← hlen, List.length_cons, hl']; simp) ?_
    -- the items
    refine ⟨_, rfl, _, rfl, _, rfl, p, _, rfl, sqc H (Same.refl H), not_whole_tail _ _, fun q hq => ?_⟩
    rw [show cutV (V.str w0 :: vs') (some 1) none = vs' from cut_tail _ _]
    refine ⟨fm, q, _, rfl, SqT.of upd_same, fun D hD => ?_⟩
    have hqH : H q = none := hq
    have hDq : q ≠ D := fun e => by rw [e, upd_same] at hD; cases hD
    have hDH : H D = none := by rw [← upd_ne (H := H) (Ne.symm hDq)]; exact hD
    have hvl : fm.cps.size = vs'.length := by rw [← hlen, hl']
    let bs : Nat → Bool := fun j => itB (fm.cps.toList.getD j 0) (xs.getD j .non)
    refine lc_it (walk_zipST hvl) (fun i H1 => Same H H1 ∧ H1 q = some (.tup vs') ∧ H1 D = some (.lst (((List.range i).map bs).map V.bl))) ⟨fun b o e => by rw [upd_ne (ne_of_none e hDH), upd_ne (ne_of_none e hqH)]; exact e, by rw [upd_ne hDq, upd_same], upd_same⟩ (fun i H1 _ h1 => SqT.of h1.2.1) ?_ ?_
    · rintro i v H1 H2 hi ⟨sm, h1, h2⟩ ⟨Tt, x, y, rfl, hTt, rfl, hx, hy⟩
      replace hx : (fm.cps[i]?).map (fun c => V.str ⟨#[c]⟩) = some x := hx
      replace hy : vs'[i]? = some y := hy
      obtain ⟨c, hc, rfl⟩ : ∃ c, fm.cps[i]? = some c ∧ x = V.str (sg c) := by
        cases e : fm.cps[i]? with
        | none => rw [e] at hx; cases hx
        | some c => rw [e] at hx; exact ⟨c, rfl, (Option.some.inj hx).symm⟩
      obtain ⟨z, hz, hzy⟩ := hxs.getL hy
      have nqT : q ≠ Tt := ne_of_none h1 hTt
      have nDT : D ≠ Tt := ne_of_none h2 hTt
      have smT := sm.trans (new_same (o := .tup [V.str (sg c), y]) hTt)
      refine ⟨Tt, _, rfl, SqT.of upd_same, rfl, _, _, rfl, _, _, rfl, rfl, rfl, ?_⟩
      refine ⟨_, rfl, _, rfl, c, y, z, rfl, lets_ok hf hc, hzy.same smT, ?_⟩
      have eb : itB c z = bs i := by
        show _ = itB _ _
        rw [getD_of hz, getD_of (show fm.cps.toList[i]? = some c by rw [Array.getElem?_toList]; exact hc)]
      rw [eb]
      refine ⟨((List.range i).map bs).map V.bl, by rw [upd_ne nDT]; exact h2, by rw [List.length_map, List.length_map, List.length_range]; exact small1000 (by omega), fun b o e => ?_, ?_, ?_⟩
      · rw [upd_ne (ne_of_none e hDH), upd_ne (ne_of_none (sm _ _ e) hTt)]
        exact sm _ _ e
      · rw [upd_ne hDq, upd_ne nqT]
        exact h1
      · rw [upd_same, range_snoc, List.map_append]
        rfl
    · rintro H1 ⟨sm, h1, h2⟩
      refine ⟨D, (List.range vs'.length).map bs, rfl, SqL.of h2, ?_⟩
      have k1 := k H1 sm
      have ea : ((List.range vs'.length).map bs).all id = (List.range xs.length).all bs := by
        rw [List.all_map, hl']
        rfl
      rw [ea]
      cases hb : (List.range xs.length).all bs with
      | false =>
        have hb' : ((List.range xs.length).all fun j => itB (fm.cps.toList.getD j 0) (xs.getD j .non)) = false := hb
        rw [hb'] at k1
        exact ⟨_, rfl, k1⟩
      | true =>
      have hb' : ((List.range xs.length).all fun j => itB (fm.cps.toList.getD j 0) (xs.getD j .non)) = true := hb
      rw [hb', Bool.true_and] at k1
      refine ⟨_, rfl, ?_⟩
      have sq1 := sqc H1 sm
      refine ⟨_, rfl, p, _, _, .str w0, rfl, rfl, sq1, atI_nat (j := 0) rfl, rfl, _, rfl, ?_⟩
      by_cases hs : w0 = ("skip" : Str)
      · obtain ⟨zs, ez⟩ := all_ints _ _ hb'
        subst ez
        have hf2 : fm = ("RMCN" : Str) := by
          subst hs
          have e0 : formOf ("skip" : Str) = some ("RMCN" : Str) := by decide +kernel
          rw [e0] at hf
          exact (Option.some.inj hf).symm
        subst hf2
        have h44 : zs.length = 4 := by
          rw [List.length_map] at hlen
          rw [hlen]
          decide +kernel
        obtain rfl := ints_of hxs
        obtain ⟨a, m, c, n, rfl⟩ := len4 h44
        rw [decide_eq_true (show V.str w0 = V.str "skip" by rw [hs])]
        refine ⟨_, rfl, p, _, _, .int c, rfl, rfl, sq1, atI_nat (j := 3) rfl, _, rfl, p, _, _, .int m, rfl, rfl, sq1, atI_nat (j := 2) rfl, _, _, rfl, rfl, ?_⟩
        rw [decide_eq_true hs] at k1
        exact k1
      · rw [decide_eq_false (show ¬ V.str w0 = V.str "skip" from fun e => hs (V.str.inj e))]
        rw [decide_eq_false hs] at k1
        exact k1
end
end My

set_option Elab.async false
set_option linter.all false
set_option maxRecDepth 100000
set_option maxHeartbeats 1000000
namespace My
open PySem L2 MyR
def llets : List Nat := [82, 78, 83, 77, 67, 75]
def spFit : Sp := fun vs H Q _ => ∃ c v x p us m, vs = [.str (sg c), v, .ref p] ∧ c ∈ llets ∧ ItAt H v x ∧ H p = some (.tup us) ∧ (c = 67 → ∃ u, us[2]? = some u ∧ ItAt H u m) ∧ ∀ H', Same H H' → Q (.bl (fitB c x m)) H'
def spFits : Sp := fun vs H Q _ => ∃ (d l : Addr) (v : V) (r : Rv), vs = [v] ∧ RvAt d l H v r ∧ r.its.length ≤ 100 ∧ ∀ H', Same H H' → Q (.bl (fits r)) H'
theorem e64 : (1 : Int) * 2 ^ (64 : Int).toNat = 18446744073709551616 := by decide +kernel
def lkv : List (Key × V) := [(.inr "set", .str "RN"), (.inr "copy", .str "RR"), (.inr "add", .str "RRR"), (.inr "sub", .str "RRR"), (.inr "mul", .str "RRR"), (.inr "left", .str "RR"), (.inr "right", .str "RR"), (.inr "load", .str "RS"), (.inr "store", .str "SR"), (.inr "skip", .str "RMCK")]
theorem lkv_get (w : Str) : ∀ l : List (Str × Str), valV (l.map fun p => ((.inr p.1 : Key), V.str p.2)) (.inr w) = (l.lookup w).map V.str
  | [] => rfl
  | (a, b) :: l => by
    rw [List.map_cons, List.lookup_cons]
    by_cases e : w = a
    · subst e
      rw [valV_pos rfl, beq_self_eq_true]
      rfl
    · rw [valV_neg (fun q => e (Sum.inr.inj q).symm), lkv_get w l, show (w == a) = false from beq_eq_false_iff_ne.mpr e]
theorem lforms_at {w f : Str} (h : lforms.lookup w = some f) : (w, f) ∈ lforms := by
  have : ∀ (l : List (Str × Str)), l.lookup w = some f → (w, f) ∈ l := by
    intro l
    induction l with
    | nil => intro h; cases h
    | cons p l ih =>
      intro h
      obtain ⟨a, b⟩ := p
      rw [List.lookup_cons] at h
      by_cases e : w == a
      · rw [e] at h
        obtain rfl := Option.some.inj h
        rw [beq_iff_eq.mp e]
        exact List.mem_cons_self
      · rw [Bool.eq_false_iff.mpr e] at h
        exact List.mem_cons_of_mem _ (ih h)
  exact this lforms h
theorem llets_ok {w f : Str} (h : lforms.lookup w = some f) {i c : Nat} (hc : f.cps[i]? = some c) : c ∈ llets := by
  have q : ∀ p ∈ lforms, ∀ c ∈ p.2.cps.toList, c ∈ llets := by decide +kernel
  exact q _ (lforms_at h) c (List.mem_of_getElem? (by rw [Array.getElem?_toList]; exact hc))
theorem lform_c {w f : Str} (h : lforms.lookup w = some f) {i : Nat} (hc : f.cps[i]? = some 67) : f.cps.size = 4 := by
  have q : ∀ p ∈ lforms, 67 ∈ p.2.cps.toList → p.2.cps.size = 4 := by decide +kernel
  exact q _ (lforms_at h) (List.mem_of_getElem? (by rw [Array.getElem?_toList]; exact hc))
theorem lform_size {w f : Str} (h : lforms.lookup w = some f) : f.cps.size ≤ 4 := by
  have q : ∀ p ∈ lforms, p.2.cps.size ≤ 4 := by decide +kernel
  exact q _ (lforms_at h)
theorem fits_none {w : Str} {xs : List It} (h : lforms.lookup w = none) : fits (.tup (.str w :: xs)) = false := by
  unfold fits
  simp only [h]
theorem fits_some {w f : Str} {xs : List It} (h : lforms.lookup w = some f) : fits (.tup (.str w :: xs)) = (decide (xs.length = f.cps.size) && ((List.range xs.length).all fun j => fitB (f.cps.toList.getD j 0) (xs.getD j .non) (xs.getD 1 .non))) := by
  unfold fits
  simp only [h]
theorem fits_empty {r : Rv} (h : r.its = []) : fits r = false := by rw [← good_fits]; exact good_empty h
theorem sg_N : ("N" : Str) = sg 78 := by decide +kernel
theorem sg_R : ("R" : Str) = sg 82 := by decide +kernel
theorem sg_C : ("C" : Str) = sg 67 := by decide +kernel
theorem filt_nil {α : Type} (f : α → Bool) : ∀ l : List α, (l.filter fun j => !f j).isEmpty = l.all f
  | [] => rfl
  | a :: l => by
    rw [List.filter_cons, List.all_cons, ← filt_nil f l]
    cases f a <;> rfl
theorem filt_snoc {α : Type} (f : Nat → Bool) (g : Nat → α) (i : Nat) : ((List.range (i + 1)).filter f).map g = ((List.range i).filter f).map g ++ (if f i = true then [g i] else []) := by
  rw [List.range_succ, List.filter_append, List.map_append]
  congr 1
  by_cases h : f i = true
  · rw [if_pos h]; simp [h]
  · rw [if_neg h]; simp [h]
section
variable {P : Program} {w : World} {K : PySem.W.Frag} {mg : Str → Option Value} {base : Heap}
abbrev s_law_item_fits : Stmt := top 34
abbrev N_law_item_fits : List Str := ["_law_form", "_law_value", "_law_row_here"]
theorem sc_law_item_fits : FnScope N_law_item_fits ["_law_form", "_law_value", "_law_row_here"] (defScope s_law_item_fits) := ⟨rfl, rfl, rfl, by decide +kernel, rfl, by decide +kernel, by decide +kernel⟩
theorem ok_law_item_fits {f : Addr} {fd : FuncData} (F : Fun K "_law_item_fits" "_law_item_fits" s_law_item_fits f fd) (D_law_is_whole : Df P w K mg base 1 "_law_is_whole" ["_law_value"] spInt) : FnOk P w K mg base CX0 2 f fd ["_law_form", "_law_value", "_law_row_here"] spFit := by
  refine F.ok sc_law_item_fits (fun vs H Q E h => ?_) (fun cdv A outer s H vs Q E hr h => ?_)
  · obtain ⟨c, v, x, p, us, m, rfl, _⟩ := h
    rfl
  · obtain ⟨c, v, x, p, us, m, rfl, hc, ha, hp, hm, k⟩ := h
    have hc : c = 82 ∨ c = 78 ∨ c = 83 ∨ c = 77 ∨ c = 67 ∨ c = 75 := by simpa [llets] using hc
    have hu := hu_of hr
    have nd := sc_law_item_fits.nd
    refine ⟨_, (pss_cons (ps_if (pt_not (pt_val (pe_call D_law_is_whole.ok (hr.mono (by decide)) (by rfl) D_law_is_whole.g D_law_is_whole.kp D_law_is_whole.b .nil pass0 (pa_cons (pv 1) pa_nil))))
    (pss_one (ps_ret pe_bl))
    pss_nil)
    (pss_cons (ps_if (pt_cmpR op_eq (pv 0) pe_str (nomark _))
    (pss_one (ps_ret (pe_chain op_le op_le pe_int (pv 1) pe_int)))
    pss_nil)
    (pss_cons (ps_if (pt_cmpR op_eq (pv 0) pe_str (nomark _))
    (pss_one (ps_ret (pe_chain op_lt op_lt (pe_un un_neg (pe_op op_shl pe_int pe_int)) (pv 1) (pe_op op_shl pe_int pe_int))))
    pss_nil)
    (pss_cons (ps_if (pt_cmpR op_eq (pv 0) pe_str (nomark _))
    (pss_one (ps_ret (pe_chain op_le op_le pe_int (pv 1) pe_int)))
    pss_nil)
    (pss_cons (ps_if (pt_cmpR op_eq (pv 0) pe_str (nomark _))
    (pss_one (ps_ret (pe_cmpR op_in_seq (pv 1) (pe_tup (pa_cons pe_int (pa_cons pe_int (pa_cons pe_int (pa_cons pe_int (pa_cons pe_int (pa_cons pe_int (pa_cons pe_int pa_nil)))))))) (by rfl))))
    pss_nil)
    (pss_cons (ps_if (pt_cmpR op_eq (pv 0) pe_str (nomark _))
    (pss_one (ps_ret (pe_and (pe_call D_law_is_whole.ok (hr.mono (by decide)) (by rfl) D_law_is_whole.g D_law_is_whole.kp D_law_is_whole.b .nil pass0 (pa_cons (pe_ix ix_tup (pv 2) pe_int (fun _ _ => rfl)) pa_nil)) (pe_one (pe_chain op_le op_lt pe_int (pv 1) (pe_ix ix_tup (pv 2) pe_int (fun _ _ => rfl)))))))
    pss_nil)
    (pss_one (ps_ret (pe_chain op_le op_le pe_int (pv 1) pe_int))))))))), ?_⟩
    refine ⟨_, rfl, v, x, rfl, ha, _, rfl, ?_⟩
    have k0 := k H (Same.refl H)
    cases x with
    | non => exact k0
    | bl b => exact k0
    | str z => exact k0
    | emp => exact k0
    | int z =>
    obtain rfl : v = .int z := ha
    have hi1 : ∀ (lo hi : Int), fitB c (.int z) m = decide (lo ≤ z ∧ z ≤ hi) → decide (lo ≤ z) = true → Q (.bl (decide (z ≤ hi))) H := by
      intro lo hi e q
      rw [e, show decide (lo ≤ z ∧ z ≤ hi) = decide (z ≤ hi) from decide_eq_decide.mpr ⟨fun r => r.2, fun r => ⟨of_decide_eq_true q, r⟩⟩] at k0
      exact k0
    have hi0 : ∀ (lo hi : Int), fitB c (.int z) m = decide (lo ≤ z ∧ z ≤ hi) → ¬ decide (lo ≤ z) = true → Q (.bl false) H := by
      intro lo hi e q
      rw [e, show decide (lo ≤ z ∧ z ≤ hi) = false from decide_eq_false fun r => q (decide_eq_true r.1)] at k0
      exact k0
    refine ⟨_, rfl, rfl, _, rfl, ?_⟩
    rw [sg_eq c 82 _ sg_R]
    refine ite2 (fun h1 => ?_) (fun h1 => ?_)
    · have h1 := of_decide_eq_true h1
      subst h1
      exact ⟨_, rfl, _, _, rfl, rfl, _, rfl, ite2 (fun q => ⟨_, _, rfl, rfl, hi1 0 7 rfl q⟩) (fun q => hi0 0 7 rfl q)⟩
    have h1 : ¬ c = 82 := fun e => h1 (decide_eq_true e)
    refine ⟨_, rfl, rfl, _, rfl, ?_⟩
    rw [sg_eq c 78 _ sg_N]
    refine ite2 (fun h2 => ?_) (fun h2 => ?_)
    · have h2 := of_decide_eq_true h2
      subst h2
      refine ⟨_, _, rfl, rfl, ⟨by decide, by decide, by decide⟩, _, rfl, _, rfl, _, _, rfl, rfl, _, rfl, ?_⟩
      rw [e64]
      have ef : fitB 78 (.int z) m = decide (-18446744073709551616 < z ∧ z < 18446744073709551616) := rfl
      refine ite2 (fun q => ?_) (fun q => ?_)
      · refine ⟨_, _, rfl, rfl, ⟨by decide, by decide, by decide⟩, _, _, rfl, rfl, ?_⟩
        rw [e64]
        rw [ef, show decide (-18446744073709551616 < z ∧ z < 18446744073709551616) = decide (z < 18446744073709551616) from decide_eq_decide.mpr ⟨fun r => r.2, fun r => ⟨of_decide_eq_true q, r⟩⟩] at k0
        exact k0
      · rw [ef, show decide (-18446744073709551616 < z ∧ z < 18446744073709551616) = false from decide_eq_false fun r => q (decide_eq_true r.1)] at k0
        exact k0
    have h2 : ¬ c = 78 := fun e => h2 (decide_eq_true e)
    refine ⟨_, rfl, rfl, _, rfl, ?_⟩
    rw [sg_eq c 83 _ sg_S]
    refine ite2 (fun h3 => ?_) (fun h3 => ?_)
    · have h3 := of_decide_eq_true h3
      subst h3
      exact ⟨_, rfl, _, _, rfl, rfl, _, rfl, ite2 (fun q => ⟨_, _, rfl, rfl, hi1 0 999 rfl q⟩) (fun q => hi0 0 999 rfl q)⟩
    have h3 : ¬ c = 83 := fun e => h3 (decide_eq_true e)
    refine ⟨_, rfl, rfl, _, rfl, ?_⟩
    rw [sg_eq c 77 _ sg_M]
    refine ite2 (fun h4 => ?_) (fun h4 => ?_)
    · have h4 := of_decide_eq_true h4
      subst h4
      refine ⟨_, rfl, (by show 7 ≤ sizeLine; decide), fun t ht => ?_⟩
      refine ⟨t, mods.map V.int, rfl, .inr (SqT.of upd_same), rfl, mods_flat, ?_⟩
      have k1 := k _ (new_same (o := .tup (mods.map V.int)) ht)
      have ef : fitB 77 (.int z) m = decide (z ∈ mods) := rfl
      rw [ef] at k1
      have e2 : inV (.int z) (mods.map V.int) = decide (z ∈ mods) := by
        by_cases hz : z ∈ mods
        · rw [in_mods hz, decide_eq_true hz]
        · rw [decide_eq_false hz]
          refine Bool.eq_false_iff.mpr fun q => hz ?_
          unfold inV at q
          rw [List.any_map] at q
          obtain ⟨y, hy, hq⟩ := List.any_eq_true.mp q
          have hq : (y == z) = true := hq
          rw [← beq_iff_eq.mp hq]
          exact hy
      rw [e2]
      exact k1
    have h4 : ¬ c = 77 := fun e => h4 (decide_eq_true e)
    refine ⟨_, rfl, rfl, _, rfl, ?_⟩
    rw [sg_eq c 67 _ sg_C]
    refine ite2 (fun h5 => ?_) (fun h5 => ?_)
    · have h5 := of_decide_eq_true h5
      subst h5
      obtain ⟨u, hu2, hum⟩ := hm rfl
      refine ⟨_, rfl, p, _, _, u, rfl, rfl, SqT.of hp, atI_nat (j := 2) hu2, u, m, rfl, hum, _, rfl, ?_⟩
      cases m with
      | non => exact k0
      | bl b => exact k0
      | str y => exact k0
      | emp => exact k0
      | int y =>
      obtain rfl : u = .int y := hum
      have ef : fitB 67 (.int z) (.int y) = decide (0 ≤ z ∧ z < y) := rfl
      refine ⟨_, rfl, _, _, rfl, rfl, _, rfl, ?_⟩
      refine ite2 (fun q => ?_) (fun q => ?_)
      · refine ⟨_, rfl, p, _, _, .int y, rfl, rfl, SqT.of hp, atI_nat (j := 2) hu2, _, _, rfl, rfl, ?_⟩
        rw [ef, show decide (0 ≤ z ∧ z < y) = decide (z < y) from decide_eq_decide.mpr ⟨fun r => r.2, fun r => ⟨of_decide_eq_true q, r⟩⟩] at k0
        exact k0
      · rw [ef, show decide (0 ≤ z ∧ z < y) = false from decide_eq_false fun r => q (decide_eq_true r.1)] at k0
        exact k0
    have h5 : ¬ c = 67 := fun e => h5 (decide_eq_true e)
    have h6 : c = 75 := by omega
    subst h6
    exact ⟨_, rfl, _, _, rfl, rfl, _, rfl, ite2 (fun q => ⟨_, _, rfl, rfl, hi1 0 1000 rfl q⟩) (fun q => hi0 0 1000 rfl q)⟩
end
end My

set_option Elab.async false
set_option linter.all false
set_option maxRecDepth 100000
set_option maxHeartbeats 1000000
namespace My
open PySem L2 MyR
def lkv7 : List (Key × V) := [(.inr "set", .str "RN"), (.inr "copy", .str "RR"), (.inr "add", .str "RRR"), (.inr "sub", .str "RRR"), (.inr "mul", .str "RRR"), (.inr "left", .str "RR"), (.inr "right", .str "RR")]
theorem merge7 : mergeK [] lkv7 = lkv7 := by rfl
theorem put10 : putK (putK (putK lkv7 (.inr "load") (.str "RS")) (.inr "store") (.str "SR")) (.inr "skip") (.str "RMCK") = lkv := by rfl
theorem lkv_eq : lkv = lforms.map fun p => ((.inr p.1 : Key), V.str p.2) := rfl
section
variable {P : Program} {w : World} {K : PySem.W.Frag} {mg : Str → Option Value} {base : Heap}
def pd (x : V) : PyData := match x with | .int i => .int i | _ => .none
theorem ints_eqv_nil (is : List Int) : PyData.eqv (.list (is.map PyData.int)) (.list []) = is.isEmpty := by
  cases is <;> simp [PyData.eqv, PyData.eqvAll]
theorem ilay : ∀ xs : List Int, PyData.canLayAll0 (xs.map PyData.int) = true
  | [] => by simp [PyData.canLayAll0]
  | x :: xs => by
    rw [List.map_cons, PyData.canLayAll0, PyData.canLay0, ilay xs]
    rfl
theorem idep : ∀ xs : List Int, PyData.depthAll (xs.map PyData.int) = 0
  | [] => by simp [PyData.depthAll]
  | x :: xs => by
    rw [List.map_cons, PyData.depthAll, PyData.depth, idep xs]
    rfl
theorem ints_shaped (xs : List Int) : SeqAt.shaped (.list (xs.map PyData.int)) = true := by
  unfold SeqAt.shaped
  rw [show (PyData.list (xs.map PyData.int)).canLay0 = true from by rw [PyData.canLay0]; exact ilay xs, Bool.true_and]
  refine decide_eq_true ?_
  rw [PyData.depth, idep]
  omega
theorem idp {K : PySem.W.Frag} {H : Hp} : ∀ xs : List Int, DpAll K H (xs.map V.int) (xs.map PyData.int)
  | [] => .nil
  | x :: xs => .cons (.int x) (idp xs)
abbrev s_law_row_fits : Stmt := top 35
abbrev N_law_row_fits : List Str := ["_law_row_here", "_law_forms", "_law_form", "_law_at"]
theorem sc_law_row_fits : FnScope N_law_row_fits ["_law_row_here"] (defScope s_law_row_fits) := ⟨rfl, rfl, rfl, by decide +kernel, rfl, by decide +kernel, by decide +kernel⟩
theorem ok_law_row_fits {f : Addr} {fd : FuncData} (F : Fun K "_law_row_fits" "_law_row_fits" s_law_row_fits f fd) (T : Glob mg) (D_law_item_fits : Df P w K mg base 2 "_law_item_fits" ["_law_form", "_law_value", "_law_row_here"] spFit) : FnOk P w K mg base CX0 3 f fd ["_law_row_here"] spFits := by
  refine F.ok sc_law_row_fits (fun vs H Q E h => ?_) (fun cdv A outer s H vs Q E hr h => ?_)
  · obtain ⟨d, l, v, r, rfl, _⟩ := h
    rfl
  · obtain ⟨d, l, v, r, rfl, ha, hlong, k⟩ := h
    have hu := hu_of hr
    have nd := sc_law_row_fits.nd
    refine ⟨_, (pss_cons (ps_set (i := 1) nd rfl (Or.inl rfl) (pe_disp (pps_cons pe_str pe_str (pps_cons pe_str pe_str (pps_cons pe_str pe_str (pps_cons pe_str pe_str (pps_cons pe_str pe_str (pps_cons pe_str pe_str (pps_cons pe_str pe_str pps_nil))))))) (by rfl) (by rfl) (fun z => by cases z) (by decide)))
    (pss_cons (ps_asg (pe_tup (pa_cons pe_str (pa_cons pe_str (pa_cons pe_str pa_nil)))) (pg_tup (by rfl) (pgs_cons (pg_sub (pv 1) pe_str (set_dict hu)) (pgs_cons (pg_sub (pv 1) pe_str (set_dict hu)) (pgs_cons (pg_sub (pv 1) pe_str (set_dict hu)) pgs_nil)))))
    (pss_cons (ps_if (PW.pt (pw_or (pt_not (pt_val (pe_callB call_isi (by rfl) T.g_isinstance (by decide +kernel) (pa_cons (pv 0) (pa_cons (pe_bltn (v := .ty "tuple") (by rfl) T.g_tuple (by decide +kernel) rfl) pa_nil))))) (pw_or (pt_cmpR op_eq (pe_callB call_len_seq (by rfl) T.g_len PySem.boot_len (pa_cons (pv 0) pa_nil)) pe_int (nomark _)) (pw_or (pt_not (pt_val (pe_callB call_isi (by rfl) T.g_isinstance (by decide +kernel) (pa_cons (pe_ix ix_tup (pv 0) pe_int (fun _ _ => rfl)) (pa_cons (pe_bltn (v := .ty "str") (by rfl) T.g_str (by decide +kernel) rfl) pa_nil))))) (pw_or1 (pt_cmp (pc_dnotin hu (pe_ix ix_tup (pv 0) pe_int (fun _ _ => rfl)) (pv 1))))))))
    (pss_one (ps_ret pe_bl))
    pss_nil)
    (pss_cons (ps_set (i := 2) nd rfl (Or.inr rfl) (pe_dget hu (pv 1) (pe_ix ix_tup (pv 0) pe_int (fun _ _ => rfl)) (fun _ _ => rfl)))
    (pss_cons (ps_if (pt_cmpR op_ne (pe_callB call_len_seq (by rfl) T.g_len PySem.boot_len (pa_cons (pv 0) pa_nil)) (pe_op op_add (pe_callB call_len_str (by rfl) T.g_len PySem.boot_len (pa_cons (pv 2) pa_nil)) pe_int) (nomark _))
    (pss_one (ps_ret pe_bl))
    pss_nil)
    (pss_one (ps_ret (pe_cmpR (op_eqD hr.units) (pe_lc (own := [("_law_at", 3)]) (g := gName 3) rfl nd (pi_range1 (by rfl) T.g_range (pa_cons (pe_callB call_len_str (by rfl) T.g_len PySem.boot_len (pa_cons (pv 2) pa_nil)) pa_nil)) (blkOk_by (N := N_law_row_fits) (sc := defScope s_law_row_fits) (by decide +kernel)) (fun _ _ _ _ _ => pg_name (i := 3) nd rfl (Or.inl rfl)) (fun _ _ _ _ _ => pts_one (pt_not (pt_val (pe_call D_law_item_fits.ok (hr.mono (by decide)) (by rfl) D_law_item_fits.g D_law_item_fits.kp D_law_item_fits.b .nil pass0 (pa_cons (pe_ix ix_str (pv 2) (pv 3) (fun _ _ => rfl)) (pa_cons (pe_ix (r := rIxT K) ix_tup (pv 0) (pe_op op_add (pv 3) pe_int) (fun _ _ => rfl)) (pa_cons (pv 0) pa_nil))))))) (fun _ _ _ _ _ => (pv 3))) (pe_lst pa_nil) (nomark _))))))))), ?_⟩
    refine seq_by (fun σ H1 => ∃ D0, σ = [some v, some (.ref D0), none, none] ∧ H D0 = none ∧ H1 D0 = some (.dK lkv7) ∧ Same H H1) (fun D' hD' => ?_) ?_
    · intro D0 hD0
      refine ⟨upd_same, lkv7, rfl, by decide, ?_⟩
      refine hD' _ _ ⟨D0, rfl, hD0, ?_, fun b o e => ?_⟩
      · rw [upd_same, merge7]
      · rw [upd_ne (ne_of_none e hD0), upd_ne (ne_of_none e hD0)]
        exact e
    rintro σ H1 ⟨D0, rfl, hD0, h1, sm1⟩
    refine seq_by (fun σ H2 => σ = [some v, some (.ref D0), none, none] ∧ H2 D0 = some (.dK lkv) ∧ Same H H2) (fun D' hD' => ?_) ?_
    · refine ⟨by show 3 ≤ sizeLine; decide, fun T0 hT0 => ?_⟩
      have nDT : D0 ≠ T0 := ne_of_none h1 hT0
      refine ⟨T0, _, rfl, SqT.of upd_same, rfl, ?_⟩
      refine ⟨_, _, rfl, _, rfl, D0, _, rfl, DPut.k (k := .inr "load") (by rw [upd_ne nDT]; exact h1) (by show _ < sizeLine; decide), ?_⟩
      refine ⟨_, _, rfl, _, rfl, D0, _, rfl, DPut.k (k := .inr "store") upd_same (by show _ < sizeLine; decide), ?_⟩
      refine ⟨_, _, rfl, _, rfl, D0, _, rfl, DPut.k (k := .inr "skip") upd_same (by show _ < sizeLine; decide), ?_⟩
      refine ⟨rfl, ?_⟩
      refine hD' _ _ ⟨rfl, ?_, fun b o e => ?_⟩
      · rw [upd_same]
        exact congrArg (fun z => some (HO.dK z)) put10
      · have n0 := ne_of_none e hD0
        rw [upd_ne n0, upd_ne n0, upd_ne n0, upd_ne (ne_of_none (sm1 _ _ e) hT0)]
        exact sm1 _ _ e
    rintro σ H2 ⟨rfl, h2, sm2⟩
    replace ha := ha.same sm2
    replace k : ∀ H', Same H2 H' → Q (.bl (fits r)) H' := fun H' s => k H' (sm2.trans s)
    clear hD0 h1 sm1
    obtain ⟨tT, hTy, hkit⟩ := rv_tup (K := K) ha
    refine ⟨_, rfl, _, _, tT, _, r.bT, rfl, .ty "tuple", hTy, hkit, _, rfl, ?_⟩
    cases hT : r.bT with
    | false =>
      have e : fits r = false := by
        cases r with
        | tup xs => cases hT
        | _ => rfl
      have k0 := k H2 (Same.refl H2)
      rw [e] at k0
      exact k0
    | true =>
    obtain ⟨p, vs, rfl, hp, hal⟩ := tup_at ha hT
    have hl := hal.len
    have sq0 : ∀ H', Same H2 H' → SqT K H' p vs := fun H' sm => SqT.of (sm _ _ hp)
    refine ⟨_, rfl, p, _, rfl, .inr (sq0 H2 (Same.refl H2)), rfl, _, rfl, ?_⟩
    refine ite2 (fun h0 => ?_) (fun h0 => ?_)
    · have h0 := V.int.inj (of_decide_eq_true h0)
      have e : fits r = false := fits_empty (List.eq_nil_of_length_eq_zero (by omega))
      have k0 := k H2 (Same.refl H2)
      rw [e] at k0
      exact k0
    have hne : r.its ≠ [] := by
      intro e
      rw [e] at hl
      exact h0 (decide_eq_true (by rw [hl]; rfl))
    have er := good_tup hT hne
    obtain ⟨x, xs, ex⟩ : ∃ x xs, r.its = x :: xs := by
      cases e : r.its with
      | nil => exact absurd e hne
      | cons x xs => exact ⟨x, xs, rfl⟩
    rw [ex] at hal er hlong hl
    subst er
    cases hal with
    | @cons v0 _ vs' _ hx hxs =>
    have hl' := hxs.len
    have sqc : ∀ H', Same H2 H' → SqT K H' p (v0 :: vs') := fun H' sm => sq0 H' sm
    obtain ⟨tS, hTyS, hkitS⟩ := it_str (K := K) hx
    refine ⟨_, rfl, p, _, _, v0, rfl, rfl, sqc H2 (Same.refl H2), atI_nat (j := 0) rfl, ?_⟩
    refine ⟨_, _, tS, _, x.bS, rfl, .ty "str", hTyS, hkitS, _, rfl, ?_⟩
    cases x with
    | int z => exact k H2 (Same.refl H2)
    | bl z => exact k H2 (Same.refl H2)
    | non => exact k H2 (Same.refl H2)
    | emp => exact k H2 (Same.refl H2)
    | str w0 =>
    obtain ⟨rfl, hstr⟩ := hx
    have dg : DGet H2 D0 (.str w0) ((lforms.lookup w0).map V.str) := by
      have q := DGet.k (k := .inr w0) h2
      rw [lkv_eq, lkv_get] at q
      exact q
    refine ⟨_, rfl, p, _, _, .str w0, rfl, rfl, sqc H2 (Same.refl H2), atI_nat (j := 0) rfl, ?_⟩
    refine ⟨_, rfl, D0, _, rfl, dg, _, rfl, ?_⟩
    cases hf : lforms.lookup w0 with
    | none =>
      have k0 := k H2 (Same.refl H2)
      rw [fits_none hf] at k0
      exact k0
    | some fm =>
    rw [hf] at dg
    refine ⟨_, rfl, _, rfl, p, _, _, .str w0, rfl, rfl, sqc H2 (Same.refl H2), atI_nat (j := 0) rfl, D0, .str fm, rfl, dg, ?_⟩
    have hfl : fm.length = fm.cps.size := rfl
    have h4 := lform_size hf
    rw [fits_some hf] at k
    refine ⟨_, rfl, p, _, rfl, .inr (sqc H2 (Same.refl H2)), _, rfl, fm, rfl, Nat.le_of_lt (small1000 (by rw [hfl]; omega)), _, _, rfl, rfl, rfl, _, rfl, ?_⟩
    by_cases hlen : xs.length = fm.cps.size
    case neg =>
      rw [decide_eq_false hlen, Bool.false_and] at k
      refine ite2 (fun _ => k H2 (Same.refl H2)) (fun hz => absurd ?_ hz)
      refine Bool.not_eq_true' _ ▸ ?_
      refine decide_eq_false fun e => hlen ?_
      have := V.int.inj e
      rw [List.length_cons, hl', hfl] at this
      omega
    rw [decide_eq_true hlen, Bool.true_and] at k
    refine iteNS (by rw [hfl, ← hlen, List.length_cons, hl']; simp) ?_
    let fb : Nat → Bool := fun j => fitB (fm.cps.toList.getD j 0) (xs.getD j .non) (xs.getD 1 .non)
    refine ⟨_, rfl, fm, rfl, Nat.le_of_lt (small1000 (by rw [hfl]; omega)), (fm.cps.size : Int), by rw [hfl], by omega, by omega, fun D hD => ?_⟩
    rw [Int.toNat_natCast]
    refine lc_range (lo := 0) (n := fm.cps.size) (fun i H3 => Same H2 H3 ∧ H3 D = some (.lst ((((List.range i).filter fun j => !fb j).map fun j : Nat => (j : Int)).map V.int))) ⟨new_same hD, upd_same⟩ ?_ ?_
    · rintro i H3 hi ⟨sm3, h3⟩
      have h0i : (0 : Int) + (i : Int) = (i : Int) := by omega
      rw [h0i]
      refine ⟨rfl, ?_⟩
      obtain ⟨c, hc⟩ : ∃ c, fm.cps[i]? = some c := ⟨fm.cps[i], Array.getElem?_eq_getElem hi⟩
      obtain ⟨z, hz⟩ : ∃ z, xs[i]? = some z := ⟨xs[i], List.getElem?_eq_getElem (by omega)⟩
      obtain ⟨y, hy, hyz⟩ := hxs.get hz
      have e1 : ((i : Int) + 1) = ((i + 1 : Nat) : Int) := by omega
      have hy' : (V.str w0 :: vs')[i + 1]? = some y := hy
      refine ⟨_, rfl, _, rfl, fm, (i : Int), c, rfl, rfl, Nat.le_of_lt (small1000 (by rw [hfl]; omega)), ?_, ?_⟩
      · refine atI_nat (j := i) ?_
        rw [Array.getElem?_toList]
        exact hc
      refine ⟨_, rfl, _, rfl, _, _, rfl, rfl, p, _, _, y, rfl, rfl, sqc H3 sm3, ?_, ?_⟩
      · rw [e1]
        exact atI_nat hy'
      have e0 : fitB c z (xs.getD 1 .non) = fb i := by
        show _ = fitB _ _ _
        rw [getD_of hz, getD_of (show fm.cps.toList[i]? = some c by rw [Array.getElem?_toList]; exact hc)]
      refine ⟨_, rfl, c, y, z, p, _, xs.getD 1 .non, rfl, llets_ok hf hc, hyz.same sm3, sm3 _ _ hp, fun hc67 => ?_, fun H4 sm4 => ?_⟩
      · rw [hc67] at hc
        have h4' := lform_c hf hc
        obtain ⟨z1, hz1⟩ : ∃ z1, xs[1]? = some z1 := ⟨xs[1], List.getElem?_eq_getElem (by omega)⟩
        obtain ⟨y1, hy1, hyz1⟩ := hxs.get hz1
        refine ⟨y1, hy1, ?_⟩
        rw [getD_of hz1]
        exact hyz1.same sm3
      rw [e0]
      have h3' := sm4 _ _ h3
      refine ⟨_, rfl, ?_⟩
      cases hfb : fb i with
      | true =>
        refine iteF ?_
        refine ⟨sm3.trans sm4, ?_⟩
        rw [filt_snoc, hfb]
        simp only [Bool.not_true, Bool.false_eq_true, if_false, List.append_nil]
        exact h3'
      | false =>
        refine iteT ?_
        refine ⟨_, rfl, _, h3', ?_, fun b o e => ?_, ?_⟩
        · rw [List.length_map, List.length_map]
          have := List.length_filter_le (fun j => !fb j) (List.range i)
          rw [List.length_range] at this
          exact small1000 (by omega)
        · rw [upd_ne (ne_of_none e hD)]
          exact (sm3.trans sm4) _ _ e
        · rw [upd_same, filt_snoc, hfb]
          simp only [Bool.not_false, if_true, List.map_append]
          rfl
    · rintro H3 ⟨sm3, h3⟩
      refine ⟨by show 0 ≤ sizeLine; decide, fun e he => ?_⟩
      have sm4 := new_same (o := .lst []) he
      refine ⟨_, .list [], .lst (SqL.of (sm4 _ _ h3)) (idp _), .lst (SqL.of upd_same) .nil, ints_shaped _, rfl, ?_⟩
      rw [ints_eqv_nil]
      have k1 := k _ (sm3.trans sm4)
      have ee : (((List.range fm.cps.size).filter fun j => !fb j).map fun j : Nat => (j : Int)).isEmpty = ((List.range xs.length).all fun j => fitB (fm.cps.toList.getD j 0) (xs.getD j .non) (xs.getD 1 .non)) := by
        rw [List.isEmpty_map, filt_nil, hlen]
      rw [ee]
      exact k1
end
end My

set_option Elab.async false
set_option linter.all false
set_option maxRecDepth 100000
set_option maxHeartbeats 1000000
namespace MyR
open PySem PySem.Spec PyProof.Rows L2
/-! ### isinstance of a caught error that has fields -/
section
variable {X : Cx} {a D dd : Addr} {oe : Obj} {pn : List (Addr × Obj)} {pins : List (Addr × Obj)} {σ : L2.St} {H : Hp} {s : Shared} {fs : List (Str × V)}
theorem xd_inst (hz : Zc (.ref D) (some dd) oe) (hf : ∃ vs, oe.data = .fields vs) (I : Inv (X.suite a ((a, oe) :: pn)) pins σ H s) (hd : H dd = some (.xd fs)) : ∃ od, PySem.W.InstAt s.heap a oe D (some od) := by
  obtain ⟨ha, _⟩ := I.pin (a, oe) (List.mem_append_left _ List.mem_cons_self)
  obtain ⟨vs, hv⟩ := hf
  have hx : ObjOk X.prog X.w H s.heap dd (.xd fs) := I.hok dd _ hd
  obtain ⟨mA, hns, _⟩ := hx
  obtain ⟨od, ho, _⟩ := lookIn_ns hns
  exact ⟨od, ha, hz.1, by unfold PySem.W.notCls; rw [hv] <;> rfl, by rw [hz.2]; exact ho⟩
def clsV : V → Value
  | .ref C => .ref C
  | _ => .none
/-- isinstance(e, C), isinstance(e, (C, ..)) -/
def rIsD (K : PySem.W.Frag) (D a dd : Addr) : List V → Hp → VK → Prop := fun xs H Q => ∃ (fs : List (Str × V)) (b : Bool), H dd = some (.xd fs) ∧ Q (.bl b) H ∧
  ((∃ C : Addr, xs = [.ref a, .ref C] ∧ PySem.W.kitOne K (.ref D) (.ref C) = some b) ∨ ∃ (t : Addr) (Cs : List Addr), xs = [.ref a, .ref t] ∧ H t = some (.tup (Cs.map V.ref)) ∧ PySem.W.kitAny K (.ref D) (Cs.map Value.ref) = some b)
theorem refs_vals : ∀ {Cs : List Addr} {us : List Value}, Vals (Cs.map V.ref) us → us = Cs.map Value.ref
  | [], _, .nil => rfl
  | C :: Cs, _, .cons h t => by
    obtain rfl := (show _ = Value.ref C from h)
    rw [List.map_cons, ← refs_vals t]
theorem call_isD (C : ExcC X.K D) (hz : Zc (.ref D) (some dd) oe) (hf : ∃ vs, oe.data = .fields vs) : CallR (X.suite a ((a, oe) :: pn)) (.builtin "isinstance") (rIsD X.K D a dd) := by
  intro pins s σ H xs us Q I r h
  obtain ⟨fs, b, hd, q, h⟩ := h
  obtain ⟨od, J⟩ := xd_inst hz hf I hd
  have hcl : (PySem.W.clsIn X.K D).isSome = true := by
    have := C.hd
    unfold PySem.W.hasDictIn at this
    obtain ⟨cd, hc, _⟩ := PySem.W.any_some this
    rw [hc]
    rfl
  rcases h with ⟨E, rfl, e⟩ | ⟨t, Cs, rfl, ht, e⟩
  · cases r with
    | cons rx rr =>
    cases rr with
    | cons rt rr =>
    cases rr
    cases rx
    cases rt
    exact PySem.W.kia_one (PySem.W.kitx_exc hcl C.hg C.hk C.hs C.ha C.hn C.ht C.hm) I.kIn J e (fun z => nomatch z) fun tk => ⟨.bl b, H, I.kept (t' := tk) fun _ _ z => z, rfl, q⟩
  · cases r with
    | cons rx rr =>
    cases rr with
    | cons rt rr =>
    cases rr
    cases rx
    cases rt
    have hx : ObjOk X.prog X.w H s.heap t (.tup (Cs.map V.ref)) := I.hok t _ ht
    obtain ⟨_, its, rv, tup⟩ := hx
    obtain rfl := refs_vals rv
    obtain ⟨⟨oc, odd, odt, osl⟩, h1, h2, n, h3⟩ := tup
    dsimp only at h2 h3
    subst h2 h3
    exact PySem.W.kia_tup (PySem.W.kitx_exc hcl C.hg C.hk C.hs C.ha C.hn C.ht C.hm) I.kIn J h1 e (fun z => nomatch z) fun tk => ⟨.bl b, H, I.kept (t' := tk) fun _ _ z => z, rfl, q⟩
end
end MyR

set_option Elab.async false
set_option linter.all false
set_option maxRecDepth 100000
set_option maxHeartbeats 1000000
namespace My
open PySem L2 MyR
/-! ### the errors -/
def spInv (cI : Addr) : Sp := fun vs H Q _ => ∃ (a : Addr) (y z : V), vs = [.ref a, y, z] ∧ H a = some (exo a cI none) ∧
  ∀ (d : Addr) H', H d = none → H' a = some (exo a cI (some d)) → H' d = some (exd d [("row", z), ("word", y)]) → (∀ b o, H b = some o → b ≠ a → H' b = some o) → Q .non H'
structure ErrI (P : Program) (w : World) (K : PySem.W.Frag) (mg : Str → Option Value) (base : Heap) (cI : Addr) where
  f : Addr
  fd : FuncData
  x : OexC K cI
  i : PySem.W.findIn K (.ref cI) "__init__" = some (some (.ref f))
  t : PySem.W.typeIn K (.ref f) = some (.type "function")
  ok : FnOk P w K mg base CX0 1 f fd ["self", "word", "row"] (spInv cI)
  b : Binds K fd ["self", "word", "row"] []
  g : mg "InvalidCode" = some (.ref cI)
/-- what a code is made of: the rows, whole or not -/
def RowsOk (rs : List Rv) : Prop := rs.length ≤ 1500 ∧ ∀ r ∈ rs, r.its.length ≤ 100
def IniC (H : Hp) (p C dx t : Addr) (H' : Hp) : Prop := H' p = some (.ins C dx [("rows", .ref t)]) ∧ ∀ b o, H b = some o → b ≠ p → H' b = some o
def spCode (C cI : Addr) : Sp := fun vs H Q E => ∃ (p dx a d l : Addr) (us : List V) (rs : List Rv), vs = [.ref p, .ref a] ∧ H p = some (.ins C dx []) ∧ (H a = some (.lst us) ∨ H a = some (.tup us)) ∧ RvsAt d l H us rs ∧ RowsOk rs ∧
  (due rs = none → ∀ (t : Addr) H', IniC H p C dx t H' → H' t = some (.tup us) → Q .non H') ∧
  (∀ w i, due rs = some (w, i) → ∀ (x : Addr) H', (∀ b o, H b = some o → b ≠ p → H' b = some o) → H' x = some (.xd [("row", .int i), ("word", .str w)]) → E (.ref cI) (some x) H')
theorem good_row {d l : Addr} {H : Hp} {v : V} {r : Rv} (h : RvAt d l H v r) (g : good r = true) : ∃ (q : Rw) (p : Addr), v = .ref p ∧ RowAt H q p ∧ r = q.rv ∧ (q.w = ("skip" : Str) → ∃ a m c n : Int, q.xs = [a, m, c, n] ∧ c < m) := by
  obtain ⟨w, f, zs, rfl, hf, hl, hs⟩ := good_form g
  obtain ⟨p, us, rfl, hp, hal⟩ := h
  refine ⟨⟨w, zs⟩, p, rfl, ?_, rfl, hs⟩
  cases hal with
  | cons h0 h1 =>
    obtain ⟨rfl, _⟩ := h0
    obtain rfl := ints_of h1
    exact hp
theorem over_row (q : Rw) (left a m c n : Int) (h : q.w = ("skip" : Str)) (hx : q.xs = [a, m, c, n]) : over q.rv left = decide (left < n) := by
  obtain ⟨w, xs⟩ := q
  subst hx
  show (decide (w = ("skip" : Str)) && decide (left < n)) = _
  rw [decide_eq_true h, Bool.true_and]
theorem over_not (q : Rw) (left : Int) (h : ¬ q.w = ("skip" : Str)) : over q.rv left = false := by
  obtain ⟨w, xs⟩ := q
  unfold over Rw.rv
  split
  · rename_i s _ _ _ n e
    have := (List.cons.inj (Rv.tup.inj e)).1
    have := It.str.inj this
    rw [decide_eq_false (by rw [← this]; exact h)]
    rfl
  · rfl
section
variable {P : Program} {w : World} {K : PySem.W.Frag} {mg : Str → Option Value} {base : Heap}
abbrev s_InvalidCode_init : Stmt := inClass (top 5) 0
abbrev N_InvalidCode_init : List Str := ["self", "word", "row"]
theorem sc_InvalidCode_init : FnScope N_InvalidCode_init ["self", "word", "row"] (defScope s_InvalidCode_init) := ⟨rfl, rfl, rfl, by decide +kernel, rfl, by decide +kernel, by decide +kernel⟩
theorem ok_InvalidCode_init {f cI : Addr} {fd : FuncData} (F : Fun K "__init__" "InvalidCode.__init__" s_InvalidCode_init f fd) (x : OexC K cI) (n1 : PySem.W.findIn K (.ref cI) "word" = some none) (n2 : PySem.W.findIn K (.ref cI) "row" = some none) : FnOk P w K mg base CX0 1 f fd ["self", "word", "row"] (spInv cI) := by
  refine F.ok sc_InvalidCode_init (fun vs H Q E h => ?_) (fun cdv A outer s H vs Q E hr h => ?_)
  · obtain ⟨a, y, z, rfl, _⟩ := h
    rfl
  · obtain ⟨a, y, z, rfl, ha, k⟩ := h
    refine ⟨_, (pss_cons (ps_ost (pv 0) (pv 1))
    (pss_one (ps_ost (pv 0) (pv 2)))), ?_⟩
    refine ⟨_, rfl, _, rfl, a, cI, rfl, x, n1, .inl ⟨ha, fun dx hdx hne => ?_⟩⟩
    refine ⟨_, rfl, _, rfl, a, cI, rfl, x, n2, .inr ⟨dx, _, upd_same, by rw [upd_ne hne]; exact upd_same, (by show 1 ≤ 900; decide), ?_⟩⟩
    refine k dx _ hdx (by rw [upd_ne (Ne.symm hne)]; exact upd_same) upd_same fun b o e hb => ?_
    have nb := ne_of_none e hdx
    rw [upd_ne nb, upd_ne hb, upd_ne nb]
    exact e
abbrev s_Code_init : Stmt := inClass (top 25) 0
abbrev N_Code_init : List Str := ["self", "rows", "at", "row"]
theorem sc_Code_init : FnScope N_Code_init ["self", "rows"] (defScope s_Code_init) := ⟨rfl, rfl, rfl, by decide +kernel, rfl, by decide +kernel, by decide +kernel⟩
theorem ok_Code_init {f C cI : Addr} {fd : FuncData} (F : Fun K "__init__" "Code.__init__" s_Code_init f fd) (T : Glob mg) (T2 : Tabs w K mg) (cl : Cls K C) (n1 : NoAttr K C "rows") (EI : ErrI P w K mg base cI) (D_is_row : Df P w K mg base 4 "is_row" ["row"] spRow) : FnOk P w K mg base (L2.CX P w) 5 f fd ["self", "rows"] (spCode C cI) := by
  obtain ⟨tR, hMR⟩ := T2.rows
  refine F.okX sc_Code_init (fun vs H Q E h => ?_) (fun cdv A outer s H vs Q E hr h => ?_)
  · obtain ⟨p, dx, a, d, l, us, rs, rfl, _⟩ := h
    rfl
  · obtain ⟨p, dx, a, d, l, us, rs, rfl, hp, ha, hrs, hok, k, kE⟩ := h
    have nd := sc_Code_init.nd
    have hu := hu_of hr
    refine ⟨_, (pss_cons (ps_if (pt_cmpR op_gt (pe_callB call_len_seq (by rfl) T.g_len PySem.boot_len (pa_cons (pv 1) pa_nil)) (pe_glob (v := .int 1000) rfl hMR ⟨_, rfl⟩) (nomark _))
    (pss_one (ps_raise rfl (takes_of rfl rfl rfl rfl) (pmk_oex EI.x EI.i EI.t EI.ok (hr.mono (by decide)) EI.b .nil pass0 (by rfl) EI.g (pa_cons pe_str (pa_cons (pe_un un_neg pe_int) pa_nil)))))
    pss_nil)
    (pss_cons (ps_fld (pv 0) (pe_callTy call_tuple_of (by rfl) T.g_tuple (by decide +kernel) (pa_cons (pv 1) pa_nil)) rfl)
    (pss_one (ps_for (passes_of rfl) rfl (pi_enumT (by rfl) T.g_enumerate (pa_cons (pe_fld (pv 0) rfl) pa_nil)) (pg_tup (by rfl) (pgs_cons (pg_name (i := 2) nd rfl (Or.inl rfl)) (pgs_cons (pg_name (i := 3) nd rfl (Or.inl rfl)) pgs_nil)))
    (pss_cons (ps_if (pt_not (pt_val (pe_call D_is_row.ok (hr.mono (by decide)) (by rfl) D_is_row.g D_is_row.kp D_is_row.b .nil pass0 (pa_cons (pv 3) pa_nil))))
    (pss_one (ps_raise rfl (takes_of rfl rfl rfl rfl) (pmk_oex EI.x EI.i EI.t EI.ok (hr.mono (by decide)) EI.b .nil pass0 (by rfl) EI.g (pa_cons pe_str (pa_cons (pv 2) pa_nil)))))
    pss_nil)
    (pss_one (ps_if (PW.pt (pw_and (pt_cmpR op_eq (pe_ix ix_tup (pv 3) pe_int (fun _ _ => rfl)) pe_str (nomark _)) (pw_and1 (pt_cmpR op_gt (pe_op op_add (pe_op op_add (pv 2) pe_int) (pe_ix ix_tup (pv 3) pe_int (fun _ _ => rfl))) (pe_callB call_len_seq (by rfl) T.g_len PySem.boot_len (pa_cons (pe_fld (pv 0) rfl) pa_nil)) (nomark _)))))
    (pss_one (ps_raise rfl (takes_of rfl rfl rfl rfl) (pmk_oex EI.x EI.i EI.t EI.ok (hr.mono (by decide)) EI.b .nil pass0 (by rfl) EI.g (pa_cons pe_str (pa_cons (pv 2) pa_nil)))))
    pss_nil))))))), ?_⟩
    have hrl : us.length = rs.length := hrs.len
    have hsq : SqL K H a us ∨ SqT K H a us := by
      rcases ha with h | h
      · exact .inl (SqL.of h)
      · exact .inr (SqT.of h)
    -- an error that is raised
    have bad : ∀ (H1 : Hp) (w : Str) (i : Int), due rs = some (w, i) → (∀ b o, H b = some o → b ≠ p → H1 b = some o) → ∀ x, H1 x = none → spInv cI [.ref x, .str w, .int i] (upd H1 x (exo x cI none))
        (fun v H2 => v = .non ∧ ∃ (d : Addr) (fs : List (Str × V)), H2 x = some (exo x cI (some d)) ∧ H2 d = some (exd d fs) ∧ H1 d = none ∧ E (.ref cI) (some d) (upd (del H2 x) d (.xd fs))) (fun _ _ _ => False) := by
      intro H1 w i hdue sm x hx
      refine ⟨x, _, _, rfl, upd_same, fun d2 H2 hd2 e1 e2 keep => ⟨rfl, d2, _, e1, e2, ?_, ?_⟩⟩
      · by_cases e : d2 = x
        · rw [e]; exact hx
        · rw [upd_ne e] at hd2; exact hd2
      · refine kE w i hdue d2 _ (fun b o e hb => ?_) upd_same
        have e1' := sm b o e hb
        have nbx := ne_of_none e1' hx
        have hd2' : H1 d2 = none := by
          by_cases e : d2 = x
          · rw [e]; exact hx
          · rw [upd_ne e] at hd2; exact hd2
        have nbd := ne_of_none e1' hd2'
        rw [upd_ne nbd, del_ne nbx]
        exact keep b o (by rw [upd_ne nbx]; exact e1') nbx
    refine seq_by (fun σ H1 => σ = [some (.ref p), some (.ref a), none, none] ∧ H = H1 ∧ rs.length ≤ 1000) (fun D' hD' => ?_) ?_
    · refine ⟨_, rfl, a, _, rfl, hsq, _, _, rfl, rfl, _, rfl, ?_⟩
      refine ite2 (fun h0 => ?_) (fun h0 => hD' _ _ ⟨rfl, rfl, ?_⟩)
      · have h0 := of_decide_eq_true h0
        have hd : due rs = some (("count" : Str), (-1 : Int)) := if_pos (by omega)
        exact ⟨_, rfl, (by show 2 ≤ 1000; decide), fun x hx => bad H _ _ hd (fun b o e _ => e) x hx⟩
      · by_cases e : rs.length ≤ 1000
        · exact e
        · exact absurd (decide_eq_true (by omega)) h0
    rintro σ0 H0 ⟨rfl, rfl, hl1000⟩
    have hdueG : due rs = dueG (rs.length : Int) 0 rs := if_neg (by omega)
    refine seq_by (fun σ H1 => ∃ t, σ = [some (.ref p), some (.ref a), none, none] ∧ IniC H p C dx t H1 ∧ H1 t = some (.tup us)) (fun D' hD' => ?_) ?_
    · have fin : ∀ (t : Addr) (H1 : Hp), Same H H1 → H1 t = some (.tup us) → t ≠ p → D'.nx [some (.ref p), some (.ref a), none, none] (upd H1 p (.ins C dx [("rows", .ref t)])) := fun t H1 sm h2 ne => by
        exact hD' _ _ ⟨t, rfl, ⟨upd_same, fun b o e hb => by rw [upd_ne hb]; exact sm b o e⟩, by rw [upd_ne ne]; exact h2⟩
      rcases ha with ha | ha
      · refine ⟨_, rfl, a, _, rfl, .inl ⟨SqL.of ha, fun t ht => ?_⟩⟩
        have np : p ≠ t := ne_of_none hp ht
        refine ⟨_, rfl, p, C, dx, _, rfl, by rw [upd_ne np]; exact hp, cl, n1, (by show 0 < 1000; decide), ?_⟩
        exact fin t _ (new_same ht) upd_same (Ne.symm np)
      · refine ⟨_, rfl, a, _, rfl, .inr ⟨SqT.of ha, ?_⟩⟩
        refine ⟨_, rfl, p, C, dx, _, rfl, hp, cl, n1, (by show 0 < 1000; decide), ?_⟩
        exact fin a H (Same.refl H) ha (ne_of ha hp (by intro z; cases z))
    · rintro σ H1 ⟨t, rfl, ini, ht⟩
      refine ⟨_, rfl, p, C, dx, _, _, rfl, ini.1, cl, n1, rfl, t, _, rfl, SqT.of ht, ?_⟩
      -- the rows stand as they stood, the new object aside
      have rv1 : ∀ {v : V} {r : Rv} {H2 : Hp}, Same H1 H2 → RvAt d l H v r → RvAt d l H2 v r := fun {v r H2} sm h => by
        have put : ∀ (q : Addr) (o : HO), H q = some o → (o ≠ .ins C dx []) → H2 q = some o := fun q o e ne => sm _ _ (ini.2 q o e (fun z => by subst z; rw [hp] at e; exact ne (Option.some.inj e).symm))
        have iti : ∀ {v : V} {x : It}, ItAt H v x → ItAt H2 v x := fun {v x} h => by
          cases x with
          | emp => obtain ⟨q, e, z⟩ := h; exact ⟨q, e, put _ _ z (by intro z; cases z)⟩
          | int z => exact h
          | bl b => exact h
          | non => exact h
          | str z => exact h
        cases r with
        | it i => exact iti h
        | tup xs => obtain ⟨q, vs, e, z, al⟩ := h; exact ⟨q, vs, e, put _ _ z (by intro z; cases z), al.mono fun _ _ => iti⟩
        | lst xs => obtain ⟨q, vs, e, m1, m2, z, al⟩ := h; exact ⟨q, vs, e, m1, m2, put _ _ z (by intro z; cases z), al.mono fun _ _ => iti⟩
      refine for_it walk_enumT (fun i σ H2 => ∃ b c : Option V, σ = [some (.ref p), some (.ref a), b, c] ∧ Same H1 H2 ∧ due rs = dueG (rs.length : Int) i (rs.drop i)) ⟨none, none, rfl, Same.refl _, hdueG⟩ (fun i σ H2 _ ⟨_, _, _, sm, _⟩ => SqT.of (sm _ _ ht)) ?_ ?_
      · rintro i x σ H2 H3 hi ⟨b, c, rfl, sm, hdue⟩ ⟨Tt, y, z, rfl, hT, rfl, hy, hz⟩
        have ey := Option.some.inj hy
        subst ey
        have hil : i < rs.length := by rw [← hrl]; exact hi
        have hdr : rs.drop i = rs[i] :: rs.drop (i + 1) := List.drop_eq_getElem_cons hil
        rw [hdr] at hdue
        obtain ⟨r, hr0, hat⟩ := hrs.getL (show us[i]? = some z from hz)
        have er : r = rs[i] := by
          rw [List.getElem?_eq_getElem hil] at hr0
          exact (Option.some.inj hr0).symm
        subst er
        have sm3 : Same H1 (upd H2 Tt (.tup [.int (i : Nat), z])) := sm.trans (new_same hT)
        refine ⟨Tt, _, rfl, SqT.of upd_same, rfl, _, _, rfl, _, _, rfl, rfl, ?_⟩
        refine ⟨_, rfl, d, l, z, rs[i], rfl, rv1 sm3 hat, hok.2 _ (List.getElem_mem hil), fun H4 sm4 => ?_⟩
        have sm14 := sm3.trans sm4
        have gone : ∀ b o, H b = some o → b ≠ p → H4 b = some o := fun b o e hb => sm14 _ _ (ini.2 b o e hb)
        refine ⟨_, rfl, ?_⟩
        cases hg : good rs[i] with
        | false =>
          refine iteT ?_
          have hd : due rs = some (("row" : Str), (i : Int)) := by
            rw [hdue]
            show (if good rs[i] = true then _ else _) = _
            rw [hg, if_neg Bool.false_ne_true]
          exact ⟨_, rfl, (by show 2 ≤ 1000; decide), fun x hx => bad H4 _ _ hd gone x hx⟩
        | true =>
        refine iteF ?_
        obtain ⟨q, pq, rfl, hq, eq, hskip⟩ := good_row (rv1 sm14 hat) hg
        have next : over rs[i] ((rs.length : Int) - 1 - (i : Int)) = false → due rs = dueG (rs.length : Int) (i + 1) (rs.drop (i + 1)) := fun ho => by
          rw [hdue]
          show (if good rs[i] = true then (if over rs[i] _ = true then _ else _) else _) = _
          rw [hg, if_pos rfl, ho, if_neg Bool.false_ne_true]
        refine ⟨_, rfl, pq, _, _, .str q.w, rfl, rfl, SqT.of hq, atI_nat (j := 0) rfl, rfl, _, rfl, ?_⟩
        refine ite2 (fun hs => ?_) (fun hs => ?_)
        · have hs := V.str.inj (of_decide_eq_true hs)
          obtain ⟨a1, m, c1, n, ex, hn⟩ := hskip hs
          have evs : q.vs = [.str q.w, .int a1, .int m, .int c1, .int n] := by unfold Rw.vs; rw [ex]; rfl
          have sq4 : SqT K H4 pq q.vs := SqT.of hq
          rw [evs] at sq4
          have hp4 : H4 p = some (.ins C dx [("rows", .ref t)]) := sm14 _ _ ini.1
          have ho := over_row q ((rs.length : Int) - 1 - (i : Int)) a1 m c1 n hs ex
          rw [← eq] at ho
          refine ⟨_, rfl, _, _, rfl, rfl, _, rfl, pq, _, _, .int n, rfl, rfl, sq4, atI_nat (j := 4) rfl, _, _, rfl, rfl, ?_⟩
          refine ⟨_, rfl, p, C, dx, _, _, rfl, hp4, cl, n1, rfl, t, _, rfl, .inr (SqT.of (sm14 _ _ ht)), _, _, rfl, rfl, _, rfl, ?_⟩
          refine ite2 (fun h0 => ?_) (fun h0 => ?_)
          · have h0 := of_decide_eq_true h0
            rw [hrl] at h0
            have hd : due rs = some (("skip" : Str), (i : Int)) := by
              rw [hdue]
              show (if good rs[i] = true then (if over rs[i] _ = true then _ else _) else _) = _
              rw [hg, if_pos rfl, ho, if_pos (decide_eq_true (by omega))]
            exact ⟨_, rfl, (by show 2 ≤ 1000; decide), fun x hx => bad H4 _ _ hd gone x hx⟩
          · refine ⟨_, _, rfl, sm14, next ?_⟩
            rw [ho]
            refine decide_eq_false fun z => h0 (decide_eq_true ?_)
            rw [hrl]
            omega
        · refine iteF ?_
          refine ⟨_, _, rfl, sm14, next ?_⟩
          rw [eq]
          exact over_not q _ (fun e => hs (decide_eq_true (by rw [e])))
      · rintro σ H2 ⟨b, c, rfl, sm, hdue⟩
        rw [hrl, List.drop_length] at hdue
        exact k hdue t H2 ⟨sm _ _ ini.1, fun b o e hb => sm _ _ (ini.2 b o e hb)⟩ (sm _ _ ht)
end
end My

set_option Elab.async false
set_option linter.all false
set_option maxRecDepth 100000
set_option maxHeartbeats 1000000
namespace MyR
open PySem PySem.Spec PyProof.Rows L2
/-! ### C(e, ..) where C may raise; suites by a weaker reading -/
def tMakeS (C : Addr) (sp : Sp) (E : L2.St → XK) (t : TA) : TE := fun σ H Q => t σ H fun vs H1 => ∀ x dx, H1 x = none → H1 dx = none → dx ≠ x →
  sp (.ref x :: vs) (upd (upd H1 dx (.own x)) x (.ins C dx [])) (fun v H2 => v = .non ∧ Q (.ref x) H2) (E σ)
section
variable {X : Cx} {CX : CXT} {k : Nat} {f C : Addr} {fd : FuncData} {ps : List Str} {sp : Sp} {E : L2.St → XK} {x : Str} {p pos : Pos} {e : Expr} {es : List Expr} {t : TA}
theorem run_makeS {pins : List (Addr × Obj)} {σ : L2.St} {H : Hp} {s : Shared} {Q : VK} {us : List Value} {vs : List V} (M : Mk X.K C f) (F : FnOk X.prog X.w X.K X.mg X.base CX k f fd ps sp) (hr : Room (k + 1) X.A) (hb : Binds X.K fd ps [])
    (hx : PassesAt CX X σ (E σ)) (I : Inv X pins σ H s) (r : Vals vs us)
    (h : ∀ x dx, H x = none → H dx = none → dx ≠ x → sp (.ref x :: vs) (upd (upd H dx (.own x)) x (.ins C dx [])) (fun v H2 => v = .non ∧ Q (.ref x) H2) (E σ)) :
    wpAny (model X.prog X.w) X.A (call (.ref C) us) (EP X pins σ Q) X.xe s := by
  have hq := h (s.heap.objs.size + 1) s.heap.objs.size (I.hok.fresh (Nat.le_succ _)) (I.hok.fresh (Nat.le_refl _)) (Nat.ne_of_lt (Nat.lt_succ_self _))
  have I2 := Inv.made (C := C) I
  have r2 : Vals (V.ref (s.heap.objs.size + 1) :: vs) (Value.ref (s.heap.objs.size + 1) :: us) := .cons rfl r
  have hl : (Value.ref (s.heap.objs.size + 1) :: us).length = ps.length := by
    have e := r2.length
    rw [F.len _ _ _ _ hq] at e
    exact e.symm
  have b := hb _ (Value.ref (s.heap.objs.size + 1) :: us) I2.kIn (by rw [List.append_nil]; exact hl)
  rw [List.append_nil] at b
  refine wpAny_call (make_map (f := f) I.kIn M.makes M.init (beq_iff_eq.mp M.fn) (codeAny_mono (F.run _ X.stack _ _ ⟨Value.ref (s.heap.objs.size + 1) :: us, []⟩ (Value.ref (s.heap.objs.size + 1) :: us) _ _ (E σ) (hr.make C us [])
    (I2.env0.make C us []) b r2 hq) fun r s' hq' => ?_))
  cases r with
  | error e => exact hx pins _ _ e s' I2 hq'
  | ok fl =>
    cases fl with
    | ret u =>
      obtain ⟨v, H', I3, rv, ev, q3⟩ := I2.after hq'
      subst ev
      exact ⟨rv, ⟨V.ref (s.heap.objs.size + 1), H', I3, rfl, q3⟩⟩
    | next => exact False.elim hq'
    | brk => exact False.elim hq'
    | cont => exact False.elim hq'
theorem pe_makeS (M : Mk X.K C f) (F : FnOk X.prog X.w X.K X.mg X.base CX k f fd ps sp) (hr : Room (k + 1) X.A) (hg : Gl X x) (hm : X.mg x = some (.ref C)) (hb : Binds X.K fd ps []) (hx : ∀ σ, PassesAt CX X σ (E σ))
    (ha : PA X (e :: es) t) (hdb : (x == ("__debug__" : Str)) = false := by decide) (he : starEach (e :: es) X.env = (false, eval e X.env) :: starEach es X.env := by rfl) (hpl : (backTo pos (starEach es X.env)).any (·.1) = false := by rfl) :
    PE X (.Call (.Name x p) (e :: es) [] pos) (tMakeS C sp E t) := by
  refine ⟨fun pins s σ H Q I h => ?_⟩
  refine wpAny_Call_Name_kw (ld_glob I hg hm ?_ hdb)
  refine PySem.W.callWith_K (h₀ := X.base) I.ok.mod.kin M.kp (thn (ha.run pos pins s σ H _ I h) fun us s1 ⟨vs, H1, I1, r, q⟩ => ⟨I1.kIn, ?_⟩) he hpl
  exact run_makeS M F hr hb (hx σ) I1 r q
theorem pss_when {ss : List Stmt} {p : Prop} {ts : TS} (h : p → PSs X ss ts) : PSs X ss (fun D σ H => p ∧ ts D σ H) := ⟨fun pins s σ H D I q => (h q.1).run pins s σ H D I q.2⟩
end
theorem pss_weak {X : Cx} {ss : List Stmt} {t u : TS} (h : PSs X ss t) (f : ∀ D σ H, u D σ H → t D σ H) : PSs X ss u := ⟨fun pins s σ H D I q => h.run pins s σ H D I (f D σ H q)⟩
end MyR

set_option Elab.async false
set_option linter.all false
set_option maxRecDepth 100000
set_option maxHeartbeats 1000000
namespace My
open PySem L2 MyR
/-- what is told of rows -/
def DueAt (H : Hp) (v : V) : Option (Str × Int) → Prop
  | none => v = .non
  | some (w, i) => ∃ p, v = .ref p ∧ H p = some (.tup [.str w, .int i])
def spDue : Sp := fun vs H Q _ => ∃ (a d l : Addr) (us : List V) (rs : List Rv), vs = [.ref a] ∧ H a = some (.lst us) ∧ RvsAt d l H us rs ∧ RowsOk rs ∧ ∀ v H', Same H H' → DueAt H' v (due rs) → Q v H'
def spTold : Sp := fun vs H Q _ => ∃ (a d l : Addr) (us : List V) (rs : List Rv), vs = [.ref a] ∧ (H a = some (.lst us) ∨ H a = some (.tup us)) ∧ RvsAt d l H us rs ∧ RowsOk rs ∧ ∀ v H', Same H H' → DueAt H' v (due rs) → Q v H'
section
variable {P : Program} {w : World} {K : PySem.W.Frag} {mg : Str → Option Value} {base : Heap}
abbrev s_law_due : Stmt := top 36
abbrev N_law_due : List Str := ["_law_rows", "_law_at", "_law_row_here"]
theorem sc_law_due : FnScope N_law_due ["_law_rows"] (defScope s_law_due) := ⟨rfl, rfl, rfl, by decide +kernel, rfl, by decide +kernel, by decide +kernel⟩
theorem ok_law_due {f : Addr} {fd : FuncData} (F : Fun K "_law_due" "_law_due" s_law_due f fd) (T : Glob mg) (D_law_row_fits : Df P w K mg base 3 "_law_row_fits" ["_law_row_here"] spFits) : FnOk P w K mg base CX0 4 f fd ["_law_rows"] spDue := by
  refine F.ok sc_law_due (fun vs H Q E h => ?_) (fun cdv A outer s H vs Q E hr h => ?_)
  · obtain ⟨a, d, l, us, rs, rfl, _⟩ := h
    rfl
  · obtain ⟨a, d, l, us, rs, rfl, ha, hrs, hok, k⟩ := h
    have nd := sc_law_due.nd
    have hu := hu_of hr
    refine ⟨_, (pss_cons (ps_if (pt_cmpR op_gt (pe_callB call_len_seq (by rfl) T.g_len PySem.boot_len (pa_cons (pv 0) pa_nil)) pe_int (nomark _))
    (pss_one (ps_ret (pe_tup (pa_cons pe_str (pa_cons (pe_op op_sub pe_int pe_int) pa_nil)))))
    pss_nil)
    (pss_cons (ps_for PassesOwn.never rfl (pi_enum (by rfl) T.g_enumerate (pa_cons (pv 0) pa_nil)) (pg_tup (by rfl) (pgs_cons (pg_name (i := 1) nd rfl (Or.inl rfl)) (pgs_cons (pg_name (i := 2) nd rfl (Or.inl rfl)) pgs_nil)))
    (pss_cons (ps_if (pt_not (pt_val (pe_call D_law_row_fits.ok (hr.mono (by decide)) (by rfl) D_law_row_fits.g D_law_row_fits.kp D_law_row_fits.b .nil pass0 (pa_cons (pv 2) pa_nil))))
    (pss_one (ps_ret (pe_tup (pa_cons pe_str (pa_cons (pv 1) pa_nil)))))
    pss_nil)
    (pss_one (ps_if (PW.pt (pw_and (pt_cmpR op_eq (pe_ix ix_tup (pv 2) pe_int (fun _ _ => rfl)) pe_str (nomark _)) (pw_and1 (pt_cmpR op_gt (pe_op op_add (pv 1) (pe_ix ix_tup (pv 2) pe_int (fun _ _ => rfl))) (pe_op op_sub (pe_callB call_len_seq (by rfl) T.g_len PySem.boot_len (pa_cons (pv 0) pa_nil)) pe_int) (nomark _)))))
    (pss_one (ps_ret (pe_tup (pa_cons pe_str (pa_cons (pv 1) pa_nil)))))
    pss_nil))))
    (pss_one (ps_ret pe_non)))), ?_⟩
    have hrl : us.length = rs.length := hrs.len
    -- an answer
    have ans : ∀ (H1 : Hp) (w : Str) (i : Int), due rs = some (w, i) → Same H H1 → ∀ p, H1 p = none → Q (.ref p) (upd H1 p (.tup [.str w, .int i])) := fun H1 w i hd sm p hp => k _ _ (sm.trans (new_same hp)) (by rw [hd]; exact ⟨p, rfl, upd_same⟩)
    refine ⟨_, rfl, a, _, rfl, .inl (SqL.of ha), _, _, rfl, rfl, _, rfl, ?_⟩
    refine ite2 (fun h0 => ?_) (fun h0 => ?_)
    · have h0 := of_decide_eq_true h0
      have hd : due rs = some (("count" : Str), (-1 : Int)) := if_pos (by omega)
      exact ⟨_, _, rfl, rfl, (by show 2 ≤ sizeLine; decide), fun p hp => ans H _ _ hd (Same.refl H) p hp⟩
    have hl1000 : rs.length ≤ 1000 := by
      by_cases e : rs.length ≤ 1000
      · exact e
      · exact absurd (decide_eq_true (by omega)) h0
    have hdueG : due rs = dueG (rs.length : Int) 0 rs := if_neg (by omega)
    refine ⟨_, rfl, a, _, rfl, SqL.of ha, ?_⟩
    refine for_it walk_enum (fun i σ H2 => ∃ b c : Option V, σ = [some (.ref a), b, c] ∧ Same H H2 ∧ due rs = dueG (rs.length : Int) i (rs.drop i)) ⟨none, none, rfl, Same.refl _, hdueG⟩ (fun i σ H2 _ ⟨_, _, _, sm, _⟩ => SqL.of (sm _ _ ha)) ?_ ?_
    · rintro i x σ H2 H3 hi ⟨b, c, rfl, sm, hdue⟩ ⟨Tt, y, z, rfl, hT, rfl, hy, hz⟩
      have ey := Option.some.inj hy
      subst ey
      have hil : i < rs.length := by rw [← hrl]; exact hi
      have hdr : rs.drop i = rs[i] :: rs.drop (i + 1) := List.drop_eq_getElem_cons hil
      rw [hdr] at hdue
      obtain ⟨r, hr0, hat⟩ := hrs.getL (show us[i]? = some z from hz)
      have er : r = rs[i] := by
        rw [List.getElem?_eq_getElem hil] at hr0
        exact (Option.some.inj hr0).symm
      subst er
      have sm3 : Same H (upd H2 Tt (.tup [.int (i : Nat), z])) := sm.trans (new_same hT)
      refine ⟨Tt, _, rfl, SqT.of upd_same, rfl, _, _, rfl, _, _, rfl, rfl, ?_⟩
      refine ⟨_, rfl, d, l, z, rs[i], rfl, hat.same sm3, hok.2 _ (List.getElem_mem hil), fun H4 sm4 => ?_⟩
      have sm14 := sm3.trans sm4
      refine ⟨_, rfl, ?_⟩
      rw [← good_fits]
      cases hg : good rs[i] with
      | false =>
        refine iteT ?_
        have hd : due rs = some (("row" : Str), (i : Int)) := by
          rw [hdue]
          show (if good rs[i] = true then _ else _) = _
          rw [hg, if_neg Bool.false_ne_true]
        exact ⟨_, rfl, (by show 2 ≤ sizeLine; decide), fun p hp => ans H4 _ _ hd sm14 p hp⟩
      | true =>
      refine iteF ?_
      obtain ⟨q, pq, rfl, hq, eq, hskip⟩ := good_row (hat.same sm14) hg
      have next : over rs[i] ((rs.length : Int) - 1 - (i : Int)) = false → due rs = dueG (rs.length : Int) (i + 1) (rs.drop (i + 1)) := fun ho => by
        rw [hdue]
        show (if good rs[i] = true then (if over rs[i] _ = true then _ else _) else _) = _
        rw [hg, if_pos rfl, ho, if_neg Bool.false_ne_true]
      refine ⟨_, rfl, pq, _, _, .str q.w, rfl, rfl, SqT.of hq, atI_nat (j := 0) rfl, rfl, _, rfl, ?_⟩
      refine ite2 (fun hs => ?_) (fun hs => ?_)
      · have hs := V.str.inj (of_decide_eq_true hs)
        obtain ⟨a1, m, c1, n, ex, hn⟩ := hskip hs
        have evs : q.vs = [.str q.w, .int a1, .int m, .int c1, .int n] := by unfold Rw.vs; rw [ex]; rfl
        have sq4 : SqT K H4 pq q.vs := SqT.of hq
        rw [evs] at sq4
        have ho := over_row q ((rs.length : Int) - 1 - (i : Int)) a1 m c1 n hs ex
        rw [← eq] at ho
        refine ⟨_, rfl, _, rfl, pq, _, _, .int n, rfl, rfl, sq4, atI_nat (j := 4) rfl, _, _, rfl, rfl, ?_⟩
        refine ⟨_, rfl, a, _, rfl, .inl (SqL.of (sm14 _ _ ha)), _, _, rfl, rfl, _, _, rfl, rfl, _, rfl, ?_⟩
        refine ite2 (fun h0 => ?_) (fun h0 => ?_)
        · have h0 := of_decide_eq_true h0
          rw [hrl] at h0
          have hd : due rs = some (("skip" : Str), (i : Int)) := by
            rw [hdue]
            show (if good rs[i] = true then (if over rs[i] _ = true then _ else _) else _) = _
            rw [hg, if_pos rfl, ho, if_pos (decide_eq_true (by omega))]
          exact ⟨_, rfl, (by show 2 ≤ sizeLine; decide), fun p hp => ans H4 _ _ hd sm14 p hp⟩
        · refine ⟨_, _, rfl, sm14, next ?_⟩
          rw [ho]
          refine decide_eq_false fun z => h0 (decide_eq_true ?_)
          rw [hrl]
          omega
      · refine iteF ?_
        refine ⟨_, _, rfl, sm14, next ?_⟩
        rw [eq]
        exact over_not q _ (fun e => hs (decide_eq_true (by rw [e])))
    · rintro σ H2 ⟨b, c, rfl, sm, hdue⟩
      rw [hrl, List.drop_length] at hdue
      exact k _ _ sm (by rw [hdue]; rfl)
end
end My

set_option Elab.async false
set_option linter.all false
set_option maxRecDepth 100000
set_option maxHeartbeats 1000000
namespace My
open PySem L2 MyR
/-- a code with these rows -/
def CodeAt (C d l : Addr) (H : Hp) (us : List V) (rs : List Rv) (c : Addr) : Prop := ∃ (dx t : Addr), H c = some (.ins C dx [("rows", .ref t)]) ∧ H t = some (.tup us) ∧ RvsAt d l H us rs
/-- the class Code as its users know it -/
structure CodeX (P : Program) (w : World) (K : PySem.W.Frag) (mg : Str → Option Value) (base : Heap) (C cI : Addr) where
  f : Addr
  fd : FuncData
  m : Mk K C f
  ok : FnOk P w K mg base (L2.CX P w) 5 f fd ["self", "rows"] (spCode C cI)
  g : mg "Code" = some (.ref C)
  b : Binds K fd ["self", "rows"] []
  cl : Cls K C
  n_rows : NoAttr K C "rows"
/-- the error classes that the law knows -/
structure ErrL (K : PySem.W.Frag) (mg : Str → Option Value) (cI cL cN cT cM : Addr) : Prop where
  ec : ExcC K cI
  xf : XfC K cI
  n1 : PySem.W.findIn K (.ref cI) "word" = some none
  n2 : PySem.W.findIn K (.ref cI) "row" = some none
  gL : mg "LowError" = some (.ref cL)
  gN : mg "InvalidNode" = some (.ref cN)
  gT : mg "InvalidText" = some (.ref cT)
  gM : mg "Mismatch" = some (.ref cM)
  ex : PySem.W.exmOne K (.ref cI) (.ref cL) = some true
  no : PySem.W.kitAny K (.ref cI) ([cN, cT, cM].map Value.ref) = some false
def tsTold (cI : Addr) : Addr → Value → Option Addr → TS := fun a cls d D σ H => cls = .ref cI ∧ ∃ (dd : Addr) (w : Str) (i : Int), d = some dd ∧ σ[2]? = some (some (.ref a)) ∧ H dd = some (.xd [("row", .int i), ("word", .str w)]) ∧
  ∀ p H', Same H H' → H' p = some (.tup [.str w, .int i]) → D.rt (.ref p) H'
section
variable {P : Program} {w : World} {K : PySem.W.Frag} {mg : Str → Option Value} {base : Heap}
abbrev s_law_told : Stmt := top 37
abbrev N_law_told : List Str := ["_law_rows", "_law_found", "e"]
theorem sc_law_told : FnScope N_law_told ["_law_rows"] (defScope s_law_told) := ⟨rfl, rfl, rfl, by decide +kernel, rfl, by decide +kernel, by decide +kernel⟩
theorem ok_law_told {f : Addr} {fd : FuncData} (F : Fun K "_law_told" "_law_told" s_law_told f fd) (T : Glob mg) {C cI cL cN cT cM : Addr} (M : CodeX P w K mg base C cI) (gI : mg "InvalidCode" = some (.ref cI)) (EL : ErrL K mg cI cL cN cT cM) : FnOk P w K mg base CX0 7 f fd ["_law_rows"] spTold := by
  refine F.ok sc_law_told (fun vs H Q E h => ?_) (fun cdv A outer s H vs Q E hr h => ?_)
  · obtain ⟨a, d, l, us, rs, rfl, _⟩ := h
    rfl
  · obtain ⟨a, d, l, us, rs, rfl, ha, hrs, hok, k⟩ := h
    have nd := sc_law_told.nd
    have hu := hu_of hr
    have hkit : PySem.W.kitOne K (.ref cI) (.ref cI) = some true := by
      unfold PySem.W.kitOne
      rw [if_pos (beq_self_eq_true _)]
    refine ⟨_, (pss_cons (ps_set (i := 1) nd rfl (Or.inl rfl) pe_non)
    (pss_cons (ps_try_as (i := 2) (ts := tsTold cI) (Wout := fun _ _ _ _ => False) rfl rfl nd rfl rfl ⟨rfl, by decide, .inl EL.gL⟩ takes0
      (fun W pn xe tk _ => (pss_one (ps_set (i := 1) nd rfl (Or.inl rfl) (pe_makeS M.m M.ok (hr.mono (by decide)) (by rfl) M.g M.b (fun σ => passAt tk σ) (pa_cons (pv 0) pa_nil)))))
      (fun a oe cls d pn hz hf => ⟨fun pins s σ H D I q => by
        obtain ⟨rfl, dd, w, i, rfl, hσ, hd, k⟩ := q
        refine (pss_one (ps_if (PW.pt (pw_and (pt_val (pe_callB (call_isD EL.ec hz hf) (by rfl) T.g_isinstance (by decide +kernel) (pa_cons (pv 2) (pa_cons (pe_glob (v := .ref cI) (by rfl) gI (by rfl)) pa_nil)))) (pw_and1 (pt_not (pt_val (pe_callB (call_isD EL.ec hz hf) (by rfl) T.g_isinstance (by decide +kernel) (pa_cons (pv 2) (pa_cons (pe_tup (pa_cons (pe_glob (v := .ref cN) (by rfl) EL.gN (by rfl)) (pa_cons (pe_glob (v := .ref cT) (by rfl) EL.gT (by rfl)) (pa_cons (pe_glob (v := .ref cM) (by rfl) EL.gM (by rfl)) pa_nil)))) pa_nil))))))))
          (pss_one (ps_ret (pe_tup (pa_cons (pe_xf EL.xf EL.n1 hz hf (pv 2)) (pa_cons (pe_xf EL.xf EL.n2 hz hf (pv 2)) pa_nil)))))
          pss_nil)).run pins s σ H D I ?_
        refine ⟨_, hσ, _, true, hd, ?_, .inl ⟨cI, rfl, hkit⟩⟩
        refine ⟨_, rfl, ?_⟩
        refine ⟨_, hσ, (by show 3 ≤ sizeLine; decide), fun t ht => ?_⟩
        have sm := new_same (o := .tup [V.ref cN, V.ref cT, V.ref cM]) ht
        refine ⟨_, false, sm _ _ hd, ?_, .inr ⟨t, [cN, cT, cM], rfl, upd_same, EL.no⟩⟩
        refine ⟨_, rfl, ?_⟩
        refine ⟨_, hσ, rfl, rfl, dd, _, _, rfl, sm _ _ hd, rfl, _, hσ, rfl, rfl, dd, _, _, rfl, sm _ _ hd, rfl, (by show 2 ≤ sizeLine; decide), fun p hp => ?_⟩
        exact k p _ (sm.trans (new_same hp)) upd_same⟩))
    (pss_one (ps_ret (pe_ifExp (pt_cmpR op_notN (pv 1) pe_non (nomark _)) pe_non pe_str))))), ?_⟩
    refine ⟨_, rfl, fun x dx hx hdx hne => ?_⟩
    have made : ∀ {b : Addr} {o : HO}, H b = some o → (upd (upd H dx (.own x)) x (.ins C dx [])) b = some o := fun {b o} e => by rw [upd_ne (ne_of_none e hx), upd_ne (ne_of_none e hdx)]; exact e
    have msame : Same H (upd (upd H dx (.own x)) x (.ins C dx [])) := fun b o e => made e
    refine ⟨x, dx, a, d, l, us, rs, rfl, upd_same, ?_, hrs.mono fun _ _ => RvAt.same msame, hok, fun hd t H' ini ht => ⟨rfl, ?_⟩, fun w i hd y H' keep hy => ?_⟩
    · rcases ha with h | h
      · exact .inl (made h)
      · exact .inr (made h)
    · refine ⟨_, rfl, rfl, _, rfl, ?_⟩
      refine k _ H' (fun b o e => ini.2 b o (made e) (ne_of_none e hx)) ?_
      rw [hd]
      rfl
    · have sm : Same H H' := fun b o e => keep b o (made e) (ne_of_none e hx)
      refine ⟨true, EL.ex, fun _ e he => ?_, fun q => Bool.noConfusion q⟩
      refine ⟨rfl, y, w, i, rfl, rfl, hy, fun p H2 sm2 hp2 => ?_⟩
      refine k _ H2 (sm.trans sm2) ?_
      rw [hd]
      exact ⟨p, rfl, hp2⟩
end
end My

set_option Elab.async false
set_option linter.all false
set_option maxRecDepth 100000
set_option maxHeartbeats 1000000
namespace My
open PySem L2 MyR
/-- rows that a Code may have -/
def RsOk (rs : List Rw) : Prop := ∀ (i : Nat) r, rs[i]? = some r → r.ok ∧ r.fits ((rs.length : Int) - 1 - (i : Int))
theorem atI_in {xs : List V} {i : Int} (h0 : 0 ≤ i) (h1 : i < xs.length) : ∃ v, v ∈ xs ∧ atI xs i = some v := by
  obtain ⟨j, rfl⟩ : ∃ j : Nat, i = (j : Int) := ⟨i.toNat, by omega⟩
  have hj : j < xs.length := by omega
  exact ⟨xs[j], List.getElem_mem hj, atI_nat (List.getElem?_eq_getElem hj)⟩
theorem ix_draw {K : PySem.W.Frag} {H : Hp} {L : Addr} {xs : List V} {r : Int} {Q : VK} (h : H L = some (.lst xs)) (h0 : 0 ≤ r) (h1 : r < xs.length) (k : ∀ v ∈ xs, Q v H) : rIxL K (.ref L) (.int r) H Q := by
  obtain ⟨v, hv, e⟩ := atI_in h0 h1
  exact ⟨L, xs, r, v, rfl, rfl, SqL.of h, e, k v hv⟩
theorem pow_le {j : Nat} (h : j < 64) : (1 : Int) ≤ 2 ^ j ∧ (2 : Int) ^ j ≤ 9223372036854775808 := by
  have q : ∀ j < 64, (1 : Int) ≤ 2 ^ j ∧ (2 : Int) ^ j ≤ 9223372036854775808 := by decide +kernel
  exact q j h
theorem pow_mods {j : Nat} (h : j < 7) : (1 : Int) * 2 ^ j ∈ mods := by
  have q : ∀ j < 7, (1 : Int) * 2 ^ j ∈ mods := by decide +kernel
  exact q j h
/-! ### rows by their forms -/
theorem ok_of {w f : Str} {xs : List Int} {cs : List Nat} (hm : (w, f) ∈ forms) (hf : f.cps = cs.toArray) (hl : xs.length = cs.length) (hit : ∀ (i c : Nat) (z : Int), cs[i]? = some c → xs[i]? = some z → itOk c z) (ns : w = ("skip" : Str) → ∃ a m c n : Int, xs = [a, m, c, n] ∧ c < m) : Rw.ok ⟨w, xs⟩ :=
  ⟨⟨f, hm, by rw [hf]; simpa using hl, fun i c z hc hz => hit i c z (by rw [hf] at hc; simpa using hc) hz⟩, ns⟩
theorem ok2 {w f : Str} {a b : Int} {c0 c1 : Nat} (hm : (w, f) ∈ forms) (hf : f.cps = #[c0, c1]) (ns : w ≠ ("skip" : Str)) (h0 : itOk c0 a) (h1 : itOk c1 b) : Rw.ok ⟨w, [a, b]⟩ :=
  ok_of (cs := [c0, c1]) hm hf rfl (fun i c z hc hz => by
    match i, hc, hz with
    | 0, hc, hz => cases hc; cases hz; exact h0
    | 1, hc, hz => cases hc; cases hz; exact h1
    | i + 2, hc, hz => simp at hc) (fun e => absurd e ns)
theorem ok3 {w f : Str} {a b c : Int} {c0 c1 c2 : Nat} (hm : (w, f) ∈ forms) (hf : f.cps = #[c0, c1, c2]) (ns : w ≠ ("skip" : Str)) (h0 : itOk c0 a) (h1 : itOk c1 b) (h2 : itOk c2 c) : Rw.ok ⟨w, [a, b, c]⟩ :=
  ok_of (cs := [c0, c1, c2]) hm hf rfl (fun i c z hc hz => by
    match i, hc, hz with
    | 0, hc, hz => cases hc; cases hz; exact h0
    | 1, hc, hz => cases hc; cases hz; exact h1
    | 2, hc, hz => cases hc; cases hz; exact h2
    | i + 3, hc, hz => simp at hc) (fun e => absurd e ns)
theorem ok4 {a m c n : Int} (h0 : 0 ≤ a) (h0' : a ≤ 7) (h1 : m ∈ mods) (h2 : 0 ≤ c) (h2' : c < m) (h3 : 0 ≤ n) (h3' : n ≤ 1000) : Rw.ok ⟨"skip", [a, m, c, n]⟩ :=
  ok_of (f := "RMCN") (cs := [82, 77, 67, 78]) (by decide +kernel) (by decide +kernel) rfl (fun i cc z hc hz => by
    have hb := mods_bound m h1
    match i, hc, hz with
    | 0, hc, hz => cases hc; cases hz; unfold itOk; omega
    | 1, hc, hz => cases hc; cases hz; exact .inr (.inr (.inr (.inl ⟨rfl, h1⟩)))
    | 2, hc, hz => cases hc; cases hz; unfold itOk; omega
    | 3, hc, hz => cases hc; cases hz; unfold itOk; omega
    | i + 4, hc, hz => simp at hc) (fun _ => ⟨a, m, c, n, rfl, h2'⟩)
theorem itW {c : Nat} {z : Int} (h : c = 87 ∨ c = 82) (h0 : 0 ≤ z) (h1 : z ≤ 7) : itOk c z := .inr (.inl ⟨h, h0, h1⟩)
theorem itS {z : Int} (h0 : 0 ≤ z) (h1 : z ≤ 999) : itOk 83 z := .inr (.inr (.inl ⟨rfl, h0, h1⟩))
def spNum : Sp := fun vs H Q _ => ∃ (d l : Addr), vs = [.ref d] ∧ Deal H d l ∧
  ∀ (z : Int) (H' : Hp), -18446744073709551616 < z → z < 18446744073709551616 → Deal H' d l → Kept d l H H' → Q (.int z) H'
/-- a row that may stand at a place behind which `left` rows stand -/
def spRowL : Sp := fun vs H Q _ => ∃ (d l : Addr) (m left : Int), vs = [.ref d, .int m, .int left] ∧ Deal H d l ∧ 1 ≤ m ∧ m ≤ 8 ∧ 0 ≤ left ∧ left ≤ 900 ∧
  ∀ (q : Addr) (r : Rw) (H' : Hp), Deal H' d l → Kept d l H H' → RowAt H' r q → r.ok → r.fits left → Q (.ref q) H'
section
variable {P : Program} {w : World} {K : PySem.W.Frag} {mg : Str → Option Value} {base : Heap}
abbrev s_law_number : Stmt := top 29
abbrev N_law_number : List Str := ["_law_deal_here", "_law_form", "_law_number_here"]
theorem sc_law_number : FnScope N_law_number ["_law_deal_here"] (defScope s_law_number) := ⟨rfl, rfl, rfl, by decide +kernel, rfl, by decide +kernel, by decide +kernel⟩
theorem ok_law_number {f : Addr} {fd : FuncData} (F : Fun K "_law_number" "_law_number" s_law_number f fd) (T : Glob mg) (D_law_draw : Df P w K mg base 1 "_law_draw" ["_law_deal_here", "_law_many"] spDraw) :
    FnOk P w K mg base CX0 2 f fd ["_law_deal_here"] spNum := by
  refine F.ok sc_law_number (fun vs H Q E h => ?_) (fun cdv A outer s H vs Q E hr h => ?_)
  · obtain ⟨d, l, rfl, _⟩ := h
    rfl
  · obtain ⟨d, l, rfl, D, k⟩ := h
    have hu := hu_of hr
    have nd := sc_law_number.nd
    refine ⟨_, (pss_cons (ps_set (i := 1) nd rfl (Or.inl rfl) (pe_call D_law_draw.ok (hr.mono (by decide)) (by rfl) D_law_draw.g D_law_draw.kp D_law_draw.b .nil pass0 (pa_cons (pv 0) (pa_cons pe_int pa_nil))))
    (pss_cons (ps_set (i := 2) nd rfl (Or.inl rfl) (pe_call D_law_draw.ok (hr.mono (by decide)) (by rfl) D_law_draw.g D_law_draw.kp D_law_draw.b .nil pass0 (pa_cons (pv 0) (pa_cons pe_int pa_nil))))
    (pss_cons (ps_if (pt_cmpR op_eq (pv 1) pe_int (nomark _))
    (pss_one (ps_set (i := 2) nd rfl (Or.inl rfl) (pe_op op_sub (pe_op op_shl pe_int (pe_call D_law_draw.ok (hr.mono (by decide)) (by rfl) D_law_draw.g D_law_draw.kp D_law_draw.b .nil pass0 (pa_cons (pv 0) (pa_cons pe_int pa_nil)))) (pe_call D_law_draw.ok (hr.mono (by decide)) (by rfl) D_law_draw.g D_law_draw.kp D_law_draw.b .nil pass0 (pa_cons (pv 0) (pa_cons pe_int pa_nil))))))
    pss_nil)
    (pss_cons (ps_if (pt_cmpR op_eq (pv 1) pe_int (nomark _))
    (pss_one (ps_set (i := 2) nd rfl (Or.inl rfl) (pe_call D_law_draw.ok (hr.mono (by decide)) (by rfl) D_law_draw.g D_law_draw.kp D_law_draw.b .nil pass0 (pa_cons (pv 0) (pa_cons (pe_op op_shl pe_int pe_int) pa_nil)))))
    pss_nil)
    (pss_one (ps_ret (pe_ix ix_list (pe_lst (pa_cons (pv 2) (pa_cons (pe_op op_sub pe_int (pv 2)) pa_nil))) (pe_call D_law_draw.ok (hr.mono (by decide)) (by rfl) D_law_draw.g D_law_draw.kp D_law_draw.b .nil pass0 (pa_cons (pv 0) (pa_cons pe_int pa_nil))) (fun _ _ => rfl)))))))), ?_⟩
    refine ⟨_, rfl, d, l, _, rfl, D, by decide, by decide, fun fo H1 fo0 fo1 D1 kp1 => ?_⟩
    refine ⟨_, rfl, d, l, _, rfl, D1, by decide, by decide, fun a H2 a0 a1 D2 kp2 => ?_⟩
    dsimp only
    refine seq_by (fun σ H3 => ∃ z : Int, σ = [some (.ref d), some (.int fo), some (.int z)] ∧ 0 ≤ z ∧ z < 18446744073709551616 ∧ Deal H3 d l ∧ Kept d l H H3) (fun D' hD' => ?_) ?_
    · refine ⟨_, rfl, rfl, _, rfl, ?_⟩
      refine ite2 (fun _ => ?_) (fun _ => hD' _ _ ⟨a, rfl, a0, by omega, D2, kp1.trans kp2⟩)
      refine ⟨_, rfl, d, l, _, rfl, D2, by decide, by decide, fun b H3 b0 b1 D3 kp3 => ?_⟩
      refine ⟨_, _, rfl, rfl, ⟨by omega, by omega, by decide⟩, ?_⟩
      refine ⟨_, rfl, d, l, _, rfl, D3, by decide, by decide, fun e H4 e0 e1 D4 kp4 => ?_⟩
      have hb := pow_le (j := b.toNat) (by omega)
      exact ⟨_, _, rfl, rfl, hD' _ _ ⟨_, rfl, by omega, by omega, D4, ((kp1.trans kp2).trans kp3).trans kp4⟩⟩
    rintro σ H3 ⟨z, rfl, z0, z1, D3, kp3⟩
    refine seq_by (fun σ H4 => ∃ z : Int, σ = [some (.ref d), some (.int fo), some (.int z)] ∧ 0 ≤ z ∧ z < 18446744073709551616 ∧ Deal H4 d l ∧ Kept d l H H4) (fun D' hD' => ?_) ?_
    · refine ⟨_, rfl, rfl, _, rfl, ?_⟩
      refine ite2 (fun _ => ?_) (fun _ => hD' _ _ ⟨z, rfl, z0, z1, D3, kp3⟩)
      refine ⟨_, rfl, _, _, rfl, rfl, ⟨by decide, by decide, by decide⟩, d, l, _, rfl, D3, by decide, by decide, fun b H4 b0 b1 D4 kp4 => ?_⟩
      have e64 : (1 : Int) * 2 ^ (64 : Int).toNat = 18446744073709551616 := by decide +kernel
      rw [e64] at b1
      exact hD' _ _ ⟨b, rfl, b0, b1, D4, kp3.trans kp4⟩
    rintro σ H4 ⟨y, rfl, y0, y1, D4, kp4⟩
    refine ⟨_, rfl, _, rfl, _, _, rfl, rfl, (by show 2 ≤ sizeLine; decide), fun t ht => ?_⟩
    obtain ⟨ntd, ntl⟩ := D4.free ht
    have D5 := D4.new (o := .lst [V.int y, V.int (0 - y)]) ht
    refine ⟨_, rfl, d, l, _, rfl, D5, by decide, by decide, fun j H6 j0 j1 D6 kp6 => ?_⟩
    have h6 : H6 t = some (.lst [V.int y, V.int (0 - y)]) := kp6 _ _ upd_same ntd ntl
    have kp : Kept d l H H6 := (kp4.new (kp4.free D4 ht)).trans kp6
    refine ix_draw h6 j0 j1 (fun v hv => ?_)
    have hv' : v = V.int y ∨ v = V.int (0 - y) := by simpa using hv
    rcases hv' with rfl | rfl
    · exact k y H6 (by omega) (by omega) D6 kp
    · exact k (0 - y) H6 (by omega) (by omega) D6 kp
abbrev s_law_row : Stmt := top 30
abbrev N_law_row : List Str := ["_law_deal_here", "_law_registers", "_law_left", "_law_words", "_law_word", "_law_r", "_law_a", "_law_b", "_law_turn", "_law_modulus"]
theorem sc_law_row : FnScope N_law_row ["_law_deal_here", "_law_registers", "_law_left"] (defScope s_law_row) := ⟨rfl, rfl, rfl, by decide +kernel, rfl, by decide +kernel, by decide +kernel⟩
def wordsL : List Str := ["set", "copy", "add", "sub", "mul", "add", "mul", "left", "right", "right", "load", "store", "skip"]
theorem word_cases : ∀ z ∈ wordsL, z = ("set" : Str) ∨ (z = ("copy" : Str) ∨ z = ("left" : Str) ∨ z = ("right" : Str)) ∨ z = ("load" : Str) ∨ z = ("store" : Str) ∨ z = ("skip" : Str) ∨ (z = ("add" : Str) ∨ z = ("sub" : Str) ∨ z = ("mul" : Str)) := by decide +kernel
def two : List Str := ["copy", "left", "right"]
theorem inV_strs (z : Str) (zs : List Str) : inV (.str z) (zs.map V.str) = true ↔ z ∈ zs := by
  unfold inV
  rw [List.any_map, List.any_eq_true]
  constructor
  · rintro ⟨y, hy, e⟩
    have e' : (y == z) = true := e
    rw [← beq_iff_eq.mp e']
    exact hy
  · intro h
    exact ⟨z, h, by show (z == z) = true; exact beq_self_eq_true z⟩
theorem ok_law_row {f : Addr} {fd : FuncData} (F : Fun K "_law_row" "_law_row" s_law_row f fd) (T : Glob mg) (D_law_draw : Df P w K mg base 1 "_law_draw" ["_law_deal_here", "_law_many"] spDraw) (D_law_number : Df P w K mg base 2 "_law_number" ["_law_deal_here"] spNum) :
    FnOk P w K mg base CX0 3 f fd ["_law_deal_here", "_law_registers", "_law_left"] spRowL := by
  refine F.ok sc_law_row (fun vs H Q E h => ?_) (fun cdv A outer s H vs Q E hr h => ?_)
  · obtain ⟨d, l, m, left, rfl, _⟩ := h
    rfl
  · obtain ⟨d, l, m, left, rfl, D, m1, m8, l0, l9, k⟩ := h
    have hu := hu_of hr
    have nd := sc_law_row.nd
    refine ⟨_, (pss_cons (ps_set (i := 3) nd rfl (Or.inl rfl) (pe_tup (pa_cons pe_str (pa_cons pe_str (pa_cons pe_str (pa_cons pe_str (pa_cons pe_str (pa_cons pe_str (pa_cons pe_str (pa_cons pe_str (pa_cons pe_str (pa_cons pe_str (pa_cons pe_str (pa_cons pe_str (pa_cons pe_str pa_nil)))))))))))))))
    (pss_cons (ps_set (i := 4) nd rfl (Or.inl rfl) (pe_ix ix_tup (pv 3) (pe_call D_law_draw.ok (hr.mono (by decide)) (by rfl) D_law_draw.g D_law_draw.kp D_law_draw.b .nil pass0 (pa_cons (pv 0) (pa_cons pe_int pa_nil))) (fun _ _ => rfl)))
    (pss_cons (ps_asg (pe_lc (own := [("_law_turn", 8)]) (g := gName 8) (tt := tYes) rfl nd (pi_range1 (by rfl) T.g_range (pa_cons pe_int pa_nil)) (blkOk_by (N := N_law_row) (sc := defScope s_law_row) (by decide +kernel)) (fun _ _ _ _ _ => pg_name (i := 8) nd rfl (Or.inl rfl)) (fun _ _ _ _ _ => pts_nil) (fun _ _ _ _ _ => (pe_call D_law_draw.ok (hr.mono (by decide)) (by rfl) D_law_draw.g D_law_draw.kp D_law_draw.b .nil pass0 (pa_cons (pv 0) (pa_cons (pv 1) pa_nil))))) (pg_unl (by rfl) (pgs_cons (pg_name (i := 5) nd rfl (Or.inl rfl)) (pgs_cons (pg_name (i := 6) nd rfl (Or.inl rfl)) (pgs_cons (pg_name (i := 7) nd rfl (Or.inl rfl)) pgs_nil)))))
    (pss_cons (ps_if (pt_cmpR op_eq (pv 4) pe_str (nomark _))
    (pss_one (ps_ret (pe_tup (pa_cons (pv 4) (pa_cons (pv 5) (pa_cons (pe_call D_law_number.ok (hr.mono (by decide)) (by rfl) D_law_number.g D_law_number.kp D_law_number.b .nil pass0 (pa_cons (pv 0) pa_nil)) pa_nil))))))
    pss_nil)
    (pss_cons (ps_if (pt_cmpR op_in_seq (pv 4) (pe_tup (pa_cons pe_str (pa_cons pe_str (pa_cons pe_str pa_nil)))) (by rfl))
    (pss_one (ps_ret (pe_tup (pa_cons (pv 4) (pa_cons (pv 5) (pa_cons (pv 6) pa_nil))))))
    pss_nil)
    (pss_cons (ps_if (pt_cmpR op_eq (pv 4) pe_str (nomark _))
    (pss_one (ps_ret (pe_tup (pa_cons (pv 4) (pa_cons (pv 5) (pa_cons (pe_ix ix_list (pe_lst (pa_cons pe_int (pa_cons pe_int (pa_cons pe_int pa_nil)))) (pe_call D_law_draw.ok (hr.mono (by decide)) (by rfl) D_law_draw.g D_law_draw.kp D_law_draw.b .nil pass0 (pa_cons (pv 0) (pa_cons pe_int pa_nil))) (fun _ _ => rfl)) pa_nil))))))
    pss_nil)
    (pss_cons (ps_if (pt_cmpR op_eq (pv 4) pe_str (nomark _))
    (pss_one (ps_ret (pe_tup (pa_cons (pv 4) (pa_cons (pe_ix ix_list (pe_lst (pa_cons pe_int (pa_cons pe_int (pa_cons pe_int pa_nil)))) (pe_call D_law_draw.ok (hr.mono (by decide)) (by rfl) D_law_draw.g D_law_draw.kp D_law_draw.b .nil pass0 (pa_cons (pv 0) (pa_cons pe_int pa_nil))) (fun _ _ => rfl)) (pa_cons (pv 6) pa_nil))))))
    pss_nil)
    (pss_cons (ps_if (pt_cmpR op_eq (pv 4) pe_str (nomark _))
    (pss_cons (ps_set (i := 9) nd rfl (Or.inl rfl) (pe_op op_shl pe_int (pe_call D_law_draw.ok (hr.mono (by decide)) (by rfl) D_law_draw.g D_law_draw.kp D_law_draw.b .nil pass0 (pa_cons (pv 0) (pa_cons pe_int pa_nil)))))
    (pss_one (ps_ret (pe_tup (pa_cons (pv 4) (pa_cons (pv 6) (pa_cons (pv 9) (pa_cons (pe_call D_law_draw.ok (hr.mono (by decide)) (by rfl) D_law_draw.g D_law_draw.kp D_law_draw.b .nil pass0 (pa_cons (pv 0) (pa_cons (pv 9) pa_nil))) (pa_cons (pe_call D_law_draw.ok (hr.mono (by decide)) (by rfl) D_law_draw.g D_law_draw.kp D_law_draw.b .nil pass0 (pa_cons (pv 0) (pa_cons (pe_op op_add (pv 2) pe_int) pa_nil))) pa_nil)))))))))
    pss_nil)
    (pss_one (ps_ret (pe_tup (pa_cons (pv 4) (pa_cons (pv 5) (pa_cons (pv 6) (pa_cons (pv 7) pa_nil))))))))))))))), ?_⟩
    refine ⟨(by show 13 ≤ sizeLine; decide), fun t ht => ?_⟩
    obtain ⟨ntd, ntl⟩ := D.free ht
    have D1 := D.new (o := .tup (wordsL.map V.str)) ht
    refine ⟨_, rfl, _, rfl, d, l, _, rfl, D1, by decide, by decide, fun wi H1 w0 w1 D2 kp2 => ?_⟩
    have ht1 : H1 t = some (.tup (wordsL.map V.str)) := kp2 _ _ upd_same ntd ntl
    have kpA : Kept d l H H1 := (Kept.refl.new ht).trans kp2
    obtain ⟨v, hv, hat⟩ := atI_in (xs := wordsL.map V.str) w0 (by show wi < (13 : Int); exact w1)
    obtain ⟨z, hz, rfl⟩ := List.mem_map.mp hv
    have hz := word_cases z hz
    refine ⟨t, _, _, _, rfl, rfl, SqT.of ht1, hat, ?_⟩
    -- three registers
    refine ⟨3, rfl, by decide, by decide, fun L hL => ?_⟩
    obtain ⟨nLd, nLl⟩ := D2.free hL
    refine lc_range (lo := 0) (n := 3) (fun i H2 => ∃ rs : List Int, H2 L = some (.lst (rs.map V.int)) ∧ rs.length = i ∧ (∀ r ∈ rs, 0 ≤ r ∧ r ≤ 7) ∧ Deal H2 d l ∧ Kept d l H H2) ⟨[], upd_same, rfl, fun r h => (nomatch h), D2.new hL, kpA.new (kpA.free D2 hL)⟩ ?_ ?_
    · rintro i H2 hi ⟨rs, h2, hl2, hrs, D3, kp3⟩
      refine ⟨rfl, ?_⟩
      refine ⟨_, rfl, _, rfl, d, l, _, rfl, D3, by omega, by omega, fun x H3 x0 x1 D4 kp4 => ?_⟩
      refine ⟨rs.map V.int, kp4 _ _ h2 nLd nLl, by rw [List.length_map]; exact small1000 (by omega), rs ++ [x], ?_, by rw [List.length_append, hl2]; rfl, fun r hr => ?_, D4.other nLd nLl, (kp3.trans kp4).new (kpA.free D2 hL)⟩
      · rw [upd_same, List.map_append]
        rfl
      · rcases List.mem_append.mp hr with h | h
        · exact hrs r h
        · rw [List.mem_singleton.mp h]
          omega
    rintro H2 ⟨rs, h2, hl2, hrs, D3, kp3⟩
    obtain ⟨x, a, b, rfl⟩ : ∃ x a b, rs = [x, a, b] := by
      match rs, hl2 with
      | [x, a, b], _ => exact ⟨x, a, b, rfl⟩
    have hx := hrs x (by simp)
    have ha := hrs a (by simp)
    have hb := hrs b (by simp)
    refine ⟨L, _, rfl, SqL.of h2, rfl, _, _, rfl, _, _, rfl, _, _, rfl, rfl, ?_⟩
    -- a new row
    have fin : ∀ (H3 : Hp) (r : Rw), Deal H3 d l → Kept d l H H3 → r.ok → r.fits left → ∀ q, H3 q = none → Q (.ref q) (upd H3 q (.tup r.vs)) := fun H3 r D4 kp4 ok hf q hq => k q r _ (D4.new hq) (kp4.new (kp4.free D4 hq)) upd_same ok hf
    have nofit : ∀ {w : Str} {xs : List Int}, w ≠ ("skip" : Str) → Rw.fits ⟨w, xs⟩ left := fun h e => absurd e h
    refine ⟨_, rfl, rfl, _, rfl, ?_⟩
    refine ite2 (fun h => ?_) (fun n1 => ?_)
    · obtain rfl := V.str.inj (of_decide_eq_true h)
      refine ⟨_, rfl, _, rfl, _, rfl, d, l, rfl, D3, fun n H3 n0 n1 D4 kp4 => ?_⟩
      refine ⟨(by show 3 ≤ sizeLine; decide), fin H3 ⟨"set", [x, n]⟩ D4 (kp3.trans kp4) (ok2 (f := "WI") (c0 := 87) (c1 := 73) (by decide +kernel) (by decide +kernel) (by decide +kernel) (itW (.inl rfl) hx.1 hx.2) (.inl ⟨rfl, n0, n1⟩)) (nofit (by decide +kernel))⟩
    have n1 : ¬ z = ("set" : Str) := fun e => n1 (decide_eq_true (by rw [e]))
    refine ⟨_, rfl, (by show 3 ≤ sizeLine; decide), fun u hu0 => ?_⟩
    have D4 := D3.new (o := .tup (two.map V.str)) hu0
    have kp4 : Kept d l H (upd H2 u (.tup (two.map V.str))) := kp3.new (kp3.free D3 hu0)
    refine ⟨u, _, rfl, .inr (SqT.of upd_same), rfl, by rfl, _, rfl, ?_⟩
    refine ite2 (fun h => ?_) (fun n2 => ?_)
    · have h := (inV_strs z two).mp h
      have h : z = ("copy" : Str) ∨ z = ("left" : Str) ∨ z = ("right" : Str) := by simpa [two] using h
      refine ⟨_, rfl, _, rfl, _, rfl, (by show 3 ≤ sizeLine; decide), ?_⟩
      have go : ∀ w : Str, (w, ("WR" : Str)) ∈ forms → w ≠ ("skip" : Str) → ∀ q, upd H2 u (.tup (two.map V.str)) q = none → Q (.ref q) (upd (upd H2 u (.tup (two.map V.str))) q (.tup (Rw.vs ⟨w, [x, a]⟩))) := fun w hm ns =>
        fin _ ⟨w, [x, a]⟩ D4 kp4 (ok2 (f := "WR") (c0 := 87) (c1 := 82) hm (by decide +kernel) ns (itW (.inl rfl) hx.1 hx.2) (itW (.inr rfl) ha.1 ha.2)) (nofit ns)
      rcases h with rfl | rfl | rfl
      · exact go "copy" (by decide +kernel) (by decide +kernel)
      · exact go "left" (by decide +kernel) (by decide +kernel)
      · exact go "right" (by decide +kernel) (by decide +kernel)
    have n2 : ¬ (z = ("copy" : Str) ∨ z = ("left" : Str) ∨ z = ("right" : Str)) := fun e => n2 ((inV_strs z two).mpr (by simpa [two] using e))
    refine ⟨_, rfl, rfl, _, rfl, ?_⟩
    refine ite2 (fun h => ?_) (fun n3 => ?_)
    · obtain rfl := V.str.inj (of_decide_eq_true h)
      refine ⟨_, rfl, _, rfl, (by show 3 ≤ sizeLine; decide), fun t2 ht2 => ?_⟩
      obtain ⟨nad, nal⟩ := D4.free ht2
      have D5 := D4.new (o := .lst ([0, 7, 999].map V.int)) ht2
      have kp5 := kp4.new (o := .lst ([0, 7, 999].map V.int)) (kp4.free D4 ht2)
      refine ⟨_, rfl, d, l, _, rfl, D5, by decide, by decide, fun j H6 j0 j1 D6 kp6 => ?_⟩
      refine ix_draw (xs := [0, 7, 999].map V.int) (kp6 _ _ upd_same nad nal) j0 j1 (fun v hv => ?_)
      obtain ⟨s0, hs0, rfl⟩ := List.mem_map.mp hv
      have hs : 0 ≤ s0 ∧ s0 ≤ 999 := by
        have q : ∀ s ∈ ([0, 7, 999] : List Int), 0 ≤ s ∧ s ≤ 999 := by decide
        exact q s0 hs0
      exact ⟨(by show 3 ≤ sizeLine; decide), fin H6 ⟨"load", [x, s0]⟩ D6 (kp5.trans kp6) (ok2 (f := "WS") (c0 := 87) (c1 := 83) (by decide +kernel) (by decide +kernel) (by decide +kernel) (itW (.inl rfl) hx.1 hx.2) (itS hs.1 hs.2)) (nofit (by decide +kernel))⟩
    have n3 : ¬ z = ("load" : Str) := fun e => n3 (decide_eq_true (by rw [e]))
    refine ⟨_, rfl, rfl, _, rfl, ?_⟩
    refine ite2 (fun h => ?_) (fun n4 => ?_)
    · obtain rfl := V.str.inj (of_decide_eq_true h)
      refine ⟨_, rfl, (by show 3 ≤ sizeLine; decide), fun t2 ht2 => ?_⟩
      obtain ⟨nad, nal⟩ := D4.free ht2
      have D5 := D4.new (o := .lst ([0, 7, 999].map V.int)) ht2
      have kp5 := kp4.new (o := .lst ([0, 7, 999].map V.int)) (kp4.free D4 ht2)
      refine ⟨_, rfl, d, l, _, rfl, D5, by decide, by decide, fun j H6 j0 j1 D6 kp6 => ?_⟩
      refine ix_draw (xs := [0, 7, 999].map V.int) (kp6 _ _ upd_same nad nal) j0 j1 (fun v hv => ?_)
      obtain ⟨s0, hs0, rfl⟩ := List.mem_map.mp hv
      have hs : 0 ≤ s0 ∧ s0 ≤ 999 := by
        have q : ∀ s ∈ ([0, 7, 999] : List Int), 0 ≤ s ∧ s ≤ 999 := by decide
        exact q s0 hs0
      exact ⟨_, rfl, (by show 3 ≤ sizeLine; decide), fin H6 ⟨"store", [s0, a]⟩ D6 (kp5.trans kp6) (ok2 (f := "SR") (c0 := 83) (c1 := 82) (by decide +kernel) (by decide +kernel) (by decide +kernel) (itS hs.1 hs.2) (itW (.inr rfl) ha.1 ha.2)) (nofit (by decide +kernel))⟩
    have n4 : ¬ z = ("store" : Str) := fun e => n4 (decide_eq_true (by rw [e]))
    refine ⟨_, rfl, rfl, _, rfl, ?_⟩
    refine ite2 (fun h => ?_) (fun n5 => ?_)
    · obtain rfl := V.str.inj (of_decide_eq_true h)
      refine ⟨_, rfl, d, l, _, rfl, D4, by decide, by decide, fun j H5 j0 j1 D5 kp5 => ?_⟩
      refine ⟨_, _, rfl, rfl, ⟨by omega, by omega, by decide⟩, ?_⟩
      have hm := pow_mods (j := j.toNat) (by omega)
      have hmb := mods_bound _ hm
      refine ⟨_, rfl, _, rfl, _, rfl, _, rfl, _, rfl, d, l, _, rfl, D5, by omega, by omega, fun c H6 c0 c1 D6 kp6 => ?_⟩
      refine ⟨_, rfl, _, rfl, _, _, rfl, rfl, d, l, _, rfl, D6, by omega, by omega, fun n H7 n0 n1 D7 kp7 => ?_⟩
      exact ⟨(by show 5 ≤ sizeLine; decide), fin H7 ⟨"skip", [a, 1 * 2 ^ j.toNat, c, n]⟩ D7 (((kp4.trans kp5).trans kp6).trans kp7) (ok4 ha.1 ha.2 hm c0 c1 n0 (by omega)) (fun _ => ⟨_, _, _, n, rfl, by omega⟩)⟩
    have n5 : ¬ z = ("skip" : Str) := fun e => n5 (decide_eq_true (by rw [e]))
    refine ⟨_, rfl, _, rfl, _, rfl, _, rfl, (by show 4 ≤ sizeLine; decide), ?_⟩
    have go : ∀ w : Str, (w, ("WRR" : Str)) ∈ forms → w ≠ ("skip" : Str) → ∀ q, upd H2 u (.tup (two.map V.str)) q = none → Q (.ref q) (upd (upd H2 u (.tup (two.map V.str))) q (.tup (Rw.vs ⟨w, [x, a, b]⟩))) := fun w hm ns =>
      fin _ ⟨w, [x, a, b]⟩ D4 kp4 (ok3 (f := "WRR") (c0 := 87) (c1 := 82) (c2 := 82) hm (by decide +kernel) ns (itW (.inl rfl) hx.1 hx.2) (itW (.inr rfl) ha.1 ha.2) (itW (.inr rfl) hb.1 hb.2)) (nofit ns)
    rcases hz with h | h | h | h | h | h | h | h
    · exact absurd h n1
    · exact absurd h n2
    · exact absurd h n3
    · exact absurd h n4
    · exact absurd h n5
    · subst h; exact go "add" (by decide +kernel) (by decide +kernel)
    · subst h; exact go "sub" (by decide +kernel) (by decide +kernel)
    · subst h; exact go "mul" (by decide +kernel) (by decide +kernel)
end
end My

set_option Elab.async false
set_option linter.all false
set_option maxRecDepth 100000
set_option maxHeartbeats 1000000
namespace My
open PySem L2 MyR
theorem form_of : ∀ p ∈ forms, (p.1 = ("load" : Str) → p.2.cps = #[87, 83]) ∧ (p.1 = ("store" : Str) → p.2.cps = #[83, 82]) ∧ (p.1 = ("skip" : Str) → p.2.cps = #[82, 77, 67, 78]) := by decide +kernel
theorem load_xs {r : Rw} (h : r.ok) (hw : r.w = ("load" : Str)) : ∃ a s, r.xs = [a, s] ∧ itOk 87 a := by
  obtain ⟨⟨f, hf, hl, hit⟩, _⟩ := h
  have hc := (form_of _ hf).1 hw
  have e : f.cps = #[87, 83] := hc
  rw [e] at hl hit
  match hx : r.xs, hl with
  | [a, s], _ => exact ⟨a, s, rfl, hit 0 87 a rfl (by rw [hx]; rfl)⟩
theorem store_xs {r : Rw} (h : r.ok) (hw : r.w = ("store" : Str)) : ∃ s a, r.xs = [s, a] ∧ itOk 82 a := by
  obtain ⟨⟨f, hf, hl, hit⟩, _⟩ := h
  have e : f.cps = #[83, 82] := (form_of _ hf).2.1 hw
  rw [e] at hl hit
  match hx : r.xs, hl with
  | [s, a], _ => exact ⟨s, a, rfl, hit 1 82 a rfl (by rw [hx]; rfl)⟩
theorem skip_xs {r : Rw} (h : r.ok) (hw : r.w = ("skip" : Str)) : ∃ a m c n, r.xs = [a, m, c, n] ∧ itOk 82 a ∧ itOk 78 n := by
  obtain ⟨⟨f, hf, hl, hit⟩, _⟩ := h
  have e : f.cps = #[82, 77, 67, 78] := (form_of _ hf).2.2 hw
  rw [e] at hl hit
  match hx : r.xs, hl with
  | [a, m, c, n], _ => exact ⟨a, m, c, n, rfl, hit 0 82 a rfl (by rw [hx]; rfl), hit 3 78 n rfl (by rw [hx]; rfl)⟩
/-- drawn rows, a new list -/
def spRows : Sp := fun vs H Q _ => ∃ (d l : Addr) (n : Nat), vs = [.ref d, .int 8, .int (n : Int)] ∧ Deal H d l ∧ n ≤ 900 ∧
  ∀ (q : Addr) (rs : List Rw) (H' : Hp), H q = none → Deal H' d l → Kept d l H H' → LstAt H' rs q → RsOk rs → rs.length = n → Q (.ref q) H'
section
variable {P : Program} {w : World} {K : PySem.W.Frag} {mg : Str → Option Value} {base : Heap}
abbrev s_law_far_row : Stmt := top 31
abbrev N_law_far_row : List Str := ["_law_deal_here", "_law_registers", "_law_left", "_law_row_here", "_law_modulus"]
theorem sc_law_far_row : FnScope N_law_far_row ["_law_deal_here", "_law_registers", "_law_left"] (defScope s_law_far_row) := ⟨rfl, rfl, rfl, by decide +kernel, rfl, by decide +kernel, by decide +kernel⟩
theorem ok_law_far_row {f : Addr} {fd : FuncData} (F : Fun K "_law_far_row" "_law_far_row" s_law_far_row f fd) (T : Glob mg) (D_law_draw : Df P w K mg base 1 "_law_draw" ["_law_deal_here", "_law_many"] spDraw)
    (D_law_row : Df P w K mg base 3 "_law_row" ["_law_deal_here", "_law_registers", "_law_left"] spRowL) : FnOk P w K mg base CX0 4 f fd ["_law_deal_here", "_law_registers", "_law_left"] spRowL := by
  refine F.ok sc_law_far_row (fun vs H Q E h => ?_) (fun cdv A outer s H vs Q E hr h => ?_)
  · obtain ⟨d, l, m, left, rfl, _⟩ := h
    rfl
  · obtain ⟨d, l, m, left, rfl, D, m1, m8, l0, l9, k⟩ := h
    have hu := hu_of hr
    have nd := sc_law_far_row.nd
    refine ⟨_, (pss_cons (ps_set (i := 3) nd rfl (Or.inl rfl) (pe_call D_law_row.ok (hr.mono (by decide)) (by rfl) D_law_row.g D_law_row.kp D_law_row.b .nil pass0 (pa_cons (pv 0) (pa_cons (pv 1) (pa_cons (pv 2) pa_nil)))))
    (pss_cons (ps_if (pt_cmpR op_eq (pe_ix ix_tup (pv 3) pe_int (fun _ _ => rfl)) pe_str (nomark _))
    (pss_one (ps_ret (pe_op op_catT (pe_slice sl_tup (pv 3) po_none (po_some pe_int)) (pe_tup (pa_cons (pe_call D_law_draw.ok (hr.mono (by decide)) (by rfl) D_law_draw.g D_law_draw.kp D_law_draw.b .nil pass0 (pa_cons (pv 0) (pa_cons pe_int pa_nil))) pa_nil)))))
    pss_nil)
    (pss_cons (ps_if (pt_cmpR op_eq (pe_ix ix_tup (pv 3) pe_int (fun _ _ => rfl)) pe_str (nomark _))
    (pss_one (ps_ret (pe_tup (pa_cons (pe_ix ix_tup (pv 3) pe_int (fun _ _ => rfl)) (pa_cons (pe_call D_law_draw.ok (hr.mono (by decide)) (by rfl) D_law_draw.g D_law_draw.kp D_law_draw.b .nil pass0 (pa_cons (pv 0) (pa_cons pe_int pa_nil))) (pa_cons (pe_ix ix_tup (pv 3) pe_int (fun _ _ => rfl)) pa_nil))))))
    pss_nil)
    (pss_cons (ps_if (pt_cmpR op_eq (pe_ix ix_tup (pv 3) pe_int (fun _ _ => rfl)) pe_str (nomark _))
    (pss_cons (ps_set (i := 4) nd rfl (Or.inl rfl) (pe_op op_shl pe_int (pe_call D_law_draw.ok (hr.mono (by decide)) (by rfl) D_law_draw.g D_law_draw.kp D_law_draw.b .nil pass0 (pa_cons (pv 0) (pa_cons pe_int pa_nil)))))
    (pss_one (ps_ret (pe_op op_catT (pe_slice sl_tup (pv 3) po_none (po_some pe_int)) (pe_tup (pa_cons (pv 4) (pa_cons (pe_call D_law_draw.ok (hr.mono (by decide)) (by rfl) D_law_draw.g D_law_draw.kp D_law_draw.b .nil pass0 (pa_cons (pv 0) (pa_cons (pv 4) pa_nil))) (pa_cons (pe_ix ix_tup (pv 3) pe_int (fun _ _ => rfl)) pa_nil))))))))
    pss_nil)
    (pss_one (ps_ret (pv 3))))))), ?_⟩
    refine ⟨_, rfl, _, rfl, _, rfl, d, l, m, left, rfl, D, m1, m8, l0, l9, fun q r H1 D1 kp1 hq hok hfit => ?_⟩
    have sq1 : SqT K H1 q r.vs := SqT.of hq
    have nofit : ∀ {w : Str} {xs : List Int}, w ≠ ("skip" : Str) → Rw.fits ⟨w, xs⟩ left := fun h e => absurd e h
    obtain ⟨nqd, nql⟩ := D1.nt hq
    refine ⟨_, rfl, q, _, _, .str r.w, rfl, rfl, sq1, atI_nat (j := 0) rfl, rfl, _, rfl, ?_⟩
    refine ite2 (fun h => ?_) (fun n1 => ?_)
    · have hw := V.str.inj (of_decide_eq_true h)
      obtain ⟨a, s0, ex, ha⟩ := load_xs hok hw
      have evs : r.vs = [.str "load", .int a] ++ [.int s0] := by unfold Rw.vs; rw [ex, hw]; rfl
      rw [evs] at sq1
      refine ⟨_, rfl, _, rfl, q, _, rfl, sq1, not_whole_front _ _ 2 rfl (by simp), fun u hu0 => ?_⟩
      rw [show cutV ([V.str "load", V.int a] ++ [V.int s0]) none (some 2) = [.str "load", .int a] from cut_front _ _ 2 rfl]
      obtain ⟨nud, nul⟩ := D1.free hu0
      have D2 := D1.new (o := .tup [.str "load", .int a]) hu0
      have kp2 := kp1.new (o := .tup [.str "load", .int a]) (kp1.free D1 hu0)
      refine ⟨_, rfl, d, l, _, rfl, D2, by decide, by decide, fun s1 H3 s10 s11 D3 kp3 => ?_⟩
      refine ⟨(by show 1 ≤ sizeLine; decide), fun u2 hu2 => ?_⟩
      have D4 := D3.new (o := .tup [.int s1]) hu2
      have kp4 := (kp2.trans kp3).new (o := .tup [.int s1]) ((kp2.trans kp3).free D3 hu2)
      have hu3 : H3 u = some (.tup [.str "load", .int a]) := kp3 _ _ upd_same nud nul
      refine ⟨u, u2, _, _, rfl, rfl, SqT.of (by rw [upd_ne (ne_of_none hu3 hu2)]; exact hu3), SqT.of upd_same, by simp, (by show 2 + 1 ≤ sizeLine; decide), fun e => absurd e (by simp), fun _ u3 hu4 => ?_⟩
      have ha7 : 0 ≤ a ∧ a ≤ 7 := by unfold itOk at ha; omega
      exact k u3 ⟨"load", [a, s1]⟩ _ (D4.new hu4) (kp4.new (kp4.free D4 hu4)) upd_same (ok2 (f := "WS") (c0 := 87) (c1 := 83) (by decide +kernel) (by decide +kernel) (by decide +kernel) ha (itS s10 (by omega))) (nofit (by decide +kernel))
    refine ⟨_, rfl, q, _, _, .str r.w, rfl, rfl, sq1, atI_nat (j := 0) rfl, rfl, _, rfl, ?_⟩
    refine ite2 (fun h => ?_) (fun n2 => ?_)
    · have hw := V.str.inj (of_decide_eq_true h)
      obtain ⟨s0, a, ex, ha⟩ := store_xs hok hw
      have evs : r.vs = [.str "store", .int s0, .int a] := by unfold Rw.vs; rw [ex, hw]; rfl
      have hq' : H1 q = some (.tup [.str "store", .int s0, .int a]) := by rw [← evs]; exact hq
      refine ⟨_, rfl, q, _, _, .str "store", rfl, rfl, SqT.of hq', atI_nat (j := 0) rfl, ?_⟩
      refine ⟨_, rfl, d, l, _, rfl, D1, by decide, by decide, fun s1 H3 s10 s11 D3 kp3 => ?_⟩
      refine ⟨_, rfl, q, _, _, .int a, rfl, rfl, SqT.of (kp3 _ _ hq' nqd nql), atI_nat (j := 2) rfl, ?_⟩
      refine ⟨(by show 3 ≤ sizeLine; decide), fun u2 hu2 => ?_⟩
      exact k u2 ⟨"store", [s1, a]⟩ _ (D3.new hu2) ((kp1.trans kp3).new ((kp1.trans kp3).free D3 hu2)) upd_same (ok2 (f := "SR") (c0 := 83) (c1 := 82) (by decide +kernel) (by decide +kernel) (by decide +kernel) (itS s10 (by omega)) ha) (nofit (by decide +kernel))
    refine ⟨_, rfl, q, _, _, .str r.w, rfl, rfl, sq1, atI_nat (j := 0) rfl, rfl, _, rfl, ?_⟩
    refine ite2 (fun h => ?_) (fun n3 => ?_)
    · have hw := V.str.inj (of_decide_eq_true h)
      obtain ⟨a, m0, c0, n, ex, ha, hn⟩ := skip_xs hok hw
      have evs : r.vs = [.str "skip", .int a] ++ [.int m0, .int c0, .int n] := by unfold Rw.vs; rw [ex, hw]; rfl
      have hq' : H1 q = some (.tup ([.str "skip", .int a] ++ [.int m0, .int c0, .int n])) := by rw [← evs]; exact hq
      have hnl : n ≤ left := by
        obtain ⟨a', m', c', n', ex', hl'⟩ := hfit hw
        rw [ex] at ex'
        injection ex' with _ ex'
        injection ex' with _ ex'
        injection ex' with _ ex'
        injection ex' with e4 _
        omega
      refine ⟨_, rfl, d, l, _, rfl, D1, by decide, by decide, fun j H2 j0 j1 D2 kp2 => ?_⟩
      refine ⟨_, _, rfl, rfl, ⟨by omega, by omega, by decide⟩, ?_⟩
      have hm := pow_mods (j := j.toNat) (by omega)
      have hmb := mods_bound _ hm
      have hq2 := kp2 _ _ hq' nqd nql
      refine ⟨_, rfl, _, rfl, q, _, rfl, SqT.of hq2, not_whole_front _ _ 2 rfl (by simp), fun u hu0 => ?_⟩
      rw [show cutV ([V.str "skip", V.int a] ++ [V.int m0, V.int c0, V.int n]) none (some 2) = [.str "skip", .int a] from cut_front _ _ 2 rfl]
      obtain ⟨nud, nul⟩ := D2.free hu0
      have D3 := D2.new (o := .tup [.str "skip", .int a]) hu0
      have kp3 := (kp1.trans kp2).new (o := .tup [.str "skip", .int a]) ((kp1.trans kp2).free D2 hu0)
      have hq3 : (upd H2 u (.tup [.str "skip", .int a])) q = some (.tup ([.str "skip", .int a] ++ [.int m0, .int c0, .int n])) := by rw [upd_ne (ne_of_none hq2 hu0)]; exact hq2
      refine ⟨_, rfl, _, rfl, _, rfl, d, l, _, rfl, D3, by omega, by omega, fun c H4 c00 c01 D4 kp4 => ?_⟩
      have hq4 := kp4 _ _ hq3 nqd nql
      have hu4 : H4 u = some (.tup [.str "skip", .int a]) := kp4 _ _ upd_same nud nul
      refine ⟨_, rfl, q, _, _, .int n, rfl, rfl, SqT.of hq4, atI_nat (j := 4) rfl, ?_⟩
      refine ⟨(by show 3 ≤ sizeLine; decide), fun u2 hu2 => ?_⟩
      have D5 := D4.new (o := .tup [.int (1 * 2 ^ j.toNat), .int c, .int n]) hu2
      have kp5 := (kp3.trans kp4).new (o := .tup [.int (1 * 2 ^ j.toNat), .int c, .int n]) ((kp3.trans kp4).free D4 hu2)
      refine ⟨u, u2, _, _, rfl, rfl, SqT.of (by rw [upd_ne (ne_of_none hu4 hu2)]; exact hu4), SqT.of upd_same, by simp, (by show 2 + 3 ≤ sizeLine; decide), fun e => absurd e (by simp), fun _ u3 hu5 => ?_⟩
      have ha7 : 0 ≤ a ∧ a ≤ 7 := by unfold itOk at ha; omega
      have hn7 : 0 ≤ n ∧ n ≤ 1000 := by unfold itOk at hn; omega
      exact k u3 ⟨"skip", [a, 1 * 2 ^ j.toNat, c, n]⟩ _ (D5.new hu5) (kp5.new (kp5.free D5 hu5)) upd_same (ok4 ha7.1 ha7.2 hm c00 c01 hn7.1 hn7.2) (fun _ => ⟨_, _, _, n, rfl, hnl⟩)
    exact ⟨_, rfl, k q r H1 D1 kp1 hq hok hfit⟩
abbrev s_law_far_rows : Stmt := top 32
abbrev N_law_far_rows : List Str := ["_law_deal_here", "_law_registers", "_law_many", "_law_at"]
theorem sc_law_far_rows : FnScope N_law_far_rows ["_law_deal_here", "_law_registers", "_law_many"] (defScope s_law_far_rows) := ⟨rfl, rfl, rfl, by decide +kernel, rfl, by decide +kernel, by decide +kernel⟩
theorem ok_law_far_rows {f : Addr} {fd : FuncData} (F : Fun K "_law_far_rows" "_law_far_rows" s_law_far_rows f fd) (T : Glob mg) (D_law_far_row : Df P w K mg base 4 "_law_far_row" ["_law_deal_here", "_law_registers", "_law_left"] spRowL) : FnOk P w K mg base CX0 5 f fd ["_law_deal_here", "_law_registers", "_law_many"] spRows := by
  refine F.ok sc_law_far_rows (fun vs H Q E h => ?_) (fun cdv A outer s H vs Q E hr h => ?_)
  · obtain ⟨d, l, n, rfl, _⟩ := h
    rfl
  · obtain ⟨d, l, n, rfl, D, hn, k⟩ := h
    have nd := sc_law_far_rows.nd
    refine ⟨_, (pss_one (ps_ret (pe_lc (own := [("_law_at", 3)]) (g := gName 3) (tt := tYes) rfl nd (pi_range1 (by rfl) T.g_range (pa_cons (pv 2) pa_nil)) (blkOk_by (N := N_law_far_rows) (sc := defScope s_law_far_rows) (by decide +kernel)) (fun _ _ _ _ _ => pg_name (i := 3) nd rfl (Or.inl rfl)) (fun _ _ _ _ _ => pts_nil) (fun _ _ _ _ _ => (pe_call D_law_far_row.ok (hr.mono (by decide)) (by rfl) D_law_far_row.g D_law_far_row.kp D_law_far_row.b .nil pass0 (pa_cons (pv 0) (pa_cons (pv 1) (pa_cons (pe_op op_sub (pe_op op_sub (pv 2) (pv 3)) pe_int) pa_nil)))))))), ?_⟩
    refine ⟨_, rfl, (n : Int), rfl, by omega, by omega, fun L hL => ?_⟩
    obtain ⟨nLd, nLl⟩ := D.free hL
    rw [Int.toNat_natCast]
    refine lc_range (lo := 0) (n := n) (fun i H1 => ∃ as rs, H1 L = some (.lst (refs as)) ∧ RowsAt H1 rs as ∧ rs.length = i ∧ (∀ (j : Nat) r, rs[j]? = some r → r.ok ∧ r.fits ((n : Int) - 1 - (j : Int))) ∧ Deal H1 d l ∧ Kept d l H H1) ⟨[], [], upd_same, RowsAt.nil, rfl, fun j r h => by simp at h, D.new hL, Kept.refl.new hL⟩ ?_ ?_
    · rintro i H1 hi ⟨as, rs, h1, hr1, hl1, hok, D1, kp1⟩
      refine ⟨rfl, ?_⟩
      refine ⟨_, rfl, _, rfl, _, rfl, _, rfl, _, _, rfl, rfl, _, _, rfl, rfl, d, l, 8, (n : Int) - (0 + (i : Int)) - 1, rfl, D1, by decide, by decide, by omega, by omega, fun q r H2 D2 kp2 hq ok1 fit1 => ?_⟩
      have h2 : H2 L = some (.lst (refs as)) := kp2 _ _ h1 nLd nLl
      refine ⟨_, h2, by rw [refs_len, hr1.len, hl1]; exact small1000 (by omega), as ++ [q], rs ++ [r], ?_, ((hr1.kept D1 kp2).snoc hq).upd h2, by rw [List.length_append, hl1]; rfl, fun j r' e => ?_, D2.other nLd nLl, (kp1.trans kp2).new hL⟩
      · rw [upd_same]
        unfold refs
        rw [List.map_append]
        rfl
      · by_cases hj : j < rs.length
        · rw [List.getElem?_append_left hj] at e
          exact hok j r' e
        · rw [List.getElem?_append_right (by omega)] at e
          have h0 : j - rs.length = 0 := by
            by_cases h1 : j - rs.length = 0
            · exact h1
            · rw [List.getElem?_eq_none (by simp only [List.length_cons, List.length_nil]; omega)] at e
              cases e
          rw [h0] at e
          have e' : r = r' := Option.some.inj e
          subst e'
          have ej : (n : Int) - 1 - (j : Int) = (n : Int) - (0 + (i : Int)) - 1 := by omega
          rw [ej]
          exact ⟨ok1, fit1⟩
    · rintro H1 ⟨as, rs, h1, hr1, hl1, hok, D1, kp1⟩
      exact k L rs H1 hL D1 kp1 ⟨as, h1, hr1⟩ (by intro j r e; rw [hl1]; exact hok j r e) hl1
end
end My

set_option Elab.async false
set_option linter.all false
set_option maxRecDepth 100000
set_option maxHeartbeats 1000000
namespace MyR
open PySem PySem.Spec PyProof.Rows L2
/-! ### == of an object whose class has its own, with anything -/
def rEqA (X : Cx) : R2 := fun x y H Q => ∃ (a C dx : Addr) (fs : List (Str × V)) (f : Addr) (fd : FuncData) (ps : List Str) (sp : Sp) (k : Nat) (CX : CXT) (E : XK) (t : Value), x = .ref a ∧ H a = some (.ins C dx fs) ∧ TyX X.K H y t ∧ PySem.W.notFirst X.K C t = true ∧ EqC X.K C f ∧
  FnOk X.prog X.w X.K X.mg X.base CX k f fd ps sp ∧ Room (k + 1) X.A ∧ Binds X.K fd ps [] ∧ Passes CX X E ∧ sp [.ref a, y] H (fun v H' => ∃ t : Bool, v = .bl t ∧ Q (.bl t) H') E
theorem op_eqA {X : Cx} : OpR X (compareOp .Eq) (rEqA X) := by
  intro pins s σ H x y u v Q I rx ry h
  obtain ⟨a, C, dx, fs, f, fd, ps, sp, k, CX, E, t, rfl, ha, ty, nf, c, F, hr, hb, hx, hsp⟩ := h
  cases rx
  obtain ⟨mA, J, _⟩ := ins_get I.hok ha
  obtain ⟨od, J, _⟩ := J.look
  obtain ⟨m, hF⟩ := I.fr
  obtain ⟨PP, kit, pp, _⟩ := kit_of I ry ty
  show wpAny (model X.prog X.w) X.A (richCompare .Eq (.ref a) v) (EP X pins σ Q) X.xe s
  refine PySem.W.cmp_K (op := .Eq) (tb := t) hr.units0 hF I.ok.mod.kin J (kit.ty _ _ I.kIn pp) nf c.eq c.fn ?_
  have e0 := I.env0
  have hl := F.len _ _ _ _ hsp
  have r2 : Vals [V.ref a, y] [Value.ref a, v] := .cons rfl (.cons ry .nil)
  refine wpAny_call (codeAny_mono (F.run X.A X.stack s H ⟨[.ref a, v], []⟩ [.ref a, v] [.ref a, y] _ E (hr.mono (Nat.le_succ _)) e0 (by
    have := hb s [.ref a, v] I.kIn (by simpa using hl)
    simpa using this) r2 hsp) fun r s' hq => ?_)
  cases r with
  | error e => exact hx pins σ H s e s' I hq
  | ok fl =>
    cases fl with
    | ret w =>
      obtain ⟨z, H', I', rz, t, ez, q⟩ := I.after hq
      subst ez
      cases rz
      exact ⟨.bl t, H', I', rfl, q⟩
    | next => exact False.elim hq
    | brk => exact False.elim hq
    | cont => exact False.elim hq
end MyR

set_option Elab.async false
set_option linter.all false
set_option maxRecDepth 100000
set_option maxHeartbeats 1000000
namespace My
open PySem L2 MyR
def rowD (r : Rw) : PyData := .tuple (.str r.w :: r.xs.map .int)
theorem forms_ok : ∀ p ∈ forms, PyData.strOk p.1 = true := by decide +kernel
theorem ints_lay : ∀ xs : List Int, PyData.canLayAll0 (xs.map PyData.int) = true
  | [] => by simp [PyData.canLayAll0]
  | x :: xs => by
    rw [List.map_cons, PyData.canLayAll0, PyData.canLay0, ints_lay xs]
    rfl
theorem ints_depth : ∀ xs : List Int, PyData.depthAll (xs.map PyData.int) = 0
  | [] => by simp [PyData.depthAll]
  | x :: xs => by
    rw [List.map_cons, PyData.depthAll, PyData.depth, ints_depth xs]
    rfl
theorem rowD_lay {r : Rw} (h : r.ok) : (rowD r).canLay0 = true := by
  obtain ⟨⟨f, hf, _⟩, _⟩ := h
  unfold rowD
  rw [PyData.canLay0, PyData.canLayAll0, PyData.canLay0, ints_lay, forms_ok _ hf]
  rfl
theorem rowD_depth (r : Rw) : (rowD r).depth = 1 := by
  unfold rowD
  rw [PyData.depth, PyData.depthAll, PyData.depth, ints_depth]
  rfl
theorem rowsD_lay : ∀ {rs : List Rw}, (∀ r ∈ rs, r.ok) → PyData.canLayAll0 (rs.map rowD) = true
  | [], _ => by simp [PyData.canLayAll0]
  | r :: rs, h => by
    rw [List.map_cons, PyData.canLayAll0, rowD_lay (h r List.mem_cons_self), rowsD_lay fun x hx => h x (List.mem_cons_of_mem _ hx)]
    rfl
theorem rowsD_depth : ∀ rs : List Rw, PyData.depthAll (rs.map rowD) ≤ 1
  | [] => by simp [PyData.depthAll]
  | r :: rs => by
    rw [List.map_cons, PyData.depthAll, rowD_depth]
    have := rowsD_depth rs
    omega
abbrev AllOk (rs : List Rw) : Prop := ∀ r ∈ rs, r.ok
theorem RsOk.all {rs : List Rw} (h : RsOk rs) : AllOk rs := fun r hr => by
  obtain ⟨i, hi⟩ := List.mem_iff_getElem?.mp hr
  exact (h i r hi).1
theorem tupD_lay {rs : List Rw} (h : AllOk rs) : (PyData.tuple (rs.map rowD)).canLay0 = true := by
  rw [PyData.canLay0]
  exact rowsD_lay h
theorem tupD_shaped {rs : List Rw} (h : AllOk rs) : SeqAt.shaped (.tuple (rs.map rowD)) = true := by
  unfold SeqAt.shaped
  rw [tupD_lay h, Bool.true_and]
  refine decide_eq_true ?_
  rw [PyData.depth]
  have := rowsD_depth rs
  omega
theorem lstD_shaped {rs : List Rw} (h : AllOk rs) : SeqAt.shaped (.list (rs.map rowD)) = true := by
  unfold SeqAt.shaped
  rw [show (PyData.list (rs.map rowD)).canLay0 = true from by rw [PyData.canLay0]; exact rowsD_lay h, Bool.true_and]
  refine decide_eq_true ?_
  rw [PyData.depth]
  have := rowsD_depth rs
  omega
theorem ints_dp {K : PySem.W.Frag} {H : Hp} : ∀ xs : List Int, DpAll K H (xs.map V.int) (xs.map PyData.int)
  | [] => .nil
  | x :: xs => .cons (.int x) (ints_dp xs)
theorem row_dp {K : PySem.W.Frag} {H : Hp} {r : Rw} {p : Addr} (h : RowAt H r p) : Dp K H (.ref p) (rowD r) := .tup (SqT.of h) (.cons (.str r.w) (ints_dp r.xs))
theorem rows_dp {K : PySem.W.Frag} {H : Hp} : ∀ {rs : List Rw} {as : List Addr}, RowsAt H rs as → DpAll K H (refs as) (rs.map rowD)
  | [], [], _ => .nil
  | [], a :: as, h => absurd h.len (by simp)
  | r :: rs, [], h => absurd h.len (by simp)
  | r :: rs, a :: as, h => by
    obtain ⟨p, e1, e2⟩ := h.at_ 0 r rfl
    obtain rfl := Option.some.inj e1
    exact .cons (row_dp e2) (rows_dp ⟨by have := h.len; simpa using this, fun i r' e => h.at_ (i + 1) r' e⟩)
theorem tup_dp {K : PySem.W.Frag} {H : Hp} {rs : List Rw} {as : List Addr} {t : Addr} (h : RowsAt H rs as) (ht : H t = some (.tup (refs as))) : Dp K H (.ref t) (.tuple (rs.map rowD)) := .tup (SqT.of ht) (rows_dp h)
theorem tup_eqv {rs : List Rw} (h : AllOk rs) : PyData.eqv (.tuple (rs.map rowD)) (.tuple (rs.map rowD)) = true := SeqAt.eqv_refl _ (tupD_lay h)
theorem lst_dp {K : PySem.W.Frag} {H : Hp} {rs : List Rw} {as : List Addr} {t : Addr} (h : RowsAt H rs as) (ht : H t = some (.lst (refs as))) : Dp K H (.ref t) (.list (rs.map rowD)) := .lst (SqL.of ht) (rows_dp h)
theorem lst_eqv (xs ys : List PyData) : PyData.eqv (.list xs) (.list ys) = PyData.eqv (.tuple xs) (.tuple ys) := by
  simp [PyData.eqv]
/-- a code of whole rows -/
def CodeR (C : Addr) (H : Hp) (rs : List Rw) (c : Addr) : Prop := ∃ (dx t : Addr) (as : List Addr), H c = some (.ins C dx [("rows", .ref t)]) ∧ H t = some (.tup (refs as)) ∧ RowsAt H rs as
theorem CodeR.same {C : Addr} {H H' : Hp} {rs : List Rw} {c : Addr} (h : CodeR C H rs c) (s : Same H H') : CodeR C H' rs c := let ⟨dx, t, as, e1, e2, e3⟩ := h; ⟨dx, t, as, s _ _ e1, s _ _ e2, e3.same s⟩
theorem CodeR.kept {C : Addr} {H H' : Hp} {rs : List Rw} {c d l : Addr} (h : CodeR C H rs c) (D : Deal H d l) (k : Kept d l H H') : CodeR C H' rs c :=
  let ⟨dx, t, as, e1, e2, e3⟩ := h; ⟨dx, t, as, k _ _ e1 (D.ni e1).1 (D.ni e1).2, k _ _ e2 (D.nt e2).1 (D.nt e2).2, e3.kept D k⟩
def spLenC (C : Addr) : Sp := fun vs H Q _ => ∃ (c : Addr) (rs : List Rw), vs = [.ref c] ∧ CodeR C H rs c ∧ Q (.int rs.length) H
def spEqC (K0 : PySem.W.Frag) (C : Addr) : Sp := fun vs H Q _ => ∃ (a : Addr) (y : V) (rs : List Rw), vs = [.ref a, y] ∧ CodeR C H rs a ∧ AllOk rs ∧
  ((∃ (b : Addr) (rs' : List Rw), y = .ref b ∧ CodeR C H rs' b ∧ AllOk rs' ∧ Q (.bl (PyData.eqv (.tuple (rs.map rowD)) (.tuple (rs'.map rowD)))) H) ∨ ((∃ u, TyX K0 H y u ∧ PySem.W.kitOne K0 u (.ref C) = some false) ∧ Q (.bl false) H))
def MachAt (C : Addr) (H : Hp) (a b : Int) (m : Addr) : Prop := ∃ dx, H m = some (.ins C dx [("width", .int a), ("registers", .int b)])
def spMach (C : Addr) : Sp := fun vs H Q _ => ∃ (p dx : Addr) (a b : Int), vs = [.ref p, .int a, .int b] ∧ H p = some (.ins C dx []) ∧ ∀ H', H' p = some (.ins C dx [("width", .int a), ("registers", .int b)]) → (∀ b o, H b = some o → b ≠ p → H' b = some o) → Q .non H'
def spEqM (K0 : PySem.W.Frag) (C : Addr) : Sp := fun vs H Q _ => ∃ (m : Addr) (y : V) (a b : Int), vs = [.ref m, y] ∧ MachAt C H a b m ∧
  ((∃ (n : Addr) (a' b' : Int), y = .ref n ∧ MachAt C H a' b' n ∧ Q (.bl (decide (a = a') && decide (b = b'))) H) ∨ ((∃ u, TyX K0 H y u ∧ PySem.W.kitOne K0 u (.ref C) = some false) ∧ Q (.bl false) H))
/-- how the class of an object is told -/
structure ClsN (K : PySem.W.Frag) (C : Addr) : Prop where
  ca : PySem.W.findIn K (.ref C) "__class__" = some (some (.builtin "object.__class__"))
  cn : PySem.W.specialIn K (.builtin "object.__class__") "__get__" = some (some (.builtin "getset_descriptor.__get__"))
  ct : PySem.W.takesIn K (.builtin "object.__class__") = some true
  cm : PySem.W.mroIn K C (.type "object") = some true
  kit : PySem.W.kitOne K (.ref C) (.ref C) = some true
section
variable {P : Program} {w : World} {K : PySem.W.Frag} {mg : Str → Option Value} {base : Heap}
abbrev s_Code_len : Stmt := inClass (top 25) 3
abbrev N_Code_len : List Str := ["self"]
theorem sc_Code_len : FnScope N_Code_len ["self"] (defScope s_Code_len) := ⟨rfl, rfl, rfl, by decide +kernel, rfl, by decide +kernel, by decide +kernel⟩
theorem ok_Code_len {f C : Addr} {fd : FuncData} (F : Fun K "__len__" "Code.__len__" s_Code_len f fd) (T : Glob mg) (cl : Cls K C) (n1 : NoAttr K C "rows") : FnOk P w K mg base CX0 1 f fd ["self"] (spLenC C) := by
  refine F.ok sc_Code_len (fun vs H Q E h => ?_) (fun cdv A outer s H vs Q E hr h => ?_)
  · obtain ⟨c, rs, rfl, _⟩ := h
    rfl
  · obtain ⟨c, rs, rfl, hc, k⟩ := h
    refine ⟨_, (pss_one (ps_ret (pe_callB call_len_seq (by rfl) T.g_len PySem.boot_len (pa_cons (pe_fld (pv 0) rfl) pa_nil)))), ?_⟩
    obtain ⟨dx, t, as, h1, h2, hr1⟩ := id hc
    refine ⟨_, rfl, c, C, dx, _, _, rfl, h1, cl, n1, rfl, t, _, rfl, .inr (SqT.of h2), ?_⟩
    rw [refs_len, hr1.len]
    exact k
abbrev s_Code_eq : Stmt := inClass (top 25) 4
abbrev N_Code_eq : List Str := ["self", "other"]
theorem sc_Code_eq : FnScope N_Code_eq ["self", "other"] (defScope s_Code_eq) := ⟨rfl, rfl, rfl, by decide +kernel, rfl, by decide +kernel, by decide +kernel⟩
theorem ok_Code_eq {f C : Addr} {fd : FuncData} (F : Fun K "__eq__" "Code.__eq__" s_Code_eq f fd) (T : Glob mg) (cl : Cls K C) (nm : ClsN K C) (n1 : NoAttr K C "rows") (hC : mg "Code" = some (.ref C)) : FnOk P w K mg base CX0 1 f fd ["self", "other"] (spEqC K C) := by
  refine F.ok sc_Code_eq (fun vs H Q E h => ?_) (fun cdv A outer s H vs Q E hr h => ?_)
  · obtain ⟨a, y, rs, rfl, _⟩ := h
    rfl
  · obtain ⟨a, y, rs, rfl, hA, hok, h⟩ := h
    refine ⟨_, (pss_one (ps_ret (pe_and (pe_callB call_isi (by rfl) T.g_isinstance (by decide +kernel) (pa_cons (pv 1) (pa_cons (pe_glob (v := .ref C) rfl hC rfl) pa_nil))) (pe_one (pe_cmpR (op_eqD hr.units) (pe_fld (pv 0) rfl) (pe_fld (pv 1) rfl) (nomark _)))))), ?_⟩
    obtain ⟨dx, t, as, h1, h2, hr1⟩ := id hA
    rcases h with ⟨b, rs', rfl, hB, hok', k⟩ | ⟨⟨u, hu, hk⟩, k⟩
    · obtain ⟨dy, u, bs, g1, g2, hr2⟩ := id hB
      refine ⟨_, rfl, _, _, _, _, true, rfl, .own C, .base (.ins g1 cl nm.ca nm.cn nm.ct nm.cm), nm.kit, ?_⟩
      refine ⟨true, rfl, ?_⟩
      refine ⟨_, rfl, a, C, dx, _, _, rfl, h1, cl, n1, rfl, _, rfl, b, C, dy, _, _, rfl, g1, cl, n1, rfl, ?_⟩
      exact ⟨_, _, tup_dp hr1 h2, tup_dp hr2 g2, tupD_shaped hok, tupD_shaped hok', k⟩
    · refine ⟨_, rfl, _, _, u, _, false, rfl, .own C, hu, hk, ?_⟩
      exact ⟨false, rfl, k⟩
abbrev s_Machine_init : Stmt := inClass (top 24) 0
abbrev N_Machine_init : List Str := ["self", "width", "registers"]
theorem sc_Machine_init : FnScope N_Machine_init ["self", "width", "registers"] (defScope s_Machine_init) := ⟨rfl, rfl, rfl, by decide +kernel, rfl, by decide +kernel, by decide +kernel⟩
theorem ok_Machine_init {f C : Addr} {fd : FuncData} (F : Fun K "__init__" "Machine.__init__" s_Machine_init f fd) (cl : Cls K C) (n1 : NoAttr K C "width") (n2 : NoAttr K C "registers") : FnOk P w K mg base CX0 1 f fd ["self", "width", "registers"] (spMach C) := by
  refine F.ok sc_Machine_init (fun vs H Q E h => ?_) (fun cdv A outer s H vs Q E hr h => ?_)
  · obtain ⟨p, dx, a, b, rfl, _⟩ := h
    rfl
  · obtain ⟨p, dx, a, b, rfl, hp, k⟩ := h
    refine ⟨_, (pss_cons (ps_fld (pv 0) (pv 1) rfl)
    (pss_one (ps_fld (pv 0) (pv 2) rfl))), ?_⟩
    refine ⟨_, rfl, _, rfl, p, C, dx, _, rfl, hp, cl, n1, (by show 0 < 1000; decide), ?_⟩
    refine ⟨_, rfl, _, rfl, p, C, dx, _, rfl, upd_same, cl, n2, (by show 1 < 1000; decide), ?_⟩
    refine k _ upd_same fun b o e hb => ?_
    rw [upd_ne hb, upd_ne hb]
    exact e
abbrev s_Machine_eq : Stmt := inClass (top 24) 1
abbrev N_Machine_eq : List Str := ["self", "other"]
theorem sc_Machine_eq : FnScope N_Machine_eq ["self", "other"] (defScope s_Machine_eq) := ⟨rfl, rfl, rfl, by decide +kernel, rfl, by decide +kernel, by decide +kernel⟩
theorem ok_Machine_eq {f C : Addr} {fd : FuncData} (F : Fun K "__eq__" "Machine.__eq__" s_Machine_eq f fd) (T : Glob mg) (cl : Cls K C) (nm : ClsN K C) (n1 : NoAttr K C "width") (n2 : NoAttr K C "registers") (hC : mg "Machine" = some (.ref C)) : FnOk P w K mg base CX0 1 f fd ["self", "other"] (spEqM K C) := by
  refine F.ok sc_Machine_eq (fun vs H Q E h => ?_) (fun cdv A outer s H vs Q E hr h => ?_)
  · obtain ⟨m, y, a, b, rfl, _⟩ := h
    rfl
  · obtain ⟨m, y, a, b, rfl, ⟨dx, h1⟩, h⟩ := h
    refine ⟨_, (pss_one (ps_ret (pe_and (pe_callB call_isi (by rfl) T.g_isinstance (by decide +kernel) (pa_cons (pv 1) (pa_cons (pe_glob (v := .ref C) rfl hC rfl) pa_nil))) (pe_and (pe_cmpR op_eq (pe_fld (pv 0) rfl) (pe_fld (pv 1) rfl) (nomark _)) (pe_one (pe_cmpR op_eq (pe_fld (pv 0) rfl) (pe_fld (pv 1) rfl) (nomark _))))))), ?_⟩
    rcases h with ⟨n, a', b', rfl, ⟨dy, g1⟩, k⟩ | ⟨⟨u, hu, hk⟩, k⟩
    · refine ⟨_, rfl, _, _, _, _, true, rfl, .own C, .base (.ins g1 cl nm.ca nm.cn nm.ct nm.cm), nm.kit, ?_⟩
      refine ⟨true, rfl, ?_⟩
      refine ⟨_, rfl, m, C, dx, _, _, rfl, h1, cl, n1, rfl, _, rfl, n, C, dy, _, _, rfl, g1, cl, n1, rfl, rfl, _, rfl, ?_⟩
      have ea : decide (V.int a = V.int a') = decide (a = a') := decide_eq_decide.mpr ⟨fun e => V.int.inj e, fun e => by rw [e]⟩
      have eb : decide (V.int b = V.int b') = decide (b = b') := decide_eq_decide.mpr ⟨fun e => V.int.inj e, fun e => by rw [e]⟩
      rw [ea]
      cases hd : decide (a = a') with
      | false => rw [hd] at k; exact k
      | true =>
        rw [hd] at k
        refine ⟨_, rfl, m, C, dx, _, _, rfl, h1, cl, n2, rfl, _, rfl, n, C, dy, _, _, rfl, g1, cl, n2, rfl, rfl, ?_⟩
        rw [eb]
        exact k
    · refine ⟨_, rfl, _, _, u, _, false, rfl, .own C, hu, hk, ?_⟩
      exact ⟨false, rfl, k⟩
end
end My

set_option Elab.async false
set_option linter.all false
set_option maxRecDepth 100000
set_option maxHeartbeats 1000000
namespace MyR
open PySem PySem.Spec PyProof.Rows L2
/-! ### str of a number, a text, None, a truth, an empty tuple -/
theorem strOk_of (s : String) : PyData.strOk (Str.ofString s) = true := by
  unfold PyData.strOk
  rw [Str.ofString_eq_toList]
  rw [Array.all_eq_true']
  intro x hx
  obtain ⟨c, hc, rfl⟩ := List.mem_map.mp (List.mem_toArray.mp hx)
  refine decide_eq_true ?_
  have hv := c.valid
  have : c.toNat = c.val.toNat := rfl
  rw [this]
  rcases hv with h | ⟨_, h⟩ <;> omega
def rStrI (K : PySem.W.Frag) : List V → Hp → VK → Prop := fun xs H Q => ∃ v, xs = [v] ∧
  ((∃ i : Int, v = .int i ∧ i.natAbs.log2 < 1920) ∨ (∃ s : Str, v = .str s ∧ PyData.strOk s = true ∧ s.length ≤ 2000) ∨ v = .non ∨ (∃ b, v = .bl b) ∨ ∃ a, v = .ref a ∧ H a = some (.tup [])) ∧
  ∀ s : Str, PyData.strOk s = true → s.length ≤ 2000 → Q (.str s) H
section
variable {X : Cx}
theorem call_strI (hgd : X.A.guards = some []) (hu : X.A.units + 64 < cLine) : CallR X (.type "str") (rStrI X.K) := by
  intro pins s σ H xs us Q I r h
  obtain ⟨v, rfl, h, q⟩ := h
  obtain ⟨u, rfl, ru⟩ := vals1 r
  rcases h with ⟨i, rfl, hz⟩ | ⟨z, rfl, hz, hl⟩ | rfl | ⟨b, rfl⟩ | ⟨a, rfl, ha⟩
  · obtain ⟨t, rfl⟩ := ru
    refine PySem.P.str_of_int hz ⟨.str _, H, I.tok _, ⟨_, rfl⟩, q _ (strOk_of _) ?_⟩
    rw [ofString_len]
    exact Nat.le_trans (int_text_length_le (k := 1920) (by decide) hz) (by decide)
  · obtain ⟨t, rfl⟩ := ru
    exact PySem.P.str_of_str ⟨.str _, H, I, ⟨_, rfl⟩, q _ hz hl⟩
  · obtain rfl : u = Value.none := ru
    exact PySem.P.str_of_none ⟨.str _, H, I.tok _, ⟨_, rfl⟩, q _ (strOk_of _) (by decide +kernel)⟩
  · obtain rfl : u = Value.bool b := ru
    cases b with
    | false => exact PySem.P.str_of_bool ⟨.str "False", H, I.tok _, ⟨_, rfl⟩, q _ (strOk_of _) (by decide +kernel)⟩
    | true => exact PySem.P.str_of_bool ⟨.str "True", H, I.tok _, ⟨_, rfl⟩, q _ (strOk_of _) (by decide +kernel)⟩
  · obtain rfl : u = Value.ref a := ru
    have hd : Dp X.K H (.ref a) (.tuple []) := .tup (SqT.of ha) .nil
    obtain ⟨as, rd⟩ := Dp.reads I _ _ _ hd rfl
    refine str_of_reads rd (by decide +kernel) (fun e => by cases e) hgd (by show X.A.units + (PyData.depth (.tuple []) + 3) < cLine; have : PyData.depth (.tuple []) ≤ 1 := (by decide +kernel); omega) (fun _ _ e => e) (fun h' u tk keep => ⟨.str _, H, I.kept (t' := tk) keep, ⟨u, rfl⟩, q _ (by decide +kernel) (by decide +kernel)⟩) (by decide +kernel)
end
end MyR

set_option Elab.async false
set_option linter.all false
set_option maxRecDepth 100000
set_option maxHeartbeats 1000000
namespace My
open PySem L2 MyR
/-! ### rows as data -/
def It.d : It → PyData
  | .int z => .int z
  | .bl b => .bool b
  | .non => .none
  | .str s => .str s
  | .emp => .tuple []
def Rv.d : Rv → PyData
  | .it i => i.d
  | .tup xs => .tuple (xs.map It.d)
  | .lst xs => .list (xs.map It.d)
section
variable {K : PySem.W.Frag} {d l : Addr} {H : Hp}
theorem it_dp {v : V} {x : It} (h : ItAt H v x) : Dp K H v x.d ∧ x.d.canLay0 = true ∧ x.d.depth ≤ 1 := by
  cases x with
  | int z => subst h; exact ⟨.int z, rfl, by show PyData.depth (.int z) ≤ 1; rw [PyData.depth]; omega⟩
  | bl b => subst h; exact ⟨.bl b, rfl, by show PyData.depth (.bool b) ≤ 1; rw [PyData.depth]; omega⟩
  | non => subst h; exact ⟨.non, rfl, by show PyData.depth .none ≤ 1; rw [PyData.depth]; omega⟩
  | str s => obtain ⟨rfl, hs⟩ := h; exact ⟨.str s, by show PyData.canLay0 (.str s) = true; rw [PyData.canLay0]; exact hs, by show PyData.depth (.str s) ≤ 1; rw [PyData.depth]; omega⟩
  | emp => obtain ⟨p, rfl, e⟩ := h; exact ⟨.tup (SqT.of e) .nil, by show PyData.canLay0 (.tuple []) = true; rw [PyData.canLay0, PyData.canLayAll0], by show PyData.depth (.tuple []) ≤ 1; rw [PyData.depth, PyData.depthAll]; omega⟩
theorem its_dp : ∀ {vs : List V} {xs : List It}, All2 (ItAt H) vs xs → DpAll K H vs (xs.map It.d) ∧ PyData.canLayAll0 (xs.map It.d) = true ∧ PyData.depthAll (xs.map It.d) ≤ 1
  | _, _, .nil => ⟨.nil, by rw [List.map_nil, PyData.canLayAll0], by rw [List.map_nil, PyData.depthAll]; omega⟩
  | _, _, .cons h t => by
    obtain ⟨a1, a2, a3⟩ := it_dp (K := K) h
    obtain ⟨b1, b2, b3⟩ := its_dp t
    refine ⟨.cons a1 b1, ?_, ?_⟩
    · rw [List.map_cons, PyData.canLayAll0, a2, b2]
      rfl
    · rw [List.map_cons, PyData.depthAll]
      omega
theorem rv_dp {v : V} {r : Rv} (h : RvAt d l H v r) : Dp K H v r.d ∧ r.d.canLay0 = true ∧ r.d.depth ≤ 2 := by
  cases r with
  | it i =>
    obtain ⟨a, b, c⟩ := it_dp (K := K) (show ItAt H v i from h)
    exact ⟨a, b, Nat.le_succ_of_le c⟩
  | tup xs =>
    obtain ⟨p, vs, rfl, e, al⟩ := h
    obtain ⟨a, b, c⟩ := its_dp (K := K) al
    refine ⟨.tup (SqT.of e) a, by show PyData.canLay0 (.tuple _) = true; rw [PyData.canLay0]; exact b, ?_⟩
    show PyData.depth (.tuple _) ≤ 2
    rw [PyData.depth]
    omega
  | lst xs =>
    obtain ⟨p, vs, rfl, _, _, e, al⟩ := h
    obtain ⟨a, b, c⟩ := its_dp (K := K) al
    refine ⟨.lst (SqL.of e) a, by show PyData.canLay0 (.list _) = true; rw [PyData.canLay0]; exact b, ?_⟩
    show PyData.depth (.list _) ≤ 2
    rw [PyData.depth]
    omega
theorem rvs_dp : ∀ {vs : List V} {rs : List Rv}, RvsAt d l H vs rs → DpAll K H vs (rs.map Rv.d) ∧ PyData.canLayAll0 (rs.map Rv.d) = true ∧ PyData.depthAll (rs.map Rv.d) ≤ 2
  | _, _, .nil => ⟨.nil, by rw [List.map_nil, PyData.canLayAll0], by rw [List.map_nil, PyData.depthAll]; omega⟩
  | _, _, .cons h t => by
    obtain ⟨a1, a2, a3⟩ := rv_dp (K := K) h
    obtain ⟨b1, b2, b3⟩ := rvs_dp t
    refine ⟨.cons a1 b1, ?_, ?_⟩
    · rw [List.map_cons, PyData.canLayAll0, a2, b2]
      rfl
    · rw [List.map_cons, PyData.depthAll]
      omega
theorem lst_shape {ds : List PyData} (h : PyData.canLayAll0 ds = true) (hd : PyData.depthAll ds ≤ 2) : SeqAt.shaped (.list ds) = true := by
  unfold SeqAt.shaped
  rw [show (PyData.list ds).canLay0 = true from by rw [PyData.canLay0]; exact h, Bool.true_and]
  refine decide_eq_true ?_
  rw [PyData.depth]
  omega
theorem d_shape {x : PyData} (h : x.canLay0 = true) (hd : x.depth ≤ 2) : SeqAt.shaped x = true := by
  unfold SeqAt.shaped
  rw [h, Bool.true_and]
  refine decide_eq_true ?_
  omega
theorem rs_eqv_nil (ds : List PyData) : PyData.eqv (.list ds) (.list []) = ds.isEmpty := by
  cases ds <;> simp [PyData.eqv, PyData.eqvAll]
theorem tup_eqv_nil (ds : List PyData) : PyData.eqv (.tuple ds) (.tuple []) = ds.isEmpty := by
  cases ds <;> simp [PyData.eqv, PyData.eqvAll]
end
/-! ### bounds -/
def IBd (n : Nat) : It → Prop
  | .int z => z.natAbs ≤ 2 ^ 65 + n
  | .str s => s.length ≤ 10
  | _ => True
def RBd (n : Nat) : Rv → Prop
  | .it _ => True
  | .tup xs => xs.length ≤ 6 + n ∧ ∀ x ∈ xs, IBd n x
  | .lst xs => xs.length ≤ 6 + n ∧ ∀ x ∈ xs, IBd n x
theorem IBd.up {n : Nat} {x : It} (h : IBd n x) : IBd (n + 1) x := by
  cases x with
  | int z => exact Nat.le_succ_of_le h
  | str s => exact h
  | _ => trivial
theorem RBd.up {n : Nat} {r : Rv} (h : RBd n r) : RBd (n + 1) r := by
  cases r with
  | it i => trivial
  | tup xs => exact ⟨by have := h.1; omega, fun x hx => (h.2 x hx).up⟩
  | lst xs => exact ⟨by have := h.1; omega, fun x hx => (h.2 x hx).up⟩
/-- the list at q holds these rows, of the n-th spoiling -/
structure LsAt (d l : Addr) (H : Hp) (n : Nat) (rs : List Rv) (q : Addr) : Prop where
  nd : q ≠ d
  nl : q ≠ l
  ex : ∃ vs, H q = some (.lst vs) ∧ RvsAt d l H vs rs
  len : rs.length ≤ 20 + n
  bd : ∀ r ∈ rs, RBd n r
theorem LsAt.kept {d l : Addr} {H H' : Hp} {n : Nat} {rs : List Rv} {q : Addr} (h : LsAt d l H n rs q) (D : Deal H d l) (k : Kept d l H H') : LsAt d l H' n rs q :=
  ⟨h.nd, h.nl, let ⟨vs, e, a⟩ := h.ex; ⟨vs, k _ _ e h.nd h.nl, a.mono fun _ _ => RvAt.kept D k⟩, h.len, h.bd⟩
theorem LsAt.same {d l : Addr} {H H' : Hp} {n : Nat} {rs : List Rv} {q : Addr} (h : LsAt d l H n rs q) (k : Same H H') : LsAt d l H' n rs q :=
  ⟨h.nd, h.nl, let ⟨vs, e, a⟩ := h.ex; ⟨vs, k _ _ e, a.mono fun _ _ => RvAt.same k⟩, h.len, h.bd⟩
end My

set_option Elab.async false
set_option linter.all false
set_option maxRecDepth 100000
set_option maxHeartbeats 1000000
namespace My
open PySem L2 MyR
def someI : List It := [.int 8, .int 999, .int 1000, .int 1001, .int (-1), .int 0, .int 1, .int 3, .int 64, .int 128, .int 18446744073709551615, .int 18446744073709551616, .int (-18446744073709551616), .bl true, .non, .str "0", .str "add", .emp]
def nearS : List It := [.str "set", .str "Set", .str "ad", .str "store ", .str " skip", .str "wait"]
def nearI (z : Int) : List It := [.int (z + 1), .int (z - 1)]
theorem some_bd : ∀ x ∈ someI, ∀ n, IBd n x := by
  intro x hx n
  simp only [someI, List.mem_cons, List.not_mem_nil, or_false] at hx
  rcases hx with rfl | rfl | rfl | rfl | rfl | rfl | rfl | rfl | rfl | rfl | rfl | rfl | rfl | rfl | rfl | rfl | rfl | rfl
  all_goals first | trivial | (show Str.length _ ≤ 10; decide +kernel) | (show Int.natAbs _ ≤ _; omega)
theorem near_bd : ∀ x ∈ nearS, ∀ n, IBd n x := by
  intro x hx n
  simp only [nearS, List.mem_cons, List.not_mem_nil, or_false] at hx
  rcases hx with rfl | rfl | rfl | rfl | rfl | rfl
  all_goals (show Str.length _ ≤ 10; decide +kernel)
theorem rep_at {H : Hp} {vs : List V} {xs : List It} (h : All2 (ItAt H) vs xs) : ∀ n, All2 (ItAt H) (List.replicate n vs).flatten (List.replicate n xs).flatten
  | 0 => .nil
  | n + 1 => by
    rw [List.replicate_succ, List.replicate_succ, List.flatten_cons, List.flatten_cons]
    exact h.app (rep_at h n)
theorem rep_mem {xs : List It} {x : It} {n : Nat} (h : x ∈ (List.replicate n xs).flatten) : x ∈ xs := by
  obtain ⟨l, hl, hx⟩ := List.mem_flatten.mp h
  rw [List.eq_of_mem_replicate hl] at hx
  exact hx
theorem rep_len {α : Type} (xs : List α) : ∀ n, (List.replicate n xs).flatten.length = n * xs.length
  | 0 => by simp
  | n + 1 => by
    rw [List.replicate_succ, List.flatten_cons, List.length_append, rep_len xs n, Nat.succ_mul, Nat.add_comm]
/-- one of the items -/
theorem ix_item {K : PySem.W.Frag} {H : Hp} {L : Addr} {vs : List V} {its : List It} {r : Int} {Q : VK} (h : H L = some (.lst vs)) (al : All2 (ItAt H) vs its) (h0 : 0 ≤ r) (h1 : r < its.length) (k : ∀ v x, x ∈ its → ItAt H v x → Q v H) : rIxL K (.ref L) (.int r) H Q := by
  obtain ⟨j, rfl⟩ : ∃ j : Nat, r = (j : Int) := ⟨r.toNat, by omega⟩
  have hj : j < its.length := by omega
  obtain ⟨v, hv, hvx⟩ := al.get (List.getElem?_eq_getElem hj)
  exact ⟨L, vs, _, v, rfl, rfl, SqL.of h, atI_nat hv, k v _ (List.getElem_mem hj) hvx⟩
def spOdd : Sp := fun vs H Q _ => ∃ (d l : Addr) (v : V) (x : It) (n : Nat), vs = [.ref d, v] ∧ Deal H d l ∧ ItAt H v x ∧ IBd n x ∧ ∀ v' x' H', Deal H' d l → Kept d l H H' → ItAt H' v' x' → IBd (n + 1) x' → Q v' H'
section
variable {P : Program} {w : World} {K : PySem.W.Frag} {mg : Str → Option Value} {base : Heap}
abbrev s_law_odd_item : Stmt := top 38
abbrev N_law_odd_item : List Str := ["_law_deal_here", "_law_item", "_law_some", "_law_near"]
theorem sc_law_odd_item : FnScope N_law_odd_item ["_law_deal_here", "_law_item"] (defScope s_law_odd_item) := ⟨rfl, rfl, rfl, by decide +kernel, rfl, by decide +kernel, by decide +kernel⟩
theorem ok_law_odd_item {f : Addr} {fd : FuncData} (F : Fun K "_law_odd_item" "_law_odd_item" s_law_odd_item f fd) (T : Glob mg) (D_law_draw : Df P w K mg base 1 "_law_draw" ["_law_deal_here", "_law_many"] spDraw) (D_law_is_whole : Df P w K mg base 1 "_law_is_whole" ["_law_value"] spInt) : FnOk P w K mg base CX0 2 f fd ["_law_deal_here", "_law_item"] spOdd := by
  refine F.ok sc_law_odd_item (fun vs H Q E h => ?_) (fun cdv A outer s H vs Q E hr h => ?_)
  · obtain ⟨d, l, v, x, n, rfl, _⟩ := h
    rfl
  · obtain ⟨d, l, v, x, n, rfl, D, hx, hbd, k⟩ := h
    have nd := sc_law_odd_item.nd
    have hu := hu_of hr
    refine ⟨_, (pss_cons (ps_set (i := 2) nd rfl (Or.inl rfl) (pe_lst (pa_cons pe_int (pa_cons pe_int (pa_cons pe_int (pa_cons pe_int (pa_cons (pe_un un_neg pe_int) (pa_cons pe_int (pa_cons pe_int (pa_cons pe_int (pa_cons pe_int (pa_cons pe_int (pa_cons (pe_op op_sub (pe_op op_shl pe_int pe_int) pe_int) (pa_cons (pe_op op_shl pe_int pe_int) (pa_cons (pe_op op_sub pe_int (pe_op op_shl pe_int pe_int)) (pa_cons pe_bl (pa_cons pe_non (pa_cons pe_str (pa_cons pe_str (pa_cons (pe_tup pa_nil) pa_nil))))))))))))))))))))
    (pss_cons (ps_set (i := 3) nd rfl (Or.inl rfl) (pe_ifExp (pt_val (pe_call D_law_is_whole.ok (hr.mono (by decide)) (by rfl) D_law_is_whole.g D_law_is_whole.kp D_law_is_whole.b .nil pass0 (pa_cons (pv 1) pa_nil))) (pe_lst (pa_cons (pe_op op_add (pv 1) pe_int) (pa_cons (pe_op op_sub (pv 1) pe_int) pa_nil))) (pe_lst (pa_cons pe_str (pa_cons pe_str (pa_cons pe_str (pa_cons pe_str (pa_cons pe_str (pa_cons pe_str pa_nil)))))))))
    (pss_one (ps_ret (pe_ix ix_list (pe_op op_cat (pv 2) (pe_op op_rep (pv 3) pe_int)) (pe_call D_law_draw.ok (hr.mono (by decide)) (by rfl) D_law_draw.g D_law_draw.kp D_law_draw.b .nil pass0 (pa_cons (pv 0) (pa_cons (pe_op op_add (pe_callB call_len_seq (by rfl) T.g_len PySem.boot_len (pa_cons (pv 2) pa_nil)) (pe_op op_mul pe_int (pe_callB call_len_seq (by rfl) T.g_len PySem.boot_len (pa_cons (pv 3) pa_nil)))) pa_nil))) (fun _ _ => rfl)))))), ?_⟩
    -- the items that are there
    refine seq_by (fun σ H1 => ∃ L us, σ = [some (.ref d), some v, some (.ref L), none] ∧ H1 L = some (.lst us) ∧ All2 (ItAt H1) us someI ∧ Same H H1 ∧ Deal H1 d l ∧ L ≠ d ∧ L ≠ l) (fun D' hD' => ?_) ?_
    · refine ⟨_, rfl, ?_⟩
      refine ⟨_, _, rfl, rfl, ⟨by decide, by decide, by decide⟩, _, _, rfl, rfl, ?_⟩
      refine ⟨_, _, rfl, rfl, ⟨by decide, by decide, by decide⟩, ?_⟩
      refine ⟨_, _, rfl, rfl, ⟨by decide, by decide, by decide⟩, _, _, rfl, rfl, ?_⟩
      refine ⟨by show 0 ≤ sizeLine; decide, fun e he => ?_⟩
      refine ⟨by show 18 ≤ sizeLine; decide, fun L hL => ?_⟩
      have s1 := new_same (o := .tup []) he
      refine hD' _ _ ⟨L, _, rfl, upd_same, ?_, s1.trans (new_same hL), (D.new he).new hL, (D.new he).free hL⟩
      have he2 : ∀ o, (upd (upd H e (.tup [])) L o) e = some (.tup []) := fun o => new_same hL _ _ upd_same
      refine .cons rfl (.cons rfl (.cons rfl (.cons rfl (.cons rfl (.cons rfl (.cons rfl (.cons rfl (.cons rfl (.cons rfl (.cons ?_ (.cons ?_ (.cons ?_ (.cons rfl (.cons rfl (.cons ⟨rfl, by decide +kernel⟩ (.cons ⟨rfl, by decide +kernel⟩ (.cons ⟨e, rfl, he2 _⟩ .nil)))))))))))))))))
      · show V.int (1 * 2 ^ (64 : Int).toNat - 1) = V.int 18446744073709551615
        rw [e64]
        rfl
      · show V.int (1 * 2 ^ (64 : Int).toNat) = V.int 18446744073709551616
        rw [e64]
      · show V.int (0 - 1 * 2 ^ (64 : Int).toNat) = V.int (-18446744073709551616)
        rw [e64]
        rfl
    rintro σ H1 ⟨L, us, rfl, hL, al1, sm1, D1, nLd, nLl⟩
    have hx1 := hx.same sm1
    -- the items near it
    refine seq_by (fun σ H2 => ∃ N ws its, σ = [some (.ref d), some v, some (.ref L), some (.ref N)] ∧ H2 N = some (.lst ws) ∧ All2 (ItAt H2) ws its ∧ (its.length = 2 ∨ its.length = 6) ∧ (∀ x ∈ its, IBd (n + 1) x) ∧ Same H1 H2 ∧ Deal H2 d l ∧ N ≠ d ∧ N ≠ l) (fun D' hD' => ?_) ?_
    · refine ⟨_, rfl, v, x, rfl, hx1, _, rfl, ?_⟩
      refine ite2 (fun hw => ?_) (fun hw => ?_)
      · cases x with
        | int z =>
          obtain rfl : v = .int z := hx
          refine ⟨_, rfl, _, _, rfl, rfl, _, rfl, _, _, rfl, rfl, (by show 2 ≤ sizeLine; decide), fun N hN => ?_⟩
          refine hD' _ _ ⟨N, _, nearI z, rfl, upd_same, .cons rfl (.cons rfl .nil), .inl rfl, ?_, new_same hN, D1.new hN, D1.free hN⟩
          intro x hx
          have hz : z.natAbs ≤ 2 ^ 65 + n := hbd
          simp only [nearI, List.mem_cons, List.not_mem_nil, or_false] at hx
          rcases hx with rfl | rfl
          · show (z + 1).natAbs ≤ 2 ^ 65 + (n + 1)
            omega
          · show (z - 1).natAbs ≤ 2 ^ 65 + (n + 1)
            omega
        | _ => cases hw
      · refine ⟨(by show 6 ≤ sizeLine; decide), fun N hN => ?_⟩
        refine hD' _ _ ⟨N, _, nearS, rfl, upd_same, .cons ⟨rfl, by decide +kernel⟩ (.cons ⟨rfl, by decide +kernel⟩ (.cons ⟨rfl, by decide +kernel⟩ (.cons ⟨rfl, by decide +kernel⟩ (.cons ⟨rfl, by decide +kernel⟩ (.cons ⟨rfl, by decide +kernel⟩ .nil))))), .inr rfl, fun x hx => near_bd x hx _, new_same hN, D1.new hN, D1.free hN⟩
    rintro σ H2 ⟨N, ws, its, rfl, hN, al2, hlen, hits, sm2, D2, nNd, nNl⟩
    have hwl := al2.len
    have hul := al1.len
    have hu18 : us.length = 18 := hul
    refine ⟨_, rfl, _, rfl, N, 4, ws, rfl, rfl, hN, by decide, by decide, Nat.le_of_lt (small1000 (by show ws.length * 4 ≤ 1000; omega)), fun p hp => ?_⟩
    have nLp : L ≠ p := ne_of_none (sm2 _ _ hL) hp
    refine ⟨L, p, us, _, rfl, rfl, by rw [upd_ne nLp]; exact sm2 _ _ hL, upd_same, Nat.le_of_lt (small1000 (by rw [rep_len]; show us.length + 4 * ws.length ≤ 1000; omega)), fun q hq => ?_⟩
    have D4 := (D2.new (o := .lst (List.replicate (4 : Int).toNat ws).flatten) hp).new (o := .lst (us ++ (List.replicate (4 : Int).toNat ws).flatten)) hq
    have nq := (D2.new (o := .lst (List.replicate (4 : Int).toNat ws).flatten) hp).free hq
    have sm4 : Same H2 (upd (upd H2 p (.lst (List.replicate (4 : Int).toNat ws).flatten)) q (.lst (us ++ (List.replicate (4 : Int).toNat ws).flatten))) := (new_same hp).trans (new_same hq)
    refine ⟨_, rfl, _, rfl, L, _, rfl, .inl (SqL.of (sm4 _ _ (sm2 _ _ hL))), _, rfl, N, _, rfl, .inl (SqL.of (sm4 _ _ hN)), ?_⟩
    refine ⟨_, _, rfl, rfl, .inl ⟨by decide, by decide⟩, _, _, rfl, rfl, d, l, _, rfl, D4, by omega, by omega, fun r H5 r0 r1 D5 kp5 => ?_⟩
    have kpH : Kept d l H H5 := (Kept.of ((sm1.trans sm2).trans sm4)).trans kp5
    have h5 : H5 q = some (.lst (us ++ (List.replicate (4 : Int).toNat ws).flatten)) := kp5 _ _ upd_same nq.1 nq.2
    have alA : All2 (ItAt H5) (us ++ (List.replicate (4 : Int).toNat ws).flatten) (someI ++ (List.replicate (4 : Int).toNat its).flatten) :=
      ((al1.mono fun _ _ h => ((h.same sm2).same sm4).kept D4 kp5)).app (rep_at (al2.mono fun _ _ h => (h.same sm4).kept D4 kp5) _)
    refine ix_item h5 alA r0 ?_ fun v' x' hm hv => k v' x' H5 D5 kpH hv ?_
    · have e4 : (4 : Int).toNat = 4 := rfl
      rw [List.length_append, rep_len, e4]
      have : someI.length = 18 := rfl
      omega
    · rcases List.mem_append.mp hm with h | h
      · exact some_bd _ h _
      · exact hits _ (rep_mem h)
end
end My

set_option Elab.async false
set_option linter.all false
set_option maxRecDepth 100000
set_option maxHeartbeats 1000000
namespace My
open PySem L2 MyR TL
/-! ### cuts -/
theorem cut_take (xs : List V) (k : Nat) : cutV xs none (some (k : Int)) = xs.take k := by
  unfold cutV
  rw [HT.sIx_nat]
  show (xs.drop 0).take (min k xs.length - 0) = xs.take k
  rw [List.drop_zero, Nat.sub_zero, List.take_eq_take_iff]
  omega
theorem cut_drop (xs : List V) (k : Nat) : cutV xs (some (k : Int)) none = xs.drop k := by
  unfold cutV
  rw [HT.sIx_nat]
  show (xs.drop (min k xs.length)).take (xs.length - min k xs.length) = xs.drop k
  rw [List.take_of_length_le (by rw [List.length_drop]; omega)]
  by_cases h : k ≤ xs.length
  · rw [Nat.min_eq_left h]
  · rw [Nat.min_eq_right (by omega), List.drop_length, List.drop_eq_nil_of_le (by omega)]
theorem sIx_m1 (n d : Nat) (h : 0 < n) : HT.sIx n d (some (-1)) = n - 1 := by
  show (if (-1 : Int) < 0 then ((-1 : Int) + (n : Int)).toNat else min (-1 : Int).toNat n) = n - 1
  rw [if_pos (by decide)]
  omega
theorem cut_init (xs : List V) (h : xs ≠ []) : cutV xs none (some (-1)) = xs.take (xs.length - 1) := by
  unfold cutV
  rw [sIx_m1 _ _ (List.length_pos_iff.mpr h)]
  show (xs.drop 0).take (xs.length - 1 - 0) = _
  rw [List.drop_zero, Nat.sub_zero]
theorem nw_take {xs : List V} {k : Nat} (h : k < xs.length) : ¬ (HT.sIx xs.length 0 none = 0 ∧ HT.sIx xs.length xs.length (some (k : Int)) = xs.length) := by
  rw [HT.sIx_nat]
  omega
theorem nw_drop {xs : List V} {k : Nat} (h : 0 < k) (hx : xs ≠ []) : ¬ (HT.sIx xs.length 0 (some (k : Int)) = 0 ∧ HT.sIx xs.length xs.length none = xs.length) := by
  rw [HT.sIx_nat]
  have := List.length_pos_iff.mpr hx
  omega
theorem nw_init {xs : List V} (h : xs ≠ []) : ¬ (HT.sIx xs.length 0 none = 0 ∧ HT.sIx xs.length xs.length (some (-1)) = xs.length) := by
  have := List.length_pos_iff.mpr h
  rw [sIx_m1 _ _ this]
  omega
theorem cat_any {K : PySem.W.Frag} {H : Hp} {a b : Addr} {xs ys : List V} {Q : VK} (ha : H a = some (.tup xs)) (hb : H b = some (.tup ys)) (hl : xs.length + ys.length ≤ sizeLine) (k : ∀ p H', Same H H' → H' p = some (.tup (xs ++ ys)) → Q (.ref p) H') : rCatA K (.ref a) (.ref b) H Q := by
  refine ⟨a, b, xs, ys, rfl, rfl, SqT.of ha, SqT.of hb, hl, fun e => ?_, fun _ e => ?_, fun _ _ p hp => k p _ (new_same hp) upd_same⟩
  · subst e
    exact k b H (Same.refl H) hb
  · subst e
    exact k a H (Same.refl H) (by rw [List.append_nil]; exact ha)
/-! ### texts joined -/
theorem strOk_iff {s : Str} : PyData.strOk s = true ↔ ∀ c ∈ tl s, c < 0x110000 := by
  unfold PyData.strOk tl
  rw [Array.all_eq_true']
  constructor
  · intro h c hc
    exact of_decide_eq_true (h c (Array.mem_toList_iff.mp hc))
  · intro h c hc
    exact decide_eq_true (h c (Array.mem_toList_iff.mpr hc))
theorem mem_joinL {S : List Nat} {c : Nat} : ∀ {ps : List (List Nat)}, c ∈ joinL S ps → c ∈ S ∨ ∃ p ∈ ps, c ∈ p
  | [], h => by cases h
  | [p], h => .inr ⟨p, List.mem_singleton.mpr rfl, h⟩
  | p :: q :: r, h => by
    rcases List.mem_append.mp h with h | h
    · exact .inr ⟨p, List.mem_cons_self, h⟩
    · rcases List.mem_append.mp h with h | h
      · exact .inl h
      · rcases mem_joinL h with h | ⟨x, hx, hc⟩
        · exact .inl h
        · exact .inr ⟨x, List.mem_cons_of_mem _ hx, hc⟩
theorem join_ok {a : Str} {ys : List Str} (ha : PyData.strOk a = true) (h : ∀ y ∈ ys, PyData.strOk y = true) : PyData.strOk (Txt.join a ys) = true := by
  rw [strOk_iff, join_eq, tl_join]
  intro c hc
  rcases mem_joinL hc with hc | ⟨p, hp, hc⟩
  · exact strOk_iff.mp ha c hc
  · obtain ⟨y, hy, rfl⟩ := List.mem_map.mp hp
    exact strOk_iff.mp (h y hy) c hc
theorem sum_le {ys : List Str} (h : ∀ y ∈ ys, y.length ≤ 2000) : (ys.map (·.length)).sum ≤ 2000 * ys.length := by
  induction ys with
  | nil => simp
  | cons y ys ih =>
    rw [List.map_cons, List.sum_cons, List.length_cons]
    have := h y List.mem_cons_self
    have := ih fun z hz => h z (List.mem_cons_of_mem _ hz)
    omega
theorem log2_lt {z : Int} {n : Nat} (h : z.natAbs ≤ 2 ^ 65 + n) (hn : n ≤ 100) : z.natAbs.log2 < 1920 := by
  by_cases h0 : z.natAbs = 0
  · rw [h0]; decide +kernel
  · refine (Nat.log2_lt h0).mpr ?_
    have : (2 : Nat) ^ 65 + 100 < 2 ^ 1920 := by decide +kernel
    omega
end My

set_option Elab.async false
set_option linter.all false
set_option maxRecDepth 100000
set_option maxHeartbeats 1000000
namespace My
open PySem L2 MyR
theorem ixN_nt {n j : Nat} (hj : j < n) : ixN n (j : Int) = some j := by
  unfold ixN
  rw [if_pos (by omega), if_pos (by omega)]
  simp
def spSpoilt : Sp := fun vs H Q _ => ∃ (d l q0 : Addr) (n : Nat) (rs : List Rv), vs = [.ref d, .ref q0] ∧ Deal H d l ∧ LsAt d l H n rs q0 ∧ n ≤ 10 ∧ ∀ q rs' H', Deal H' d l → Kept d l H H' → LsAt d l H' (n + 1) rs' q → Q (.ref q) H'
def leftR : Rv := .tup [.str "left", .int 0, .int 0]
def sixR : List Rv := [.lst [], .it .emp, .it .non, .it (.str "add"), .tup [.str "skip", .int 0, .int 1, .int 0, .int 0], .tup [.str "set", .int 0, .int 5]]
theorem left_bd (n : Nat) : RBd n leftR := by
  refine ⟨by show 3 ≤ 6 + n; omega, fun x hx => ?_⟩
  simp only [List.mem_cons, List.not_mem_nil, or_false] at hx
  rcases hx with rfl | rfl | rfl
  · show Str.length _ ≤ 10
    decide +kernel
  · show Int.natAbs _ ≤ _
    omega
  · show Int.natAbs _ ≤ _
    omega
theorem six_bd (n : Nat) : ∀ r ∈ sixR, RBd n r := by
  intro r hr
  simp only [sixR, List.mem_cons, List.not_mem_nil, or_false] at hr
  rcases hr with rfl | rfl | rfl | rfl | rfl | rfl
  · exact ⟨by show 0 ≤ 6 + n; omega, fun x hx => by cases hx⟩
  · trivial
  · trivial
  · trivial
  · refine ⟨by show 5 ≤ 6 + n; omega, fun x hx => ?_⟩
    simp only [List.mem_cons, List.not_mem_nil, or_false] at hx
    rcases hx with rfl | rfl | rfl | rfl | rfl
    · show Str.length _ ≤ 10
      decide +kernel
    all_goals (show Int.natAbs _ ≤ _; omega)
  · refine ⟨by show 3 ≤ 6 + n; omega, fun x hx => ?_⟩
    simp only [List.mem_cons, List.not_mem_nil, or_false] at hx
    rcases hx with rfl | rfl | rfl
    · show Str.length _ ≤ 10
      decide +kernel
    all_goals (show Int.natAbs _ ≤ _; omega)
theorem LsAt.new {d l q : Addr} {H : Hp} {n : Nat} {rs : List Rv} {vs : List V} (D : Deal H d l) (hq : H q = none) (al : RvsAt d l H vs rs) (len : rs.length ≤ 20 + n) (bd : ∀ r ∈ rs, RBd n r) : LsAt d l (upd H q (.lst vs)) n rs q :=
  ⟨(D.free hq).1, (D.free hq).2, ⟨vs, upd_same, al.mono fun _ _ => RvAt.same (new_same hq)⟩, len, bd⟩
section
variable {P : Program} {w : World} {K : PySem.W.Frag} {mg : Str → Option Value} {base : Heap}
abbrev s_law_spoilt : Stmt := top 39
abbrev N_law_spoilt : List Str := ["_law_deal_here", "_law_rows", "_law_at", "_law_form", "_law_found", "_law_row_here", "_law_place", "_law_text", "_law_one"]
theorem sc_law_spoilt : FnScope N_law_spoilt ["_law_deal_here", "_law_rows"] (defScope s_law_spoilt) := ⟨rfl, rfl, rfl, by decide +kernel, rfl, by decide +kernel, by decide +kernel⟩
theorem ok_law_spoilt {f : Addr} {fd : FuncData} (F : Fun K "_law_spoilt" "_law_spoilt" s_law_spoilt f fd) (T : Glob mg) (D_law_draw : Df P w K mg base 1 "_law_draw" ["_law_deal_here", "_law_many"] spDraw) (D_law_odd_item : Df P w K mg base 2 "_law_odd_item" ["_law_deal_here", "_law_item"] spOdd) : FnOkG P w K mg base CX0 3 f fd ["_law_deal_here", "_law_rows"] spSpoilt := by
  refine okG F sc_law_spoilt (fun vs H Q E h => ?_) (fun cdv A hgd outer s H vs Q E hr h => ?_)
  · obtain ⟨d, l, q0, n, rs, rfl, _⟩ := h
    rfl
  · obtain ⟨d, l, q0, n, rs, rfl, D, hL, hn, k⟩ := h
    have nd := sc_law_spoilt.nd
    have hu := hu_of hr
    refine ⟨_, (pss_cons (ps_if (pt_cmpR (op_eqD hr.units) (pv 1) (pe_lst pa_nil) (nomark _))
    (pss_one (ps_ret (pe_slice sl_list (pe_slice sl_list (pe_lst (pa_cons (pe_lst pa_nil) (pa_cons (pe_tup pa_nil) (pa_cons pe_non (pa_cons pe_str (pa_cons (pe_tup (pa_cons pe_str (pa_cons pe_int (pa_cons pe_int (pa_cons pe_int (pa_cons pe_int pa_nil)))))) (pa_cons (pe_tup (pa_cons pe_str (pa_cons pe_int (pa_cons pe_int pa_nil)))) pa_nil))))))) (po_some (pe_call D_law_draw.ok (hr.mono (by decide)) (by rfl) D_law_draw.g D_law_draw.kp D_law_draw.b .nil pass0 (pa_cons (pv 0) (pa_cons pe_int pa_nil)))) po_none) po_none (po_some pe_int))))
    pss_nil)
    (pss_cons (ps_par3 (i := 2) (j := 3) (l := 4) rfl nd rfl rfl rfl (by decide) (by decide) (by decide) rfl rfl rfl (pa_cons (pe_call D_law_draw.ok (hr.mono (by decide)) (by rfl) D_law_draw.g D_law_draw.kp D_law_draw.b .nil pass0 (pa_cons (pv 0) (pa_cons (pe_callB call_len_seq (by rfl) T.g_len PySem.boot_len (pa_cons (pv 1) pa_nil)) pa_nil))) (pa_cons (pe_call D_law_draw.ok (hr.mono (by decide)) (by rfl) D_law_draw.g D_law_draw.kp D_law_draw.b .nil pass0 (pa_cons (pv 0) (pa_cons pe_int pa_nil))) (pa_cons (pe_callTy call_list_of (by rfl) T.g_list (by decide +kernel) (pa_cons (pv 1) pa_nil)) pa_nil))) (by rfl))
    (pss_cons (ps_set (i := 5) nd rfl (Or.inl rfl) (pe_ix ix_list (pv 4) (pv 2) (fun _ _ => rfl)))
    (pss_cons (ps_if (pt_cmpR op_eq (pv 3) pe_int (nomark _))
    (pss_one (ps_ret (pe_op op_cat (pe_slice sl_list (pv 4) po_none (po_some (pv 2))) (pe_slice sl_list (pv 4) (po_some (pe_op op_add (pv 2) pe_int)) po_none))))
    pss_nil)
    (pss_cons (ps_if (pt_cmpR op_eq (pv 3) pe_int (nomark _))
    (pss_one (ps_ret (pe_op op_cat (pe_op op_cat (pe_slice sl_list (pv 4) po_none (po_some (pv 2))) (pe_lst (pa_cons (pv 5) pa_nil))) (pe_slice sl_list (pv 4) (po_some (pv 2)) po_none))))
    pss_nil)
    (pss_cons (ps_if (PW.pt (pw_or (pt_not (pt_val (pe_callB call_isi (by rfl) T.g_isinstance (by decide +kernel) (pa_cons (pv 5) (pa_cons (pe_bltn (v := .ty "tuple") (by rfl) T.g_tuple (by decide +kernel) rfl) pa_nil))))) (pw_or1 (pt_cmpR (op_eqD hr.units) (pv 5) (pe_tup pa_nil) (nomark _)))))
    (pss_one (ps_ret (pe_op op_cat (pe_op op_cat (pe_slice sl_list (pv 4) po_none (po_some (pv 2))) (pe_lst (pa_cons (pe_tup (pa_cons pe_str (pa_cons pe_int (pa_cons pe_int pa_nil)))) pa_nil))) (pe_slice sl_list (pv 4) (po_some (pe_op op_add (pv 2) pe_int)) po_none))))
    pss_nil)
    (pss_cons (ps_set (i := 6) nd rfl (Or.inl rfl) (pe_call D_law_draw.ok (hr.mono (by decide)) (by rfl) D_law_draw.g D_law_draw.kp D_law_draw.b .nil pass0 (pa_cons (pv 0) (pa_cons (pe_callB call_len_seq (by rfl) T.g_len PySem.boot_len (pa_cons (pv 5) pa_nil)) pa_nil))))
    (pss_cons (ps_if (pt_cmpR op_eq (pv 3) pe_int (nomark _))
    (pss_cons (ps_set (i := 7) nd rfl (Or.inl rfl) (pe_join pe_str (pe_lc (own := [("_law_one", 8)]) (g := gName 8) (tt := tYes) rfl nd (pi_tup (pv 5)) (blkOk_by (N := N_law_spoilt) (sc := defScope s_law_spoilt) (by decide +kernel)) (fun _ _ _ _ _ => pg_name (i := 8) nd rfl (Or.inl rfl)) (fun _ _ _ _ _ => pts_nil) (fun _ _ _ _ _ => (pe_callTy (call_strI hgd hr.units) (by rfl) T.g_str (by decide +kernel) (pa_cons (pv 8) pa_nil))))))
    (pss_one (ps_asg (pe_ix ix_list (pe_lst (pa_cons (pe_callTy call_list_of (by rfl) T.g_list (by decide +kernel) (pa_cons (pv 5) pa_nil)) (pa_cons (pe_slice sl_tup (pv 5) po_none (po_some (pe_un un_neg pe_int))) (pa_cons (pe_op op_catA (pv 5) (pe_tup (pa_cons pe_int pa_nil))) (pa_cons (pe_tup pa_nil) (pa_cons (pe_ix ix_tup (pv 5) pe_int (fun _ _ => rfl)) (pa_cons pe_non (pa_cons pe_int (pa_cons (pv 7) pa_nil))))))))) (pe_call D_law_draw.ok (hr.mono (by decide)) (by rfl) D_law_draw.g D_law_draw.kp D_law_draw.b .nil pass0 (pa_cons (pv 0) (pa_cons pe_int pa_nil))) (fun _ _ => rfl)) (pg_sub (pv 4) (pv 2) set_list))))
    (pss_one (ps_if (pt_cmpR op_eq (pv 3) pe_int (nomark _))
    (pss_one (ps_asg (pe_op op_catA (pe_slice sl_tup (pv 5) po_none (po_some (pe_un un_neg pe_int))) (pe_tup (pa_cons (pe_call D_law_odd_item.ok (hr.mono (by decide)) (by rfl) D_law_odd_item.g D_law_odd_item.kp D_law_odd_item.b .nil pass0 (pa_cons (pv 0) (pa_cons (pe_ix ix_tup (pv 5) (pe_un un_neg pe_int) (fun _ _ => rfl)) pa_nil))) pa_nil))) (pg_sub (pv 4) (pv 2) set_list)))
    (pss_one (ps_asg (pe_op op_catA (pe_op op_catA (pe_slice sl_tup (pv 5) po_none (po_some (pv 6))) (pe_tup (pa_cons (pe_call D_law_odd_item.ok (hr.mono (by decide)) (by rfl) D_law_odd_item.g D_law_odd_item.kp D_law_odd_item.b .nil pass0 (pa_cons (pv 0) (pa_cons (pe_ix ix_tup (pv 5) (pv 6) (fun _ _ => rfl)) pa_nil))) pa_nil))) (pe_slice sl_tup (pv 5) (po_some (pe_op op_add (pv 6) pe_int)) po_none)) (pg_sub (pv 4) (pv 2) set_list))))))
    (pss_one (ps_ret (pv 4))))))))))), ?_⟩
    obtain ⟨vs, h0, al⟩ := hL.ex
    have hvl := al.len
    obtain ⟨dp, lay, dep⟩ := rvs_dp (K := K) al
    refine ⟨_, rfl, by show 0 ≤ sizeLine; decide, fun e he => ?_⟩
    have s1 := new_same (o := .lst []) he
    have al1 := al.mono fun _ _ => RvAt.same s1
    refine ⟨_, .list [], .lst (SqL.of (s1 _ _ h0)) (rvs_dp (K := K) al1).1, .lst (SqL.of upd_same) .nil, lst_shape lay dep, rfl, ?_⟩
    rw [rs_eqv_nil]
    refine ⟨_, rfl, ?_⟩
    have D1 := D.new (o := .lst []) he
    have kp1 : Kept d l H (upd H e (.lst [])) := Kept.of s1
    have h1 := s1 _ _ h0
    generalize upd H e (.lst []) = H1 at D1 kp1 h1 al1 ⊢
    by_cases hz : rs = []
    · subst hz
      refine iteT ?_
      refine ⟨by show 0 ≤ sizeLine; decide, fun a ha => ?_⟩
      have Da := D1.new (o := .lst []) ha
      have sa := new_same (o := .lst []) ha
      have fa := D1.free ha
      have va : upd H1 a (.lst []) a = some (.lst []) := upd_same
      have kpa : Kept d l H (upd H1 a (.lst [])) := kp1.trans (Kept.of sa)
      generalize upd H1 a (.lst []) = H2 at Da sa va kpa ⊢
      refine ⟨by show 0 ≤ sizeLine; decide, fun b hb => ?_⟩
      have Db := Da.new (o := .tup []) hb
      have sb := new_same (o := .tup []) hb
      have vb : upd H2 b (.tup []) b = some (.tup []) := upd_same
      have kpb : Kept d l H (upd H2 b (.tup [])) := kpa.trans (Kept.of sb)
      generalize upd H2 b (.tup []) = H3 at Db sb vb kpb ⊢
      refine ⟨by show 5 ≤ sizeLine; decide, fun c hc => ?_⟩
      have Dc := Db.new (o := .tup [.str "skip", .int 0, .int 1, .int 0, .int 0]) hc
      have sc := new_same (o := .tup [.str "skip", .int 0, .int 1, .int 0, .int 0]) hc
      have vc : upd H3 c (.tup [.str "skip", .int 0, .int 1, .int 0, .int 0]) c = some (.tup [.str "skip", .int 0, .int 1, .int 0, .int 0]) := upd_same
      have kpc : Kept d l H (upd H3 c (.tup [.str "skip", .int 0, .int 1, .int 0, .int 0])) := kpb.trans (Kept.of sc)
      generalize upd H3 c (.tup [.str "skip", .int 0, .int 1, .int 0, .int 0]) = H4 at Dc sc vc kpc ⊢
      refine ⟨by show 3 ≤ sizeLine; decide, fun g hg => ?_⟩
      have Dg := Dc.new (o := .tup [.str "set", .int 0, .int 5]) hg
      have sg' := new_same (o := .tup [.str "set", .int 0, .int 5]) hg
      have vg : upd H4 g (.tup [.str "set", .int 0, .int 5]) g = some (.tup [.str "set", .int 0, .int 5]) := upd_same
      have kpg : Kept d l H (upd H4 g (.tup [.str "set", .int 0, .int 5])) := kpc.trans (Kept.of sg')
      generalize upd H4 g (.tup [.str "set", .int 0, .int 5]) = H5 at Dg sg' vg kpg ⊢
      have six : RvsAt d l H5 [.ref a, .ref b, .non, .str "add", .ref c, .ref g] sixR := by
        have i3 : ∀ {H : Hp} {w : Str} (hw : PyData.strOk w = true), All2 (ItAt H) [.str w, .int 0, .int 5] [.str w, .int 0, .int 5] := fun hw => .cons ⟨rfl, hw⟩ (.cons rfl (.cons rfl .nil))
        refine .cons ⟨a, [], rfl, fa.1, fa.2, sg' _ _ (sc _ _ (sb _ _ va)), .nil⟩ (.cons ⟨b, rfl, sg' _ _ (sc _ _ vb)⟩ (.cons rfl (.cons ⟨rfl, by decide +kernel⟩ (.cons ⟨c, _, rfl, sg' _ _ vc, .cons ⟨rfl, by decide +kernel⟩ (.cons rfl (.cons rfl (.cons rfl (.cons rfl .nil))))⟩ (.cons ⟨g, _, rfl, vg, i3 (by decide +kernel)⟩ .nil)))))
      refine ⟨by show 6 ≤ sizeLine; decide, fun L hLn => ?_⟩
      obtain ⟨nLd, nLl⟩ := Dg.free hLn
      refine ⟨_, rfl, d, l, _, rfl, Dg.new hLn, by decide, by decide, fun r H6 r0 r1 D6 kp6 => ?_⟩
      obtain ⟨j, rfl⟩ : ∃ j : Nat, r = (j : Int) := ⟨r.toNat, by omega⟩
      have h6 := kp6 _ _ upd_same nLd nLl
      have al6 : RvsAt d l H6 [.ref a, .ref b, .non, .str "add", .ref c, .ref g] sixR := (six.mono fun _ _ => RvAt.same (new_same hLn)).mono fun _ _ => RvAt.kept (Dg.new hLn) kp6
      have kpA : Kept d l H H6 := (kpg.trans (Kept.of (new_same hLn))).trans kp6
      refine ⟨_, rfl, L, _, rfl, SqL.of h6, fun p hp => ?_⟩
      refine ⟨_, rfl, p, _, rfl, SqL.of upd_same, fun p2 hp2 => ?_⟩
      rw [cut_drop, show ((1 : Int)) = ((1 : Nat) : Int) from rfl, cut_take] at *
      have D7 := D6.new (o := .lst ([V.ref a, V.ref b, V.non, V.str "add", V.ref c, V.ref g].drop j)) hp
      have s7 := new_same (o := .lst ([V.ref a, V.ref b, V.non, V.str "add", V.ref c, V.ref g].drop j)) hp
      refine k p2 ((sixR.drop j).take 1) _ (D7.new hp2) ((kpA.trans (Kept.of s7)).trans (Kept.of (new_same hp2))) (LsAt.new D7 hp2 (((al6.mono fun _ _ => RvAt.same s7).drop j).take 1) ?_ fun r hr => six_bd _ r (List.mem_of_mem_drop (List.mem_of_mem_take hr)))
      have := List.length_take_le 1 (sixR.drop j)
      omega
    · have hpos : 0 < rs.length := List.length_pos_iff.mpr hz
      have hemp : (rs.map Rv.d).isEmpty = false := by cases rs with | nil => exact absurd rfl hz | cons _ _ => rfl
      rw [hemp]
      refine iteF ?_
      have hlen := hL.len
      refine ⟨_, rfl, _, rfl, q0, _, rfl, .inl (SqL.of h1), d, l, _, rfl, D1, by omega, by omega, fun r H2 r0 r1 D2 kp2 => ?_⟩
      refine ⟨_, rfl, d, l, _, rfl, D2, by decide, by decide, fun fo H3 f0 f1 D3 kp3 => ?_⟩
      obtain ⟨at_, rfl⟩ : ∃ j : Nat, r = (j : Int) := ⟨r.toNat, by omega⟩
      have hat : at_ < rs.length := by omega
      have kp13 := kp2.trans kp3
      have h3 := kp13 _ _ h1 hL.nd hL.nl
      have al3 := al1.mono fun _ _ => RvAt.kept D1 kp13
      refine ⟨_, rfl, q0, _, rfl, .inl (SqL.of h3), fun G hG => ?_⟩
      have s4 := new_same (o := .lst vs) hG
      have D4 := D3.new (o := .lst vs) hG
      obtain ⟨nGd, nGl⟩ := D3.free hG
      have kp4 : Kept d l H (upd H3 G (.lst vs)) := (kp1.trans kp13).trans (Kept.of s4)
      have kpG : ∀ {H' : Hp}, Kept d l (upd H3 G (.lst vs)) H' → Kept d l H3 H' := fun kp => (Kept.of s4).trans kp
      have vG : upd H3 G (.lst vs) G = some (.lst vs) := upd_same
      have al4 := al3.mono fun _ _ => RvAt.same s4
      have kp03 : Kept d l H H3 := kp1.trans kp13
      generalize upd H3 G (.lst vs) = H4 at s4 D4 kp4 kpG vG al4 ⊢
      refine ⟨_, _, _, rfl, ?_⟩
      obtain ⟨v, hv, hvr⟩ := al4.get (List.getElem?_eq_getElem hat)
      have hatv : at_ < vs.length := by omega
      have hrow := hL.bd _ (List.getElem_mem hat)
      refine ⟨_, rfl, _, rfl, G, _, _, v, rfl, rfl, SqL.of vG, atI_nat hv, ?_⟩
      have bdT : ∀ r ∈ rs.take at_, RBd (n + 1) r := fun r hr => (hL.bd r (List.mem_of_mem_take hr)).up
      have bdD : ∀ k, ∀ r ∈ rs.drop k, RBd (n + 1) r := fun k r hr => (hL.bd r (List.mem_of_mem_drop hr)).up
      have e1 : ((at_ : Int) + 1) = ((at_ + 1 : Nat) : Int) := by omega
      -- form 0: a row left out
      refine ⟨_, rfl, rfl, _, rfl, ?_⟩
      refine ite2 (fun _ => ?_) (fun hf0 => ?_)
      · refine ⟨_, rfl, _, rfl, _, rfl, G, _, rfl, SqL.of vG, fun p hp => ?_⟩
        have s5 := new_same (o := .lst (cutV vs none (some (at_ : Int)))) hp
        refine ⟨_, rfl, _, rfl, _, _, rfl, rfl, _, rfl, G, _, rfl, SqL.of (s5 _ _ vG), fun p2 hp2 => ?_⟩
        have s6 := new_same (o := .lst (cutV vs (some ((at_ : Int) + 1)) none)) hp2
        refine ⟨p, p2, _, _, rfl, rfl, s6 _ _ upd_same, upd_same, ?_, fun p3 hp3 => ?_⟩
        · rw [e1, cut_take, cut_drop, List.length_take, List.length_drop]
          exact Nat.le_of_lt (small1000 (by omega))
        · have s7 := s5.trans s6
          rw [e1] at s6 hp3 ⊢
          rw [cut_take, cut_drop] at hp3 ⊢
          rw [e1, cut_take] at s7
          rw [cut_drop] at s7
          refine k p3 (rs.take at_ ++ rs.drop (at_ + 1)) _ ((D4.same s7).new hp3) ((kp4.trans (Kept.of s7)).trans (Kept.of (new_same hp3))) (LsAt.new (D4.same s7) hp3 (((al4.mono fun _ _ => RvAt.same s7).take at_).app ((al4.mono fun _ _ => RvAt.same s7).drop (at_ + 1))) ?_ ?_)
          · rw [List.length_append, List.length_take, List.length_drop]
            omega
          · intro r hr
            rcases List.mem_append.mp hr with h | h
            · exact bdT r h
            · exact bdD _ r h
      -- form 1: a row twice
      refine ⟨_, rfl, rfl, _, rfl, ?_⟩
      refine ite2 (fun _ => ?_) (fun hf1 => ?_)
      · refine ⟨_, rfl, _, rfl, _, rfl, G, _, rfl, SqL.of vG, fun p hp => ?_⟩
        rw [cut_take]
        have s5 := new_same (o := .lst (vs.take at_)) hp
        refine ⟨_, rfl, by show 1 ≤ sizeLine; decide, fun q hq => ?_⟩
        have s6 := s5.trans (new_same (o := .lst [v]) hq)
        refine ⟨p, q, _, _, rfl, rfl, new_same hq _ _ upd_same, upd_same, ?_, fun u hu0 => ?_⟩
        · rw [List.length_take]
          exact Nat.le_of_lt (small1000 (by show min at_ vs.length + 1 ≤ 1000; omega))
        have s7 := s6.trans (new_same (o := .lst (vs.take at_ ++ [v])) hu0)
        refine ⟨_, rfl, _, rfl, _, rfl, G, _, rfl, SqL.of (s7 _ _ vG), fun w hw => ?_⟩
        rw [cut_drop]
        have s8 := s7.trans (new_same (o := .lst (vs.drop at_)) hw)
        refine ⟨u, w, _, _, rfl, rfl, new_same hw _ _ upd_same, upd_same, ?_, fun z hz => ?_⟩
        · rw [List.length_append, List.length_take, List.length_drop]
          exact Nat.le_of_lt (small1000 (by show min at_ vs.length + 1 + (vs.length - at_) ≤ 1000; omega))
        have al8 := al4.mono fun _ _ => RvAt.same s8
        refine k z (rs.take at_ ++ [rs[at_]] ++ rs.drop at_) _ ((D4.same s8).new hz) ((kp4.trans (Kept.of s8)).trans (Kept.of (new_same hz))) (LsAt.new (D4.same s8) hz (((al8.take at_).app (.cons (hvr.same s8) .nil)).app (al8.drop at_)) ?_ ?_)
        · rw [List.length_append, List.length_append, List.length_take, List.length_drop]
          show min at_ rs.length + 1 + (rs.length - at_) ≤ 20 + (n + 1)
          omega
        · intro r hr
          rcases List.mem_append.mp hr with h | h
          · rcases List.mem_append.mp h with h | h
            · exact bdT r h
            · rw [List.mem_singleton.mp h]
              exact hrow.up
          · exact bdD _ r h
      -- no tuple, or an empty one
      obtain ⟨tT, hTy, hkit⟩ := rv_tup (K := K) hvr
      have other : ∀ (H5 : Hp), Same H4 H5 → tOp rCat (tOp rCat (tSl (rSlL K) (tVar 4) tNoPart (tPart (tVar 2))) (tLst (tCons (tTup (tCons (tC (.str "left")) (tCons (tC (.int 0)) (tCons (tC (.int 0)) tNil)))) tNil))) (tSl (rSlL K) (tVar 4) (tPart (tOp (rI0 fun i j => V.int (i + j)) (tVar 2) (tC (.int 1)))) tNoPart) [some (.ref d), some (.ref q0), some (.int (at_ : Int)), some (.int fo), some (.ref G), some v, none, none, none] H5 Q := by
        intro H5 s45
        have vG5 := s45 _ _ vG
        refine ⟨_, rfl, _, rfl, _, rfl, G, _, rfl, SqL.of vG5, fun p hp => ?_⟩
        rw [cut_take]
        have s5 := new_same (o := .lst (vs.take at_)) hp
        refine ⟨by show 3 ≤ sizeLine; decide, fun m hm => ?_⟩
        have s5m := s5.trans (new_same (o := .tup [.str "left", .int 0, .int 0]) hm)
        have hml0 : RvAt d l (upd (upd H5 p (.lst (vs.take at_))) m (.tup [.str "left", .int 0, .int 0])) (.ref m) leftR := ⟨m, [.str "left", .int 0, .int 0], rfl, upd_same, .cons ⟨rfl, by decide +kernel⟩ (.cons rfl (.cons rfl .nil))⟩
        refine ⟨by show 1 ≤ sizeLine; decide, fun q hq => ?_⟩
        have s6 := s5m.trans (new_same (o := .lst [.ref m]) hq)
        refine ⟨p, q, _, _, rfl, rfl, new_same hq _ _ (new_same hm _ _ upd_same), upd_same, ?_, fun u hu0 => ?_⟩
        · rw [List.length_take]
          exact Nat.le_of_lt (small1000 (by show min at_ vs.length + 1 ≤ 1000; omega))
        have s7 := s6.trans (new_same (o := .lst (vs.take at_ ++ [.ref m])) hu0)
        refine ⟨_, rfl, _, rfl, _, _, rfl, rfl, _, rfl, G, _, rfl, SqL.of (s7 _ _ vG5), fun w hw => ?_⟩
        rw [e1, cut_drop]
        have s8 := s7.trans (new_same (o := .lst (vs.drop (at_ + 1))) hw)
        refine ⟨u, w, _, _, rfl, rfl, new_same hw _ _ upd_same, upd_same, ?_, fun z hz => ?_⟩
        · rw [List.length_append, List.length_take, List.length_drop]
          exact Nat.le_of_lt (small1000 (by show min at_ vs.length + 1 + (vs.length - (at_ + 1)) ≤ 1000; omega))
        have s48 := s45.trans s8
        have al8 := al4.mono fun _ _ => RvAt.same s48
        have hml := hml0.same ((new_same (o := .lst [.ref m]) hq).trans ((new_same (o := .lst (vs.take at_ ++ [.ref m])) hu0).trans (new_same (o := .lst (vs.drop (at_ + 1))) hw)))
        refine k z (rs.take at_ ++ [leftR] ++ rs.drop (at_ + 1)) _ ((D4.same s48).new hz) ((kp4.trans (Kept.of s48)).trans (Kept.of (new_same hz))) (LsAt.new (D4.same s48) hz (((al8.take at_).app (.cons hml .nil)).app (al8.drop (at_ + 1))) ?_ ?_)
        · rw [List.length_append, List.length_append, List.length_take, List.length_drop]
          show min at_ rs.length + 1 + (rs.length - (at_ + 1)) ≤ 20 + (n + 1)
          omega
        · intro r hr
          rcases List.mem_append.mp hr with h | h
          · rcases List.mem_append.mp h with h | h
            · exact bdT r h
            · rw [List.mem_singleton.mp h]
              exact left_bd _
          · exact bdD _ r h
      refine ⟨_, rfl, _, _, tT, _, _, rfl, .ty "tuple", hTy, hkit, _, rfl, ?_⟩
      cases hT : rs[at_].bT with
      | false => exact other H4 (Same.refl H4)
      | true =>
      obtain ⟨p, us, rfl, hp, hal⟩ := tup_at hvr hT
      obtain ⟨dp5, lay5, dep5⟩ := rv_dp (K := K) hvr
      refine ⟨_, rfl, by show 0 ≤ sizeLine; decide, fun e2 he2 => ?_⟩
      have s5 := new_same (o := .tup []) he2
      have e5 : rs[at_].d = .tuple (rs[at_].its.map It.d) := by
        cases hR : rs[at_] with
        | it x =>
          rw [hR] at hT
          cases x <;> first | rfl | cases hT
        | tup xs => rfl
        | lst xs => rw [hR] at hT; cases hT
      refine ⟨_, .tuple [], (rv_dp (K := K) (hvr.same s5)).1, .tup (SqT.of upd_same) .nil, d_shape lay5 dep5, rfl, ?_⟩
      rw [e5, tup_eqv_nil]
      refine ⟨_, rfl, ?_⟩
      refine ite2 (fun _ => other _ s5) (fun hne => ?_)
      have D5 := D4.new (o := .tup []) he2
      have kp5 := kp4.trans (Kept.of s5)
      have vG5 := s5 _ _ vG
      have al5 := al4.mono fun _ _ => RvAt.same s5
      have hp5 := s5 _ _ hp
      have hal5 := hal.mono fun _ _ => ItAt.same s5
      have s5' : Same H4 (upd H4 e2 (.tup [])) := s5
      generalize upd H4 e2 (.tup []) = H5 at D5 kp5 vG5 al5 hp5 hal5 s5' ⊢
      have hne : rs[at_].its ≠ [] := by
        intro e
        rw [e] at hne
        exact hne rfl
      have er := good_tup hT hne
      obtain ⟨xs, hxs⟩ : ∃ xs, rs[at_].its = xs := ⟨_, rfl⟩
      rw [hxs] at hal5 er hne
      rw [er] at hrow
      obtain ⟨hrl, hrb⟩ := hrow
      have hul := hal5.len
      have hus : us ≠ [] := by intro e; rw [e] at hul; exact hne (List.eq_nil_of_length_eq_zero hul.symm)
      have hxpos := List.length_pos_iff.mpr hne
      have hupos := List.length_pos_iff.mpr hus
      -- what comes of it: the row at its place is another one
      have done_ : ∀ (H' : Hp) (y : V) (rv : Rv), Deal H' d l → Kept d l H5 H' → RvAt d l H' y rv → (∀ ys p, rv = .lst ys → y = .ref p → p ≠ G) → RBd (n + 1) rv → H' G = some (.lst vs) ∧ Q (.ref G) (upd H' G (.lst (vs.set at_ y))) := by
        intro H' y rv D' kp' hy hnG hb
        have g' : H' G = some (.lst vs) := kp' _ _ vG5 nGd nGl
        have itU : ∀ {v : V} {x : It}, ItAt H' v x → ItAt (upd H' G (.lst (vs.set at_ y))) v x := fun {v x} h => by
          cases x with
          | emp => obtain ⟨p, e, z⟩ := h; exact ⟨p, e, by rw [upd_ne (ne_of z g' (by intro z; cases z))]; exact z⟩
          | int z => exact h
          | bl b => exact h
          | non => exact h
          | str z => exact h
        have hyU : RvAt d l (upd H' G (.lst (vs.set at_ y))) y rv := by
          cases rv with
          | it i => exact itU hy
          | tup xs => obtain ⟨p, ws, e, z, al⟩ := hy; exact ⟨p, ws, e, by rw [upd_ne (ne_of z g' (by intro z; cases z))]; exact z, al.mono fun _ _ => itU⟩
          | lst xs => obtain ⟨p, ws, e, m1, m2, z, al⟩ := hy; exact ⟨p, ws, e, m1, m2, by rw [upd_ne (hnG xs p rfl e)]; exact z, al.mono fun _ _ => itU⟩
        have kpA : Kept d l H3 (upd H' G (.lst (vs.set at_ y))) := (kpG ((Kept.of s5').trans kp')).new hG
        refine ⟨g', k G (rs.set at_ rv) _ (D'.other nGd nGl) (kp03.trans kpA) ⟨nGd, nGl, ⟨_, upd_same, ((al3.mono fun _ _ => RvAt.kept D3 kpA)).set at_ hyU⟩, ?_, ?_⟩⟩
        · rw [List.length_set]
          omega
        · intro r hr
          rcases List.mem_or_eq_of_mem_set hr with h | h
          · exact (hL.bd r h).up
          · rw [h]; exact hb
      refine ⟨_, rfl, _, rfl, p, _, rfl, .inr (SqT.of hp5), d, l, _, rfl, D5, by omega, by omega, fun z H6 z0 z1 D6 kp6 => ?_⟩
      obtain ⟨pl, rfl⟩ : ∃ j : Nat, z = (j : Int) := ⟨z.toNat, by omega⟩
      have hpl : pl < us.length := by omega
      have hp6 : H6 p = some (.tup us) := kp6 _ _ hp5 (D5.nt hp5).1 (D5.nt hp5).2
      have hal6 := hal5.mono fun _ _ => ItAt.kept D5 kp6
      refine ⟨_, rfl, rfl, _, rfl, ?_⟩
      refine ite2 (fun _ => ?_) (fun hf2 => ?_)
      · -- form 2
        refine ⟨⟨_, rfl⟩, _, rfl, p, rfl, ⟨_, SqT.of hp6⟩, fun L hLn => ?_⟩
        obtain ⟨nLd, nLl⟩ := D6.free hLn
        refine lc_it walk_tup (fun i H7 => Same H6 H7 ∧ ∃ ys : List Str, H7 L = some (.lst (ys.map V.str)) ∧ ys.length = i ∧ ∀ y ∈ ys, PyData.strOk y = true ∧ y.length ≤ 2000) ⟨new_same hLn, [], upd_same, rfl, fun y hy => by cases hy⟩ (fun i H7 _ h => SqT.of (h.1 _ _ hp6)) ?_ ?_
        · rintro i x H7 H8 hi ⟨s7, ys, h7, hl7, hy7⟩ ⟨rfl, hx⟩
          obtain ⟨w, hw, hwx⟩ := hal6.getL hx
          have hwx7 := hwx.same s7
          have hwb := hrb w (List.mem_of_getElem? hw)
          refine ⟨rfl, _, rfl, x, rfl, ?_, fun s hs hsl => ?_⟩
          · cases w with
            | int z => obtain rfl : x = .int z := hwx; exact .inl ⟨z, rfl, log2_lt (show z.natAbs ≤ 2 ^ 65 + n from hwb) (by omega)⟩
            | bl b => obtain rfl : x = .bl b := hwx; exact .inr (.inr (.inr (.inl ⟨b, rfl⟩)))
            | non => obtain rfl : x = .non := hwx; exact .inr (.inr (.inl rfl))
            | str z => obtain ⟨rfl, hz⟩ := hwx; exact .inr (.inl ⟨z, rfl, hz, Nat.le_trans (show z.length ≤ 10 from hwb) (by decide)⟩)
            | emp => obtain ⟨a, rfl, e⟩ := hwx7; exact .inr (.inr (.inr (.inr ⟨a, rfl, e⟩)))
          · refine ⟨_, h7, ?_, fun b o e => ?_, ys ++ [s], ?_, ?_, ?_⟩
            · rw [List.length_map, hl7]
              exact small1000 (by omega)
            · rw [upd_ne (ne_of_none e hLn)]
              exact s7 _ _ e
            · rw [upd_same, List.map_append]
              rfl
            · rw [List.length_append, hl7]
              rfl
            · intro y hy
              rcases List.mem_append.mp hy with h | h
              · exact hy7 y h
              · rw [List.mem_singleton.mp h]
                exact ⟨hs, hsl⟩
        · rintro H7 ⟨s7, ys, h7, hl7, hy7⟩
          have hsum := sum_le fun y hy => (hy7 y hy).2
          refine ⟨" ", L, ys, rfl, rfl, .inl (SqL.of h7), ?_, ?_⟩
          · have : (" " : Str).length = 1 := by decide +kernel
            rw [this]
            omega
          have hjoin : PyData.strOk (Txt.join " " ys) = true := join_ok (by decide +kernel) fun y hy => (hy7 y hy).1
          generalize Txt.join " " ys = txt at hjoin ⊢
          have kp7 := kp6.trans (Kept.of s7)
          have D7 := D6.same s7
          have hp7 := s7 _ _ hp6
          have hal7 := hal6.mono fun _ _ => ItAt.same s7
          refine ⟨_, rfl, p, us, rfl, .inr (SqT.of hp7), fun a ha => ?_⟩
          have sa := new_same (o := .lst us) ha
          have va : upd H7 a (.lst us) a = some (.lst us) := upd_same
          have fa := D7.free ha
          have naG : a ≠ G := Ne.symm (ne_of_none (kp7 _ _ vG5 nGd nGl) ha)
          generalize upd H7 a (.lst us) = H8 at sa va ⊢
          refine ⟨_, rfl, _, rfl, _, rfl, p, us, rfl, SqT.of (sa _ _ hp7), nw_init hus, fun b hb => ?_⟩
          rw [show cutV us none (some (-1)) = us.take (us.length - 1) from cut_init us hus]
          have sb := sa.trans (new_same (o := .tup (us.take (us.length - 1))) hb)
          have vb : upd H8 b (.tup (us.take (us.length - 1))) b = some (.tup (us.take (us.length - 1))) := upd_same
          have va' := new_same (o := .tup (us.take (us.length - 1))) hb _ _ va
          generalize upd H8 b (.tup (us.take (us.length - 1))) = H9 at sb vb va' ⊢
          refine ⟨_, rfl, by show 1 ≤ sizeLine; decide, fun c hc => ?_⟩
          have sc := sb.trans (new_same (o := .tup [.int 0]) hc)
          have sc' := new_same (o := .tup [.int 0]) hc
          refine cat_any (sc _ _ hp7) upd_same (Nat.le_of_lt (small1000 (by show us.length + 1 ≤ 1000; omega))) fun g H10 s10 hg => ?_
          have s710 := sc.trans s10
          have s910 := sc'.trans s10
          refine ⟨by show 0 ≤ sizeLine; decide, fun e he => ?_⟩
          have se := new_same (o := .tup []) he
          obtain ⟨v0, x0, hv0, hx0, hvx0⟩ : ∃ v0 x0, us[0]? = some v0 ∧ xs[0]? = some x0 ∧ ItAt H7 v0 x0 := by
            obtain ⟨v0, h1, h2⟩ := hal7.get (List.getElem?_eq_getElem hxpos)
            exact ⟨v0, xs[0], h1, List.getElem?_eq_getElem hxpos, h2⟩
          have s711 := s710.trans se
          have s911 := s910.trans se
          refine ⟨_, rfl, p, us, _, v0, rfl, rfl, SqT.of (s711 _ _ hp7), atI_nat (j := 0) hv0, ?_⟩
          refine ⟨_, rfl, by show 8 ≤ sizeLine; decide, fun L2 hL2 => ?_⟩
          have e2 := se _ _ hg
          have e3 : upd H10 e (.tup []) e = some (.tup []) := upd_same
          generalize upd H10 e (.tup []) = H11 at s711 s911 hL2 e2 e3 ⊢
          have hal11 := hal7.mono fun _ _ => ItAt.same s711
          let R : V → Rv → Prop := fun v r => RvAt d l H11 v r ∧ (∀ ys p, r = .lst ys → v = .ref p → p ≠ G) ∧ RBd (n + 1) r
          have all8 : All2 R [.ref a, .ref b, .ref g, .ref e, v0, .non, .int 7, .str txt] [.lst xs, .tup (xs.take (xs.length - 1)), .tup (xs ++ [.int 0]), .it .emp, .it x0, .it .non, .it (.int 7), .it (.str txt)] := by
            refine .cons ⟨⟨a, us, rfl, fa.1, fa.2, s911 _ _ va', hal11⟩, fun ys p _ h => by rw [← V.ref.inj h]; exact naG, by show _ ≤ _; omega, fun x hx => (hrb x hx).up⟩ (.cons ⟨⟨b, _, rfl, s911 _ _ vb, ?_⟩, fun ys p h => (by cases h), by show _ ≤ _; rw [List.length_take]; omega, fun x hx => (hrb x (List.mem_of_mem_take hx)).up⟩ (.cons ⟨⟨g, _, rfl, e2, hal11.app (.cons rfl .nil)⟩, fun ys p h => (by cases h), by show _ ≤ _; rw [List.length_append]; show xs.length + 1 ≤ _; omega, fun x hx => ?_⟩
              (.cons ⟨⟨e, rfl, e3⟩, fun ys p h => (by cases h), trivial⟩ (.cons ⟨hvx0.same s711, fun ys p h => (by cases h), trivial⟩ (.cons ⟨rfl, fun ys p h => (by cases h), trivial⟩ (.cons ⟨rfl, fun ys p h => (by cases h), trivial⟩ (.cons ⟨⟨rfl, hjoin⟩, fun ys p h => (by cases h), trivial⟩ .nil)))))))
            · rw [hul]
              exact hal11.take _
            · rcases List.mem_append.mp hx with h | h
              · exact (hrb x h).up
              · rw [List.mem_singleton.mp h]
                show Int.natAbs 0 ≤ _
                omega
          have D11 := (D7.same s711).new (o := .lst [.ref a, .ref b, .ref g, .ref e, v0, .non, .int 7, .str txt]) hL2
          have fL2 := (D7.same s711).free hL2
          refine ⟨_, rfl, d, l, _, rfl, D11, by decide, by decide, fun r H12 r0 r1 D12 kp12 => ?_⟩
          obtain ⟨j, rfl⟩ : ∃ j : Nat, r = (j : Int) := ⟨r.toNat, by omega⟩
          have hj : j < ([.lst xs, .tup (xs.take (xs.length - 1)), .tup (xs ++ [.int 0]), .it .emp, .it x0, .it .non, .it (.int 7), .it (.str txt)] : List Rv).length := by show j < 8; omega
          obtain ⟨y, hy, hR1, hR2, hR3⟩ := all8.get (List.getElem?_eq_getElem hj)
          refine ⟨L2, _, _, y, rfl, rfl, SqL.of (kp12 _ _ upd_same fL2.1 fL2.2), atI_nat hy, ?_⟩
          have kp512 : Kept d l H5 H12 := ((kp7.trans (Kept.of s711)).trans (Kept.of (new_same hL2))).trans kp12
          obtain ⟨gG, q⟩ := done_ H12 y _ D12 kp512 ((hR1.same (new_same hL2)).kept D11 kp12) hR2 hR3
          refine ⟨_, rfl, _, rfl, G, _, _, at_, rfl, rfl, gG, ixN_nt hatv, ?_⟩
          exact ⟨_, rfl, q⟩
      · refine ⟨_, rfl, rfl, _, rfl, ?_⟩
        refine ite2 (fun _ => ?_) (fun hf3 => ?_)
        · -- form 3
          have hlast : xs.length - 1 < xs.length := by omega
          obtain ⟨v0, hv0, hvx0⟩ := hal6.get (List.getElem?_eq_getElem hlast)
          refine ⟨_, rfl, _, rfl, _, rfl, p, us, rfl, SqT.of hp6, nw_init hus, fun a ha => ?_⟩
          rw [show cutV us none (some (-1)) = us.take (us.length - 1) from cut_init us hus]
          have sa := new_same (o := .tup (us.take (us.length - 1))) ha
          have va : upd H6 a (.tup (us.take (us.length - 1))) a = some (.tup (us.take (us.length - 1))) := upd_same
          have D7 := D6.new (o := .tup (us.take (us.length - 1))) ha
          generalize upd H6 a (.tup (us.take (us.length - 1))) = H7 at sa va D7 ⊢
          have hneg : atI us (-1) = some v0 := by
            have : us.length - 1 = xs.length - 1 := by omega
            rw [← hv0, ← this]
            unfold atI ixN
            rw [if_neg (by omega), if_pos (by omega)]
            show us[((-1 : Int) + (us.length : Int)).toNat]? = _
            congr 1
            omega
          refine ⟨_, rfl, _, rfl, _, rfl, p, us, _, v0, rfl, rfl, SqT.of (sa _ _ hp6), hneg, d, l, v0, _, n, rfl, D7, hvx0.same sa, hrb _ (List.getElem_mem hlast), fun v' x' H8 D8 kp8 hv' hb' => ?_⟩
          refine ⟨by show 1 ≤ sizeLine; decide, fun b hb => ?_⟩
          have sb := new_same (o := .tup [v']) hb
          have va8 := sb _ _ (kp8 _ _ va (D7.nt va).1 (D7.nt va).2)
          have hal8 : All2 (ItAt (upd H8 b (.tup [v']))) us xs := ((hal6.mono fun _ _ => ItAt.same sa).mono fun _ _ => ItAt.kept D7 kp8).mono fun _ _ => ItAt.same sb
          refine cat_any va8 upd_same (Nat.le_of_lt (small1000 (by rw [List.length_take]; show _ + 1 ≤ 1000; omega))) fun g H9 s9 hg => ?_
          have kp9 : Kept d l H5 H9 := (((kp6.trans (Kept.of sa)).trans kp8).trans (Kept.of sb)).trans (Kept.of s9)
          have rvN : RvAt d l H9 (.ref g) (.tup (xs.take (xs.length - 1) ++ [x'])) := ⟨g, _, rfl, hg, by
            rw [show us.length = xs.length from hul]
            exact ((hal8.mono fun _ _ => ItAt.same s9).take _).app (.cons ((hv'.same sb).same s9) .nil)⟩
          obtain ⟨gG, q⟩ := done_ H9 (.ref g) _ ((D8.new hb).same s9) kp9 rvN (fun ys p h => by cases h) ⟨by show _ ≤ _; rw [List.length_append, List.length_take]; show _ + 1 ≤ _; omega, fun x hx => by
            rcases List.mem_append.mp hx with h | h
            · exact (hrb x (List.mem_of_mem_take h)).up
            · rw [List.mem_singleton.mp h]; exact hb'⟩
          refine ⟨_, rfl, _, rfl, G, _, _, at_, rfl, rfl, gG, ixN_nt hatv, ?_⟩
          exact ⟨_, rfl, q⟩
        · have hplx : pl < xs.length := by omega
          obtain ⟨v0, hv0, hvx0⟩ := hal6.get (List.getElem?_eq_getElem hplx)
          refine ⟨_, rfl, _, rfl, _, rfl, p, us, rfl, SqT.of hp6, nw_take hpl, fun a ha => ?_⟩
          rw [cut_take]
          have sa := new_same (o := .tup (us.take pl)) ha
          have va : upd H6 a (.tup (us.take pl)) a = some (.tup (us.take pl)) := upd_same
          have D7 := D6.new (o := .tup (us.take pl)) ha
          generalize upd H6 a (.tup (us.take pl)) = H7 at sa va D7 ⊢
          refine ⟨_, rfl, _, rfl, _, rfl, p, us, _, v0, rfl, rfl, SqT.of (sa _ _ hp6), atI_nat hv0, d, l, v0, _, n, rfl, D7, hvx0.same sa, hrb _ (List.getElem_mem hplx), fun v' x' H8 D8 kp8 hv' hb' => ?_⟩
          refine ⟨by show 1 ≤ sizeLine; decide, fun b hb => ?_⟩
          have sb := new_same (o := .tup [v']) hb
          have va8 := sb _ _ (kp8 _ _ va (D7.nt va).1 (D7.nt va).2)
          have hp7 := sa _ _ hp6
          have hp8 := sb _ _ (kp8 _ _ hp7 (D7.nt hp7).1 (D7.nt hp7).2)
          have hal8 : All2 (ItAt (upd H8 b (.tup [v']))) us xs := ((hal6.mono fun _ _ => ItAt.same sa).mono fun _ _ => ItAt.kept D7 kp8).mono fun _ _ => ItAt.same sb
          refine cat_any va8 upd_same (Nat.le_of_lt (small1000 (by rw [List.length_take]; show _ + 1 ≤ 1000; omega))) fun g H9 s9 hg => ?_
          have e2 : ((pl : Int) + 1) = ((pl + 1 : Nat) : Int) := by omega
          refine ⟨_, rfl, _, rfl, _, _, rfl, rfl, _, rfl, p, us, rfl, SqT.of (s9 _ _ hp8), by rw [e2]; exact nw_drop (by omega) hus, fun c hc => ?_⟩
          rw [e2, cut_drop]
          have sc := new_same (o := .tup (us.drop (pl + 1))) hc
          refine cat_any (sc _ _ hg) upd_same (Nat.le_of_lt (small1000 (by rw [List.length_append, List.length_take, List.length_drop]; show _ + 1 + _ ≤ 1000; omega))) fun g2 H10 s10 hg2 => ?_
          have s810 := (s9.trans sc).trans s10
          have kp10 : Kept d l H5 H10 := (((kp6.trans (Kept.of sa)).trans kp8).trans (Kept.of sb)).trans (Kept.of s810)
          have hal10 := hal8.mono fun _ _ => ItAt.same s810
          have rvN : RvAt d l H10 (.ref g2) (.tup (xs.take pl ++ [x'] ++ xs.drop (pl + 1))) := ⟨g2, _, rfl, hg2, ((hal10.take _).app (.cons ((hv'.same sb).same s810) .nil)).app (hal10.drop _)⟩
          obtain ⟨gG, q⟩ := done_ H10 (.ref g2) _ ((D8.new hb).same s810) kp10 rvN (fun ys p h => by cases h) ⟨by show _ ≤ _; rw [List.length_append, List.length_append, List.length_take, List.length_drop]; show _ + 1 + _ ≤ _; omega, fun x hx => by
            rcases List.mem_append.mp hx with h | h
            · rcases List.mem_append.mp h with h | h
              · exact (hrb x (List.mem_of_mem_take h)).up
              · rw [List.mem_singleton.mp h]; exact hb'
            · exact (hrb x (List.mem_of_mem_drop h)).up⟩
          refine ⟨_, rfl, _, rfl, G, _, _, at_, rfl, rfl, gG, ixN_nt hatv, ?_⟩
          exact ⟨_, rfl, q⟩
end
end My

set_option Elab.async false
set_option linter.all false
set_option maxRecDepth 100000
set_option maxHeartbeats 1000000
namespace My
open PySem L2 MyR
/-- the class Machine as its users know it -/
structure MachX (P : Program) (w : World) (K : PySem.W.Frag) (mg : Str → Option Value) (base : Heap) (C : Addr) where
  f : Addr
  fd : FuncData
  m : Mk K C f
  ok : FnOk P w K mg base CX0 1 f fd ["self", "width", "registers"] (spMach C)
  g : mg "Machine" = some (.ref C)
  b : Binds K fd ["self", "width", "registers"] []
  cl : Cls K C
  n1 : NoAttr K C "width"
  n2 : NoAttr K C "registers"
  fe : Addr
  fde : FuncData
  me : EqC K C fe
  oke : FnOk P w K mg base CX0 1 fe fde ["self", "other"] (spEqM K C)
  be : Binds K fde ["self", "other"] []
  nt : PySem.W.notFirst K C (.type "tuple") = true
  kt : PySem.W.kitOne K (.type "tuple") (.ref C) = some false
def spYes : Sp := fun vs H Q _ => ∃ (d l : Addr), vs = [.ref d] ∧ Deal H d l ∧ ∀ H', Deal H' d l → Kept d l H H' → Q (.bl true) H'
theorem mach_make {C x dx : Addr} {H : Hp} {a b : Int} {E : XK} {R : V → Hp → Prop} (hx : H x = none) (hd : H dx = none) (k : ∀ H', Same H H' → MachAt C H' a b x → R .non H') : spMach C [.ref x, .int a, .int b] (upd (upd H dx (.own x)) x (.ins C dx [])) R E := by
  refine ⟨x, dx, a, b, rfl, upd_same, fun H' e keep => k H' (fun b o e => keep b o ?_ (ne_of_none e hx)) ⟨dx, e⟩⟩
  rw [upd_ne (ne_of_none e hx), upd_ne (ne_of_none e hd)]
  exact e
theorem MachAt.same {C m : Addr} {H H' : Hp} {a b : Int} (h : MachAt C H a b m) (s : Same H H') : MachAt C H' a b m := let ⟨dx, e⟩ := h; ⟨dx, s _ _ e⟩
theorem pair_dp {K : PySem.W.Frag} {H : Hp} {p : Addr} {a b : Int} (h : H p = some (.tup [.int a, .int b])) : Dp K H (.ref p) (.tuple [.int a, .int b]) := .tup (SqT.of h) (.cons (.int a) (.cons (.int b) .nil))
theorem pair_lay (a b : Int) : (PyData.tuple [.int a, .int b]).canLay0 = true := by
  rw [PyData.canLay0]
  exact ilay [a, b]
theorem pair_shaped (a b : Int) : SeqAt.shaped (.tuple [.int a, .int b]) = true := by
  refine d_shape (pair_lay a b) ?_
  rw [PyData.depth, show PyData.depthAll [.int a, .int b] = 0 from idep [a, b]]
  omega
section
variable {P : Program} {w : World} {K : PySem.W.Frag} {mg : Str → Option Value} {base : Heap}
abbrev s_law_machines_right : Stmt := top 40
abbrev N_law_machines_right : List Str := ["_law_deal_here", "_law_a", "_law_b", "_law_one", "_law_other"]
theorem sc_law_machines_right : FnScope N_law_machines_right ["_law_deal_here"] (defScope s_law_machines_right) := ⟨rfl, rfl, rfl, by decide +kernel, rfl, by decide +kernel, by decide +kernel⟩
theorem ok_law_machines_right {f : Addr} {fd : FuncData} (F : Fun K "_law_machines_right" "_law_machines_right" s_law_machines_right f fd) (D_law_draw : Df P w K mg base 1 "_law_draw" ["_law_deal_here", "_law_many"] spDraw) {C : Addr} (MM : MachX P w K mg base C) : FnOk P w K mg base CX0 3 f fd ["_law_deal_here"] spYes := by
  refine F.ok sc_law_machines_right (fun vs H Q E h => ?_) (fun cdv A outer s H vs Q E hr h => ?_)
  · obtain ⟨d, l, rfl, _⟩ := h
    rfl
  · obtain ⟨d, l, rfl, D, k⟩ := h
    have nd := sc_law_machines_right.nd
    have hu := hu_of hr
    refine ⟨_, (pss_cons (ps_par (i := 1) (j := 2) rfl nd rfl rfl (by decide) rfl rfl (pa_cons (pe_op op_add pe_int (pe_call D_law_draw.ok (hr.mono (by decide)) (by rfl) D_law_draw.g D_law_draw.kp D_law_draw.b .nil pass0 (pa_cons (pv 0) (pa_cons pe_int pa_nil)))) (pa_cons (pe_op op_add pe_int (pe_call D_law_draw.ok (hr.mono (by decide)) (by rfl) D_law_draw.g D_law_draw.kp D_law_draw.b .nil pass0 (pa_cons (pv 0) (pa_cons pe_int pa_nil)))) pa_nil)) (by rfl))
    (pss_cons (ps_par (i := 3) (j := 4) rfl nd rfl rfl (by decide) rfl rfl (pa_cons (pe_make MM.m MM.ok (hr.mono (by decide)) (by rfl) MM.g MM.b .nil pass0 (pa_cons (pv 1) (pa_cons (pv 2) pa_nil))) (pa_cons (pe_make MM.m MM.ok (hr.mono (by decide)) (by rfl) MM.g MM.b .nil pass0 (pa_cons (pe_op op_add pe_int (pe_op op_mod (pe_op op_sub (pv 1) pe_int) pe_int)) (pa_cons (pv 2) pa_nil))) pa_nil)) (by rfl))
    (pss_cons (ps_if (PW.pt (pw_or (pt_cmpR (op_neD hr.units) (pe_tup (pa_cons (pe_fld (pv 3) rfl) (pa_cons (pe_fld (pv 3) rfl) pa_nil))) (pe_tup (pa_cons (pv 1) (pa_cons (pv 2) pa_nil))) (nomark _)) (pw_or (pt_cmpR op_neF (pv 3) (pe_make MM.m MM.ok (hr.mono (by decide)) (by rfl) MM.g MM.b .nil pass0 (pa_cons (pv 1) (pa_cons (pv 2) pa_nil))) (nomark _)) (pw_or (pt_cmpR op_eqF (pv 3) (pv 4) (nomark _)) (pw_or1 (pt_cmpR op_eqA (pv 3) (pe_tup (pa_cons (pv 1) (pa_cons (pv 2) pa_nil))) (nomark _)))))))
    (pss_one (ps_ret pe_bl))
    pss_nil)
    (pss_one (ps_ret (pe_cmpR op_neF (pv 3) (pe_make MM.m MM.ok (hr.mono (by decide)) (by rfl) MM.g MM.b .nil pass0 (pa_cons (pv 1) (pa_cons (pe_op op_add pe_int (pe_op op_mod (pe_op op_sub (pv 2) pe_int) pe_int)) pa_nil))) (nomark _))))))), ?_⟩
    refine ⟨_, rfl, d, l, _, rfl, D, by decide, by decide, fun r H1 r0 r1 D1 kp1 => ?_⟩
    refine ⟨_, _, rfl, rfl, _, rfl, d, l, _, rfl, D1, by decide, by decide, fun s' H2 s0 s1 D2 kp2 => ?_⟩
    refine ⟨_, _, rfl, rfl, _, _, rfl, ?_⟩
    have kp := kp1.trans kp2
    dsimp only [List.set_cons_succ, List.set_cons_zero]
    refine ⟨_, rfl, _, rfl, fun m dm hm hdm _ => mach_make hm hdm fun H3 sm3 hm3 => ⟨rfl, ?_⟩⟩
    refine ⟨_, rfl, _, _, rfl, rfl, _, _, rfl, rfl, (by show (0 : Int) < 61; decide), _, _, rfl, rfl, _, rfl, fun n dn hn hdn _ => mach_make hn hdn fun H4 sm4 hn4 => ⟨rfl, ?_⟩⟩
    refine ⟨_, _, rfl, ?_⟩
    have hm4 := hm3.same sm4
    obtain ⟨dx, em⟩ := id hm4
    dsimp only [List.set_cons_succ, List.set_cons_zero]
    refine ⟨_, rfl, m, C, dx, _, _, rfl, em, MM.cl, MM.n1, rfl, _, rfl, m, C, dx, _, _, rfl, em, MM.cl, MM.n2, rfl, by show 2 ≤ sizeLine; decide, fun p hp => ?_⟩
    refine ⟨_, rfl, _, rfl, by show 2 ≤ sizeLine; decide, fun q hq => ?_⟩
    have s5 := (new_same (o := .tup [.int (4 + r), .int (3 + s')]) hp).trans (new_same (o := .tup [.int (4 + r), .int (3 + s')]) hq)
    refine ⟨_, _, pair_dp (new_same hq _ _ upd_same), pair_dp upd_same, pair_shaped _ _, pair_shaped _ _, ?_⟩
    rw [SeqAt.eqv_refl _ (pair_lay _ _)]
    refine ⟨_, rfl, ?_⟩
    have sA := (sm3.trans sm4).trans s5
    generalize upd (upd H4 p (.tup [.int (4 + r), .int (3 + s')])) q (.tup [.int (4 + r), .int (3 + s')]) = H5 at s5 sA ⊢
    have hm5 := hm4.same s5
    have hn5 := hn4.same s5
    have em5 := s5 _ _ em
    -- the same machine
    refine ⟨_, rfl, _, rfl, _, rfl, fun o do_ ho hdo _ => mach_make ho hdo fun H6 sm6 ho6 => ⟨rfl, ?_⟩⟩
    obtain ⟨dy, eo⟩ := id ho6
    refine ⟨m, o, C, dx, dy, _, _, MM.fe, MM.fde, _, _, 1, CX0, E, rfl, rfl, sm6 _ _ em5, eo, MM.me, MM.oke, hr.mono (by decide), MM.be, pass0, m, .ref o, _, _, rfl, hm5.same sm6, .inl ⟨o, _, _, rfl, ho6, ?_⟩⟩
    rw [decide_eq_true (show 4 + r = 4 + r from rfl), decide_eq_true (show 3 + s' = 3 + s' from rfl)]
    refine ⟨true, rfl, _, rfl, ?_⟩
    -- another one
    obtain ⟨dn', en⟩ := id (hn5.same sm6)
    refine ⟨_, rfl, _, rfl, m, n, C, dx, dn', _, _, MM.fe, MM.fde, _, _, 1, CX0, E, rfl, rfl, sm6 _ _ em5, en, MM.me, MM.oke, hr.mono (by decide), MM.be, pass0, m, .ref n, _, _, rfl, hm5.same sm6, .inl ⟨n, _, _, rfl, hn5.same sm6, ?_⟩⟩
    rw [decide_eq_false (show ¬ 4 + r = 4 + (4 + r - 3) % 61 by omega), Bool.false_and]
    refine ⟨false, rfl, _, rfl, ?_⟩
    -- a pair
    refine ⟨_, rfl, _, rfl, _, rfl, by show 2 ≤ sizeLine; decide, fun p2 hp2 => ?_⟩
    have s7 := new_same (o := .tup [.int (4 + r), .int (3 + s')]) hp2
    refine ⟨m, C, dx, _, MM.fe, MM.fde, _, _, 1, CX0, E, .type "tuple", rfl, s7 _ _ (sm6 _ _ em5), .base (.tup upd_same), MM.nt, MM.me, MM.oke, hr.mono (by decide), MM.be, pass0, m, .ref p2, _, _, rfl, (hm5.same sm6).same s7, .inr ⟨⟨_, .base (.tup upd_same), MM.kt⟩, ?_⟩⟩
    refine ⟨false, rfl, _, rfl, iteF ?_⟩
    -- one with other registers
    refine ⟨_, rfl, _, rfl, _, rfl, _, _, rfl, rfl, _, _, rfl, rfl, (by show (0 : Int) < 6; decide), _, _, rfl, rfl, fun u du hu0 hdu _ => mach_make hu0 hdu fun H8 sm8 hu8 => ⟨rfl, ?_⟩⟩
    obtain ⟨dz, eu⟩ := id hu8
    have s8 := s7.trans sm8
    refine ⟨m, u, C, dx, dz, _, _, MM.fe, MM.fde, _, _, 1, CX0, E, rfl, rfl, s8 _ _ (sm6 _ _ em5), eu, MM.me, MM.oke, hr.mono (by decide), MM.be, pass0, m, .ref u, _, _, rfl, (hm5.same sm6).same s8, .inl ⟨u, _, _, rfl, hu8, ?_⟩⟩
    rw [decide_eq_false (show ¬ 3 + s' = 3 + (3 + s' - 2) % 6 by omega), Bool.and_false]
    refine ⟨false, rfl, ?_⟩
    have sF := (sA.trans sm6).trans s8
    exact k H8 (D2.same sF) (kp.trans (Kept.of sF))
end
end My

set_option Elab.async false
set_option linter.all false
set_option maxRecDepth 100000
set_option maxHeartbeats 1000000
namespace My
open PySem L2 MyR PyProof.Rows
/-! ### rows that are right -/
theorem formAt {w f : Str} (h : (w, f) ∈ forms) : formOf w = some f := by
  have q : ∀ p ∈ forms, formOf p.1 = some p.2 := by decide +kernel
  exact q _ h
theorem word_len {w f : Str} (h : (w, f) ∈ forms) : w.length ≤ 10 := by
  have q : ∀ p ∈ forms, p.1.length ≤ 10 := by decide +kernel
  exact q _ h
theorem getD_map (zs : List Int) (j : Nat) (hj : j < zs.length) : (zs.map It.int).getD j .non = .int zs[j] := by
  rw [List.getD_eq_getElem?_getD, List.getElem?_map, List.getElem?_eq_getElem hj]
  rfl
theorem good_of_ok {r : Rw} (h : r.ok) : good r.rv = true := by
  obtain ⟨w, zs⟩ := r
  obtain ⟨⟨f, hf, hl, hit⟩, hs⟩ := h
  show good (.tup (.str w :: zs.map It.int)) = true
  rw [good_some (formAt hf)]
  refine Bool.and_eq_true_iff.mpr ⟨decide_eq_true (by rw [List.length_map]; exact hl), Bool.and_eq_true_iff.mpr ⟨?_, ?_⟩⟩
  · rw [List.all_eq_true]
    intro j hj
    rw [List.length_map] at hj
    have hj := List.mem_range.mp hj
    have hjf : j < f.cps.size := by rw [← hl]; exact hj
    rw [getD_map zs j hj]
    have hc : f.cps[j]? = some f.cps[j] := Array.getElem?_eq_getElem hjf
    rw [getD_of (show f.cps.toList[j]? = some f.cps[j] by rw [Array.getElem?_toList]; exact hc)]
    exact decide_eq_true (hit j _ _ hc (List.getElem?_eq_getElem hj))
  · by_cases e : w = ("skip" : Str)
    · rw [decide_eq_true e]
      obtain ⟨a, m, c, n, ex, hcm⟩ := hs e
      have ex : zs = [a, m, c, n] := ex
      subst ex
      show lessB [.int a, .int m, .int c, .int n] = true
      exact decide_eq_true hcm
    · rw [decide_eq_false e]
      rfl
theorem over_fits {r : Rw} {left : Int} (h : r.fits left) : over r.rv left = false := by
  by_cases e : r.w = ("skip" : Str)
  · obtain ⟨a, m, c, n, ex, hn⟩ := h e
    rw [over_row r left a m c n e ex]
    exact decide_eq_false (by omega)
  · exact over_not r left e
theorem dueG_ok {n : Int} : ∀ {rs : List Rw} {i : Nat}, (∀ (j : Nat) r, rs[j]? = some r → r.ok ∧ r.fits (n - 1 - ((i + j : Nat) : Int))) → dueG n i (rs.map Rw.rv) = none
  | [], _, _ => rfl
  | r :: rs, i, h => by
    obtain ⟨h1, h2⟩ := h 0 r rfl
    rw [Nat.add_zero] at h2
    show (if good r.rv = true then (if over r.rv (n - 1 - (i : Int)) = true then _ else dueG n (i + 1) (rs.map Rw.rv)) else _) = none
    rw [good_of_ok h1, if_pos rfl, over_fits h2, if_neg Bool.false_ne_true]
    exact dueG_ok fun j r' e => by
      have := h (j + 1) r' e
      rw [show i + 1 + j = i + (j + 1) by omega]
      exact this
theorem due_ok {rs : List Rw} (h : RsOk rs) (hl : rs.length ≤ 1000) : due (rs.map Rw.rv) = none := by
  unfold due
  rw [List.length_map, if_neg (by omega)]
  exact dueG_ok fun j r e => by
    rw [Nat.zero_add]
    exact h j r e
theorem rows_rv {d l : Addr} {H : Hp} : ∀ {rs : List Rw} {as : List Addr}, RowsAt H rs as → AllOk rs → RvsAt d l H (refs as) (rs.map Rw.rv)
  | [], [], _, _ => .nil
  | [], a :: as, h, _ => absurd h.len (by simp)
  | r :: rs, [], h, _ => absurd h.len (by simp)
  | r :: rs, a :: as, h, ok => by
    obtain ⟨p, e1, e2⟩ := h.at_ 0 r rfl
    obtain rfl := Option.some.inj e1
    obtain ⟨⟨f, hf, _⟩, _⟩ := ok r List.mem_cons_self
    exact .cons (RowAt.rv (forms_ok _ hf) e2) (rows_rv ⟨by have := h.len; simpa using this, fun i r' e => h.at_ (i + 1) r' e⟩ fun x hx => ok x (List.mem_cons_of_mem _ hx))
theorem bd_of_ok {r : Rw} (h : r.ok) : RBd 0 r.rv := by
  obtain ⟨⟨f, hf, hl, hit⟩, _⟩ := h
  have hfs := form_size (formAt hf)
  refine ⟨by show (r.xs.map It.int).length + 1 ≤ 6; rw [List.length_map]; omega, fun x hx => ?_⟩
  rcases List.mem_cons.mp hx with rfl | hx
  · exact word_len hf
  · obtain ⟨z, hz, rfl⟩ := List.mem_map.mp hx
    obtain ⟨i, hi⟩ := List.mem_iff_getElem?.mp hz
    have hil : i < f.cps.size := by
      rw [← hl]
      exact (List.getElem?_eq_some_iff.mp hi).1
    have q := hit i _ z (Array.getElem?_eq_getElem hil) hi
    show z.natAbs ≤ 2 ^ 65 + 0
    rcases q with h | h | h | h | h
    · omega
    · omega
    · omega
    · have := mods_bound z h.2
      omega
    · omega
/-- rows, their items counted -/
theorem rows_its {r : Rw} (h : r.ok) : r.rv.its.length ≤ 100 := by
  have := (bd_of_ok h).1
  show (It.str r.w :: r.xs.map It.int).length ≤ 100
  omega
/-! ### what is told of rows, as text -/
def shownOf : Option (Str × Int) → Str
  | none => "None"
  | some (w, i) => PyData.shown (.tuple [.str w, .int i])
def DueOk : Option (Str × Int) → Prop
  | none => True
  | some (w, i) => (w = ("count" : Str) ∨ w = ("row" : Str) ∨ w = ("skip" : Str)) ∧ -2 < i ∧ i < 5000
theorem dueG_range {n : Int} : ∀ {rs : List Rv} {i : Nat}, i + rs.length < 5000 → DueOk (dueG n i rs)
  | [], _, _ => trivial
  | r :: rs, i, h => by
    rw [List.length_cons] at h
    show DueOk (if good r = true then (if over r (n - 1 - (i : Int)) = true then some ("skip", (i : Int)) else dueG n (i + 1) rs) else some ("row", (i : Int)))
    split
    · split
      · exact ⟨.inr (.inr rfl), by omega, by omega⟩
      · exact dueG_range (by omega)
    · exact ⟨.inr (.inl rfl), by omega, by omega⟩
theorem due_range {rs : List Rv} (h : rs.length < 5000) : DueOk (due rs) := by
  unfold due
  split
  · exact ⟨.inl rfl, by omega, by omega⟩
  · exact dueG_range (by omega)
theorem shown_len {w : Str} {i : Int} (hw : w = ("count" : Str) ∨ w = ("row" : Str) ∨ w = ("skip" : Str)) (h0 : -2 < i) (h1 : i < 5000) : (PyData.shown (.tuple [.str w, .int i])).length ≤ sizeLine := by
  have hi : (Str.ofString (toString i)).length ≤ 2000 := by
    rw [ofString_len]
    refine Nat.le_trans (int_text_length_le (k := 20) (by decide) ?_) (by decide)
    by_cases h : i.natAbs = 0
    · rw [h]; decide +kernel
    · refine (Nat.log2_lt h).mpr ?_
      have : (5000 : Nat) < 2 ^ 20 := by decide +kernel
      omega
  have hr : (reprText w).length ≤ 100 := by
    rcases hw with rfl | rfl | rfl <;> decide +kernel
  show ((("(" : Str) ++ (reprText w ++ (", " : Str) ++ Str.ofString (toString i)) ++ ((")" : String) : Str)) : Str).length ≤ sizeLine
  rw [Str.length_append, Str.length_append, Str.length_append, Str.length_append]
  have a1 : ("(" : Str).length = 1 := by decide +kernel
  have a2 : (", " : Str).length = 2 := by decide +kernel
  have a3 : (((")" : String) : Str)).length = 1 := by decide +kernel
  rw [a1, a2, a3]
  have : (10000 : Nat) ≤ sizeLine := by decide +kernel
  omega
theorem shown_ok {w : Str} {i : Int} (hw : w = ("count" : Str) ∨ w = ("row" : Str) ∨ w = ("skip" : Str)) (h0 : -2 < i) (h1 : i < 5000) : PyData.showable (.tuple [.str w, .int i]) = true := by
  show (true && (decide (i.natAbs.log2 < 1920) && true)) = true
  have : i.natAbs.log2 < 1920 := by
    by_cases h : i.natAbs = 0
    · rw [h]; decide +kernel
    · refine (Nat.log2_lt h).mpr ?_
      have : (5000 : Nat) < 2 ^ 1920 := by decide +kernel
      omega
  rw [decide_eq_true this]
  rfl
/-- the text of what is told -/
theorem due_repr {K : PySem.W.Frag} {H : Hp} {v : V} {o : Option (Str × Int)} {Q : VK} (h : DueAt H v o) (ok : DueOk o) (k : Q (.str (shownOf o)) H) : rReprD K [v] H Q := by
  cases o with
  | none =>
    obtain rfl : v = .non := h
    exact .inl ⟨rfl, k⟩
  | some p =>
    obtain ⟨w, i⟩ := p
    obtain ⟨a, rfl, ha⟩ := h
    obtain ⟨hw, h0, h1⟩ := ok
    refine .inr ⟨a, .tuple [.str w, .int i], rfl, .tup (SqT.of ha) (.cons (.str w) (.cons (.int i) .nil)), shown_ok hw h0 h1, rfl, ?_, shown_len hw h0 h1, k⟩
    rw [PyData.depth, PyData.depthAll, PyData.depthAll, PyData.depthAll, PyData.depth, PyData.depth]
    decide
end My

set_option Elab.async false
set_option linter.all false
set_option maxRecDepth 100000
set_option maxHeartbeats 1000000
namespace My
open PySem L2 MyR
/-! ### rows as pairs with their places -/
abbrev RAt (H : Hp) : Addr → Rw → Prop := fun a r => RowAt H r a
theorem all2_of {H : Hp} : ∀ {rs : List Rw} {as : List Addr}, RowsAt H rs as → All2 (RAt H) as rs
  | [], [], _ => .nil
  | [], a :: as, h => absurd h.len (by simp)
  | r :: rs, [], h => absurd h.len (by simp)
  | r :: rs, a :: as, h => by
    obtain ⟨p, e1, e2⟩ := h.at_ 0 r rfl
    obtain rfl := Option.some.inj e1
    exact .cons e2 (all2_of ⟨by have := h.len; simpa using this, fun i r' e => h.at_ (i + 1) r' e⟩)
theorem of_all2 {H : Hp} {rs : List Rw} {as : List Addr} (h : All2 (RAt H) as rs) : RowsAt H rs as := ⟨h.len, fun i r e => let ⟨a, e1, e2⟩ := h.get e; ⟨a, e1, e2⟩⟩
theorem rep2 {α β : Type} {R : α → β → Prop} {vs : List α} {xs : List β} (h : All2 R vs xs) : ∀ n, All2 R (List.replicate n vs).flatten (List.replicate n xs).flatten
  | 0 => .nil
  | n + 1 => by
    rw [List.replicate_succ, List.replicate_succ, List.flatten_cons, List.flatten_cons]
    exact h.app (rep2 h n)
theorem cut_init' (xs : List V) : cutV xs none (some (-1)) = xs.take (xs.length - 1) := by
  cases xs with
  | nil => rfl
  | cons x xs => exact cut_init _ (by simp)
/-- rows near the code's own -/
def NearAt (H : Hp) (n : Addr) (ns : List Rw) : Prop := ∃ bs, H n = some (.lst (refs bs)) ∧ RowsAt H ns bs ∧ AllOk ns ∧ ns.length ≤ 20
theorem NearAt.same {H H' : Hp} {n : Addr} {ns : List Rw} (h : NearAt H n ns) (s : Same H H') : NearAt H' n ns := let ⟨bs, e, r, a, l⟩ := h; ⟨bs, s _ _ e, r.same s, a, l⟩
theorem rows_ok {ns : List Rw} (h : AllOk ns) (hl : ns.length ≤ 1500) : RowsOk (ns.map Rw.rv) := ⟨by rw [List.length_map]; exact hl, fun r hr => by
  obtain ⟨q, hq, rfl⟩ := List.mem_map.mp hr
  exact rows_its (h q hq)⟩
theorem dueG_all {n : Int} : ∀ {rs : List Rv} {i : Nat}, (∀ r ∈ rs, good r = true ∧ ∀ left, over r left = false) → dueG n i rs = none
  | [], _, _ => rfl
  | r :: rs, i, h => by
    obtain ⟨h1, h2⟩ := h r List.mem_cons_self
    show (if good r = true then (if over r (n - 1 - (i : Int)) = true then _ else dueG n (i + 1) rs) else _) = none
    rw [h1, if_pos rfl, h2, if_neg Bool.false_ne_true]
    exact dueG_all fun x hx => h x (List.mem_cons_of_mem _ hx)
def oneR : Rv := .tup [.str "left", .int 0, .int 1]
theorem one_good : good oneR = true := by decide +kernel
theorem one_over (left : Int) : over oneR left = false := rfl
theorem flat_one {α : Type} (x : α) : ∀ n, (List.replicate n [x]).flatten = List.replicate n x
  | 0 => rfl
  | n + 1 => by rw [List.replicate_succ, List.flatten_cons, flat_one x n]; rfl
theorem one_due (n : Nat) : due (List.replicate n oneR) = if 1000 < n then some (("count" : Str), (-1 : Int)) else none := by
  unfold due
  rw [List.length_replicate]
  by_cases h : 1000 < n
  · rw [if_pos h, if_pos h]
  · rw [if_neg h, if_neg h]
    exact dueG_all fun r hr => by
      rw [List.eq_of_mem_replicate hr]
      exact ⟨one_good, one_over⟩
def spoilR : List Rv := [.tup [.str "left", .int 9, .int 1], .tup [.str "skip", .int 0, .int 1, .int 0, .int 1000], .it (.str "left"), .tup [.str "left", .int 0]]
theorem spoil_its : ∀ r ∈ spoilR, r.its.length ≤ 100 := by
  intro r hr
  simp only [spoilR, List.mem_cons, List.not_mem_nil, or_false] at hr
  rcases hr with rfl | rfl | rfl | rfl
  · show 3 ≤ 100; decide
  · show 5 ≤ 100; decide
  · show 0 ≤ 100; decide
  · show 2 ≤ 100; decide
theorem new_left : Rw.ok ⟨"left", [0, 0]⟩ := ok2 (f := "WR") (c0 := 87) (c1 := 82) (by decide +kernel) (by decide +kernel) (by decide +kernel) (itW (.inl rfl) (by decide) (by decide)) (itW (.inr rfl) (by decide) (by decide))
end My

set_option pp.maxSteps 400
set_option Elab.async false
set_option linter.all false
set_option maxRecDepth 100000
set_option maxHeartbeats 1000000
namespace My
open PySem L2 MyR
/-- == of two objects of one class, whatever runs around -/
def rEqF0 (P : Program) (w : World) (K : PySem.W.Frag) (mg : Str → Option Value) (base : Heap) (A : Around) (neg : Bool) : R2 := fun x y H Q => ∃ (a b C dx dy : Addr) (fs gs : List (Str × V)) (f : Addr) (fd : FuncData) (ps : List Str) (sp : Sp) (k : Nat) (E : XK), x = .ref a ∧ y = .ref b ∧ H a = some (.ins C dx fs) ∧ H b = some (.ins C dy gs) ∧ EqC K C f ∧
  FnOk P w K mg base CX0 k f fd ps sp ∧ Room (k + 1) A ∧ Binds K fd ps [] ∧ sp [.ref a, .ref b] H (fun v H' => ∃ t : Bool, v = .bl t ∧ Q (.bl (if neg = true then !t else t)) H') E
theorem op_eqF0 {X : Cx} : OpR X (compareOp .Eq) (rEqF0 X.prog X.w X.K X.mg X.base X.A false) := fun pins s σ H x y u v Q I rx ry h => by
  obtain ⟨a, b, C, dx, dy, fs, gs, f, fd, ps, sp, k, E, e1, e2, ha, hb, c, F, hr, hbd, hsp⟩ := h
  exact op_eqF pins s σ H x y u v Q I rx ry ⟨a, b, C, dx, dy, fs, gs, f, fd, ps, sp, k, CX0, E, e1, e2, ha, hb, c, F, hr, hbd, pass0, hsp⟩
structure DfG (P : Program) (w : World) (K : PySem.W.Frag) (mg : Str → Option Value) (base : Heap) (k : Nat) (x : Str) (ps : List Str) (sp : Sp) where
  f : Addr
  fd : FuncData
  ok : FnOkG P w K mg base CX0 k f fd ps sp
  g : mg x = some (.ref f)
  kp : PySem.W.keepIn K (.ref f) = true
  b : Binds K fd ps []
/-- the methods of Code as their users know them -/
structure CodeM (P : Program) (w : World) (K : PySem.W.Frag) (mg : Str → Option Value) (base : Heap) (C : Addr) where
  fl : Addr
  fdl : FuncData
  ml : PySem.W.findIn K (.ref C) "__len__" = some (some (.ref fl))
  il : PySem.W.isFn K (.ref fl) = true
  okl : FnOk P w K mg base CX0 1 fl fdl ["self"] (spLenC C)
  bl : Binds K fdl ["self"] []
  fe : Addr
  fde : FuncData
  me : EqC K C fe
  oke : FnOk P w K mg base CX0 1 fe fde ["self", "other"] (spEqC K C)
  be : Binds K fde ["self", "other"] []
  nt : PySem.W.notFirst K C (.type "tuple") = true
  kt : PySem.W.kitOne K (.type "tuple") (.ref C) = some false
  ni : PySem.W.notFirst K C (.type "int") = true
  ki : PySem.W.kitOne K (.type "int") (.ref C) = some false
theorem make_codeX {C cI a x dx d l : Addr} {H : Hp} {as : List Addr} {rs : List Rw} {E : XK} {R : V → Hp → Prop} (hx : H x = none) (hd : H dx = none) (ha : H a = some (.lst (refs as)) ∨ H a = some (.tup (refs as))) (hr : RowsAt H rs as) (ok : AllOk rs) (hdue : due (rs.map Rw.rv) = none) (hl : rs.length ≤ 1500)
    (k : ∀ H', Same H H' → CodeR C H' rs x → R .non H') : spCode C cI [.ref x, .ref a] (upd (upd H dx (.own x)) x (.ins C dx [])) R E := by
  have sm : Same H (upd (upd H dx (.own x)) x (.ins C dx [])) := fun b o e => by
    rw [upd_ne (ne_of_none e hx), upd_ne (ne_of_none e hd)]
    exact e
  refine ⟨x, dx, a, d, l, refs as, rs.map Rw.rv, rfl, upd_same, ?_, rows_rv (hr.same sm) ok, ⟨by rw [List.length_map]; exact hl, fun r h => ?_⟩, fun _ t H' ini ht => ?_, fun w i e => ?_⟩
  · rcases ha with h | h
    · exact .inl (sm _ _ h)
    · exact .inr (sm _ _ h)
  · obtain ⟨q, hq, rfl⟩ := List.mem_map.mp h
    exact rows_its (ok q hq)
  · have s2 : Same H H' := fun b o e => ini.2 b o (sm b o e) (ne_of_none e hx)
    exact k H' s2 ⟨dx, t, as, ini.1, ht, hr.same s2⟩
  · rw [hdue] at e
    cases e
theorem RvAt.updL {d l G : Addr} {H : Hp} {v : V} {r : Rv} {xs : List V} {o : HO} (h : RvAt d l H v r) (hG : H G = some (.lst xs)) (hn : ∀ ys, r ≠ .lst ys) : RvAt d l (upd H G o) v r := by
  have iti : ∀ {v : V} {x : It}, ItAt H v x → ItAt (upd H G o) v x := fun {v x} h => by
    cases x with
    | emp => obtain ⟨p, e, z⟩ := h; exact ⟨p, e, by rw [upd_ne (ne_of z hG (by intro z; cases z))]; exact z⟩
    | int z => exact h
    | bl b => exact h
    | non => exact h
    | str z => exact h
  cases r with
  | it i => exact iti h
  | tup ys => obtain ⟨p, ws, e, z, al⟩ := h; exact ⟨p, ws, e, by rw [upd_ne (ne_of z hG (by intro z; cases z))]; exact z, al.mono fun _ _ => iti⟩
  | lst ys => exact absurd rfl (hn ys)
theorem CodeR.updL {C G c : Addr} {H : Hp} {rs : List Rw} {xs : List V} {o : HO} (h : CodeR C H rs c) (hG : H G = some (.lst xs)) : CodeR C (upd H G o) rs c :=
  let ⟨dx, t, as, e1, e2, e3⟩ := h
  ⟨dx, t, as, by rw [upd_ne (ne_of e1 hG (by intro z; cases z))]; exact e1, by rw [upd_ne (ne_of e2 hG (by intro z; cases z))]; exact e2, e3.upd hG⟩
theorem all2_mem {α β : Type} {R S : α → β → Prop} : ∀ {as : List α} {bs : List β}, All2 R as bs → (∀ a b, b ∈ bs → R a b → S a b) → All2 S as bs
  | _, _, .nil, _ => .nil
  | _, _, .cons h t, f => .cons (f _ _ List.mem_cons_self h) (all2_mem t fun a b hb => f a b (List.mem_cons_of_mem _ hb))
def spLaw (K : PySem.W.Frag) : Sp := fun vs H Q _ => ∃ (a : Addr) (ns : List Int), vs = [.ref a] ∧ SqL K H a (ns.map V.int) ∧ ns.length ≤ 63 ∧ ∀ H', Q (.bl true) H'
section
variable {P : Program} {w : World} {K : PySem.W.Frag} {mg : Str → Option Value} {base : Heap}
abbrev s_law : Stmt := top 41
abbrev N_law : List Str := ["_law_script", "_law_deal_here", "_law_rows", "_law_turn", "_law_some", "_law_spoil", "_law_kept", "_law_given", "_law_code", "_law_near", "_law_other", "_law_many", "_law_long", "_law_at"]
theorem sc_law : FnScope N_law ["_law_script"] (defScope s_law) := ⟨rfl, rfl, rfl, by decide +kernel, rfl, by decide +kernel, by decide +kernel⟩
theorem ok_law {f : Addr} {fd : FuncData} (F : Fun K "law" "law" s_law f fd) (T : Glob mg) (g_repr : mg "repr" = none) {C CM cI : Addr} (M : CodeX P w K mg base C cI) (MC : CodeM P w K mg base C)
    (D_law_deal : Df P w K mg base 1 "_law_deal" ["_law_script", "_law_base"] (spDeal K)) (D_law_draw : Df P w K mg base 1 "_law_draw" ["_law_deal_here", "_law_many"] spDraw) (D_law_far_rows : Df P w K mg base 5 "_law_far_rows" ["_law_deal_here", "_law_registers", "_law_many"] spRows)
    (DS : DfG P w K mg base 3 "_law_spoilt" ["_law_deal_here", "_law_rows"] spSpoilt) (D_law_due : Df P w K mg base 4 "_law_due" ["_law_rows"] spDue) (D_law_told : Df P w K mg base 7 "_law_told" ["_law_rows"] spTold) (D_law_machines_right : Df P w K mg base 3 "_law_machines_right" ["_law_deal_here"] spYes) : FnOkG P w K mg base CX0 9 f fd ["_law_script"] (spLaw K) := by
  refine okG F sc_law (fun vs H Q E h => ?_) (fun cdv A hgd outer s H vs Q E hr h => ?_)
  · obtain ⟨a, ns, rfl, _⟩ := h
    rfl
  · obtain ⟨sA, ns, rfl, hS, hlen, k⟩ := h
    have hu := hu_of hr
    have nd := sc_law.nd
    refine ⟨_, (pss_cons (ps_set (i := 1) nd rfl (Or.inl rfl) (pe_call D_law_deal.ok (hr.mono (by decide)) (by rfl) D_law_deal.g D_law_deal.kp D_law_deal.b .nil pass0 (pa_cons (pv 0) (pa_cons pe_int pa_nil))))
    (pss_cons (ps_set (i := 2) nd rfl (Or.inr rfl) (pe_call D_law_far_rows.ok (hr.mono (by decide)) (by rfl) D_law_far_rows.g D_law_far_rows.kp D_law_far_rows.b .nil pass0 (pa_cons (pv 1) (pa_cons pe_int (pa_cons (pe_call D_law_draw.ok (hr.mono (by decide)) (by rfl) D_law_draw.g D_law_draw.kp D_law_draw.b .nil pass0 (pa_cons (pv 1) (pa_cons pe_int pa_nil))) pa_nil)))))
    (pss_cons (ps_for PassesOwn.never rfl (pi_range1 (by rfl) T.g_range (pa_cons pe_int pa_nil)) (pg_name (i := 3) nd rfl (Or.inl rfl))
    (pss_cons (ps_set (i := 4) nd rfl (Or.inl rfl) (pe_callTy call_list_of (by rfl) T.g_list (by decide +kernel) (pa_cons (pv 2) pa_nil)))
    (pss_cons (ps_for PassesOwn.never rfl (pi_range1 (by rfl) T.g_range (pa_cons (pe_call D_law_draw.ok (hr.mono (by decide)) (by rfl) D_law_draw.g D_law_draw.kp D_law_draw.b .nil pass0 (pa_cons (pv 1) (pa_cons pe_int pa_nil))) pa_nil)) (pg_name (i := 5) nd rfl (Or.inl rfl))
    (pss_one (ps_set (i := 4) nd rfl (Or.inl rfl) (pe_callG DS.ok hgd (hr.mono (by decide)) (by rfl) DS.g DS.kp DS.b .nil pass0 (pa_cons (pv 1) (pa_cons (pv 4) pa_nil))))))
    (pss_cons (ps_set (i := 6) nd rfl (Or.inl rfl) (pe_callTy call_list_of (by rfl) T.g_list (by decide +kernel) (pa_cons (pv 4) pa_nil)))
    (pss_one (ps_for PassesOwn.never rfl (pi_tup (pe_tup (pa_cons (pv 4) (pa_cons (pe_callTy call_tuple_of (by rfl) T.g_tuple (by decide +kernel) (pa_cons (pv 4) pa_nil)) pa_nil)))) (pg_name (i := 7) nd rfl (Or.inl rfl))
    (pss_one (ps_if (PW.pt (pw_or (pt_cmpR op_ne (pe_callB (call_reprD hgd hr.units) (by rfl) g_repr (by decide +kernel) (pa_cons (pe_call D_law_told.ok (hr.mono (by decide)) (by rfl) D_law_told.g D_law_told.kp D_law_told.b .nil pass0 (pa_cons (pv 7) pa_nil)) pa_nil)) (pe_callB (call_reprD hgd hr.units) (by rfl) g_repr (by decide +kernel) (pa_cons (pe_call D_law_due.ok (hr.mono (by decide)) (by rfl) D_law_due.g D_law_due.kp D_law_due.b .nil pass0 (pa_cons (pv 4) pa_nil)) pa_nil)) (nomark _)) (pw_or1 (pt_cmpR (op_neD hr.units) (pv 4) (pv 6) (nomark _)))))
    (pss_one (ps_ret pe_bl))
    pss_nil))))))))
    (pss_cons (ps_set (i := 8) nd rfl (Or.inr rfl) (pe_make M.m M.ok (hr.mono (by decide)) (by rfl) M.g M.b .nil passL (pa_cons (pv 2) pa_nil)))
    (pss_cons (ps_if (PW.pt (pw_or (pt_cmpR (op_neD hr.units) (pe_fld (pv 8) rfl) (pe_callTy call_tuple_of (by rfl) T.g_tuple (by decide +kernel) (pa_cons (pv 2) pa_nil)) (nomark _)) (pw_or (pt_not (pt_val (pe_callB call_isi (by rfl) T.g_isinstance (by decide +kernel) (pa_cons (pe_fld (pv 8) rfl) (pa_cons (pe_bltn (v := .ty "tuple") (by rfl) T.g_tuple (by decide +kernel) rfl) pa_nil))))) (pw_or1 (pt_cmpR op_ne (pe_callB call_lenF (by rfl) T.g_len PySem.boot_len (pa_cons (pv 8) pa_nil)) (pe_callB call_len_seq (by rfl) T.g_len PySem.boot_len (pa_cons (pv 2) pa_nil)) (nomark _))))))
    (pss_one (ps_ret pe_bl))
    pss_nil)
    (pss_cons (ps_if (PW.pt (pw_or (pt_cmpR op_neF (pv 8) (pe_make M.m M.ok (hr.mono (by decide)) (by rfl) M.g M.b .nil passL (pa_cons (pe_callTy call_tuple_of (by rfl) T.g_tuple (by decide +kernel) (pa_cons (pv 2) pa_nil)) pa_nil)) (nomark _)) (pw_or (pt_cmpR op_eqA (pv 8) (pe_callTy call_tuple_of (by rfl) T.g_tuple (by decide +kernel) (pa_cons (pv 2) pa_nil)) (nomark _)) (pw_or1 (pt_cmpR op_eqA (pv 8) pe_int (nomark _))))))
    (pss_one (ps_ret pe_bl))
    pss_nil)
    (pss_cons (ps_setLc (i := 9) (own := [("_law_other", 10)]) (g := gName 10) rfl nd rfl rfl (sw_true rfl rfl rfl (by decide +kernel)) (pi_list (pe_lst (pa_cons (pe_slice sl_list (pv 2) po_none (po_some (pe_un un_neg pe_int))) (pa_cons (pe_slice sl_list (pv 2) (po_some pe_int) po_none) (pa_cons (pe_revL (pv 2)) (pa_cons (pe_op op_cat (pv 2) (pe_lst (pa_cons (pe_tup (pa_cons pe_str (pa_cons pe_int (pa_cons pe_int pa_nil)))) pa_nil))) pa_nil)))))) (blkOk_by (N := N_law) (sc := defScope s_law) (by decide +kernel)) (fun _ _ _ _ _ => pg_name (i := 10) nd rfl (Or.inl rfl)) (fun _ _ _ _ _ => pts_one (pt_cmpR op_isN (pe_call D_law_due.ok (hr.mono (by decide)) (by rfl) D_law_due.g D_law_due.kp D_law_due.b .nil pass0 (pa_cons (pv 10) pa_nil)) pe_non (nomark _))) (fun _ _ _ _ _ => (pv 10)))
    (pss_cons (ps_if (pt_cmpR (op_neD hr.units) (pe_lc (own := [("_law_other", 10)]) (g := gName 10) rfl nd (pi_list (pv 9)) (blkOk_by (N := N_law) (sc := defScope s_law) (by decide +kernel)) (fun _ _ _ _ _ => pg_name (i := 10) nd rfl (Or.inl rfl)) (fun _ _ _ _ _ => pts_one (pt_cmpR op_ne (pe_cmpR (r := rEqF0 P w K mg base (A.deeper (PyProof.Rows.envOfC "law" (defScope s_law) s.heap.objs.size f cdv)) false) op_eqF0 (pe_make M.m M.ok (hr.mono (by decide)) (by rfl) M.g M.b .nil passL (pa_cons (pv 10) pa_nil)) (pv 8) (nomark _)) (pe_cmpR (r := rEqD K) (op_eqD hr.units) (pv 10) (pv 2) (nomark _)) (nomark _))) (fun _ _ _ _ _ => (pv 10))) (pe_lst pa_nil) (nomark _))
    (pss_one (ps_ret pe_bl))
    pss_nil)
    (pss_cons (ps_expr (pe_bm PySem.F.plainAttrs_list PySem.F.slot_list_append PySem.F.type_list_append mt_append (pv 2) (pa_cons (pe_tup (pa_cons pe_str (pa_cons pe_int (pa_cons pe_int pa_nil)))) pa_nil)))
    (pss_cons (ps_if (PW.pt (pw_or (pt_cmpR op_ne (pe_callB call_lenF (by rfl) T.g_len PySem.boot_len (pa_cons (pv 8) pa_nil)) (pe_op op_sub (pe_callB call_len_seq (by rfl) T.g_len PySem.boot_len (pa_cons (pv 2) pa_nil)) pe_int) (nomark _)) (pw_or1 (pt_not (pt_val (pe_call D_law_machines_right.ok (hr.mono (by decide)) (by rfl) D_law_machines_right.g D_law_machines_right.kp D_law_machines_right.b .nil pass0 (pa_cons (pv 1) pa_nil)))))))
    (pss_one (ps_ret pe_bl))
    pss_nil)
    (pss_cons (ps_set (i := 11) nd rfl (Or.inl rfl) (pe_op op_add pe_int (pe_call D_law_draw.ok (hr.mono (by decide)) (by rfl) D_law_draw.g D_law_draw.kp D_law_draw.b .nil pass0 (pa_cons (pv 1) (pa_cons pe_int pa_nil)))))
    (pss_cons (ps_set (i := 12) nd rfl (Or.inl rfl) (pe_op op_rep (pe_lst (pa_cons (pe_tup (pa_cons pe_str (pa_cons pe_int (pa_cons pe_int pa_nil)))) pa_nil)) (pv 11)))
    (pss_cons (ps_if (pt_cmpR op_ne (pe_callB (call_reprD hgd hr.units) (by rfl) g_repr (by decide +kernel) (pa_cons (pe_call D_law_told.ok (hr.mono (by decide)) (by rfl) D_law_told.g D_law_told.kp D_law_told.b .nil pass0 (pa_cons (pv 12) pa_nil)) pa_nil)) (pe_callB (call_reprD hgd hr.units) (by rfl) g_repr (by decide +kernel) (pa_cons (pe_ifExp (pt_cmpR op_lt (pv 11) pe_int (nomark _)) pe_non (pe_tup (pa_cons pe_str (pa_cons (pe_op op_sub pe_int pe_int) pa_nil)))) pa_nil)) (nomark _))
    (pss_one (ps_ret pe_bl))
    pss_nil)
    (pss_cons (ps_set (i := 13) nd rfl (Or.inl rfl) (pe_call D_law_draw.ok (hr.mono (by decide)) (by rfl) D_law_draw.g D_law_draw.kp D_law_draw.b .nil pass0 (pa_cons (pv 1) (pa_cons (pv 11) pa_nil))))
    (pss_cons (ps_asg (pe_ix ix_list (pe_lst (pa_cons (pe_tup (pa_cons pe_str (pa_cons pe_int (pa_cons pe_int pa_nil)))) (pa_cons (pe_tup (pa_cons pe_str (pa_cons pe_int (pa_cons pe_int (pa_cons pe_int (pa_cons pe_int pa_nil)))))) (pa_cons pe_str (pa_cons (pe_tup (pa_cons pe_str (pa_cons pe_int pa_nil))) pa_nil))))) (pe_call D_law_draw.ok (hr.mono (by decide)) (by rfl) D_law_draw.g D_law_draw.kp D_law_draw.b .nil pass0 (pa_cons (pv 1) (pa_cons pe_int pa_nil))) (fun _ _ => rfl)) (pg_sub (pv 12) (pv 13) set_list))
    (pss_one (ps_ret (pe_cmpR op_eq (pe_callB (call_reprD hgd hr.units) (by rfl) g_repr (by decide +kernel) (pa_cons (pe_call D_law_told.ok (hr.mono (by decide)) (by rfl) D_law_told.g D_law_told.kp D_law_told.b .nil pass0 (pa_cons (pv 12) pa_nil)) pa_nil)) (pe_callB (call_reprD hgd hr.units) (by rfl) g_repr (by decide +kernel) (pa_cons (pe_call D_law_due.ok (hr.mono (by decide)) (by rfl) D_law_due.g D_law_due.kp D_law_due.b .nil pass0 (pa_cons (pv 12) pa_nil)) pa_nil)) (nomark _))))))))))))))))))), ?_⟩
    refine ⟨_, rfl, sA, ns, rfl, hS, hlen, fun d l H1 _ _ sm1 D1 => ?_⟩
    refine ⟨_, rfl, _, rfl, d, l, _, rfl, D1, by decide, by decide, fun x H2 x0 x1 D2 kp2 => ?_⟩
    obtain ⟨n, rfl⟩ : ∃ n : Nat, x = (n : Int) := ⟨x.toNat, by omega⟩
    refine ⟨d, l, n, rfl, D2, by omega, fun L rs H3 hL0 D3 kp3 hl3 hok hrl => ?_⟩
    obtain ⟨nLd, nLl⟩ := D2.free hL0
    obtain ⟨as, h3, hr3⟩ := hl3
    have hall := hok.all
    have hdue := due_ok hok (by omega)
    dsimp only [List.set_cons_succ, List.set_cons_zero]
    refine ⟨_, rfl, by decide, by decide, ?_⟩
    refine for_range (lo := 0) (n := (12 : Int).toNat) (fun i σ H4 => ∃ a3 a4 a5 a6 a7 : Option V, σ = [some (.ref sA), some (.ref d), some (.ref L), a3, a4, a5, a6, a7, none, none, none, none, none, none] ∧ Deal H4 d l ∧ H4 L = some (.lst (refs as)) ∧ RowsAt H4 rs as) ⟨_, _, _, _, _, rfl, D3, h3, hr3⟩ ?_ ?_
    · rintro i σ H4 hi ⟨a3, a4, a5, a6, a7, rfl, D4, h4, hr4⟩
      refine ⟨_, rfl, L, _, rfl, .inl (SqL.of h4), fun S hS => ?_⟩
      have ls : LsAt d l (upd H4 S (.lst (refs as))) 0 (rs.map Rw.rv) S := LsAt.new D4 hS (rows_rv hr4 hall) (by rw [List.length_map]; omega) (fun r hr => by
        obtain ⟨q, hq, rfl⟩ := List.mem_map.mp hr
        exact bd_of_ok (hall q hq))
      have s5 := new_same (o := .lst (refs as)) hS
      have D5 := D4.new (o := .lst (refs as)) hS
      have h5 := s5 _ _ h4
      have hr5 := hr4.same s5
      generalize upd H4 S (.lst (refs as)) = H5 at ls D5 h5 hr5 ⊢
      dsimp only [List.set_cons_succ, List.set_cons_zero]
      refine ⟨_, rfl, d, l, _, rfl, D5, by decide, by decide, fun y H6 y0 y1 D6 kp6 => ?_⟩
      have ls6 := ls.kept D5 kp6
      have h6 := kp6 _ _ h5 nLd nLl
      have hr6 := hr5.kept D5 kp6
      refine ⟨_, rfl, by omega, by omega, ?_⟩
      refine for_range (lo := 0) (n := y.toNat) (fun j σ H7 => ∃ (a5 : Option V) (q : Addr) (rs' : List Rv), σ = [some (.ref sA), some (.ref d), some (.ref L), some (.int (0 + (i : Int))), some (.ref q), a5, a6, a7, none, none, none, none, none, none] ∧ Deal H7 d l ∧ H7 L = some (.lst (refs as)) ∧ RowsAt H7 rs as ∧ LsAt d l H7 j rs' q) ⟨_, S, _, rfl, D6, h6, hr6, ls6⟩ ?_ ?_
      · rintro j σ H7 hj ⟨a5', q, rs', rfl, D7, h7, hr7, ls7⟩
        refine ⟨_, rfl, _, rfl, d, l, q, j, rs', rfl, D7, ls7, by omega, fun q' rs2 H8 D8 kp8 ls8 => ?_⟩
        exact ⟨_, q', rs2, rfl, D8, kp8 _ _ h7 nLd nLl, hr7.kept D7 kp8, ls8⟩
      · rintro σ H7 ⟨a5', q, rs', rfl, D7, h7, hr7, ls7⟩
        obtain ⟨vs, hq, al⟩ := ls7.ex
        refine ⟨_, rfl, q, vs, rfl, .inl (SqL.of hq), fun K' hK' => ?_⟩
        dsimp only [List.set_cons_succ, List.set_cons_zero]
        have s8 := new_same (o := .lst vs) hK'
        have v8 : upd H7 K' (.lst vs) K' = some (.lst vs) := upd_same
        generalize upd H7 K' (.lst vs) = H8 at s8 v8 ⊢
        refine ⟨_, rfl, _, rfl, q, vs, rfl, .inl ⟨SqL.of (s8 _ _ hq), fun t ht => ?_⟩⟩
        have s9 := s8.trans (new_same (o := .tup vs) ht)
        have s9' := new_same (o := .tup vs) ht
        have v9 : upd H8 t (.tup vs) t = some (.tup vs) := upd_same
        generalize upd H8 t (.tup vs) = H9 at s9 s9' v9 ⊢
        refine ⟨by show 2 ≤ sizeLine; decide, fun U hU => ?_⟩
        have s10 := s9.trans (new_same (o := .tup [.ref q, .ref t]) hU)
        have s10' := s9'.trans (new_same (o := .tup [.ref q, .ref t]) hU)
        have v10 : upd H9 U (.tup [.ref q, .ref t]) U = some (.tup [.ref q, .ref t]) := upd_same
        have v10t := new_same (o := .tup [.ref q, .ref t]) hU _ _ v9
        generalize upd H9 U (.tup [.ref q, .ref t]) = H10 at s10 s10' v10 v10t ⊢
        refine ⟨U, rfl, ⟨_, SqT.of v10⟩, ?_⟩
        have rok : RowsOk rs' := ⟨by have := ls7.len; omega, fun r hr => by
          have := ls7.bd r hr
          cases r with
          | it x => show 0 ≤ 100; omega
          | tup xs => have := this.1; show xs.length ≤ 100; omega
          | lst xs => have := this.1; show xs.length ≤ 100; omega⟩
        have rng := due_range (rs := rs') (by have := rok.1; omega)
        refine for_it walk_tup (fun m σ H11 => ∃ a7 : Option V, σ = [some (.ref sA), some (.ref d), some (.ref L), some (.int (0 + (i : Int))), some (.ref q), a5', some (.ref K'), a7, none, none, none, none, none, none] ∧ Same H10 H11) ⟨_, rfl, Same.refl _⟩ (fun m σ H11 _ ⟨_, _, sm⟩ => SqT.of (sm _ _ v10)) ?_ ?_
        · rintro m x σ H11 H12 hm ⟨a7', rfl, sm⟩ ⟨rfl, hx⟩
          have sA := s10.trans sm
          obtain ⟨g, rfl, hg⟩ : ∃ g, x = .ref g ∧ (H12 g = some (.lst vs) ∨ H12 g = some (.tup vs)) := by
            have hm2 : m = 0 ∨ m = 1 := by have : m < 2 := hm; omega
            rcases hm2 with rfl | rfl
            · obtain rfl := Option.some.inj hx
              exact ⟨q, rfl, .inl (sA _ _ hq)⟩
            · obtain rfl := Option.some.inj hx
              exact ⟨t, rfl, .inr (sm _ _ v10t)⟩
          have al12 := al.mono fun _ _ => RvAt.same sA
          refine ⟨_, rfl, g, d, l, vs, rs', rfl, hg, al12, rok, fun v1 H13 s13 dv1 => ?_⟩
          dsimp only [tNil]
          refine due_repr dv1 rng ?_
          refine ⟨_, rfl, q, d, l, vs, rs', rfl, s13 _ _ (sA _ _ hq), al12.mono fun _ _ => RvAt.same s13, rok, fun v2 H14 s14 dv2 => ?_⟩
          dsimp only [tNil]
          refine due_repr dv2 rng ?_
          refine ⟨rfl, _, rfl, ?_⟩
          refine iteNS rfl ?_
          have sB := sA.trans (s13.trans s14)
          have sK := (s10'.trans sm).trans (s13.trans s14)
          have v14 : H14 K' = some (.lst vs) := (s13.trans s14) _ _ (sm _ _ (s10' _ _ v8))
          have al14 := al.mono fun _ _ => RvAt.same sB
          obtain ⟨dp, lay, dep⟩ := rvs_dp (K := K) al14
          refine ⟨_, rfl, _, rfl, _, _, .lst (SqL.of (sB _ _ hq)) dp, .lst (SqL.of v14) dp, lst_shape lay dep, lst_shape lay dep, ?_⟩
          rw [SeqAt.eqv_refl _ (show (PyData.list (rs'.map Rv.d)).canLay0 = true by rw [PyData.canLay0]; exact lay)]
          refine ⟨_, rfl, iteF ?_⟩
          exact ⟨_, rfl, sm.trans (s13.trans s14)⟩
        · rintro σ H11 ⟨a7', rfl, sm⟩
          have sA := s10.trans sm
          exact ⟨_, _, _, _, _, rfl, D7.same sA, sA _ _ h7, hr7.same sA⟩
    · rintro σ H4 ⟨a3, a4, a5, a6, a7, rfl, D4, h4, hr4⟩
      refine ⟨_, rfl, fun c dc hc0 hdc _ => make_codeX (d := d) (l := l) hc0 hdc (.inl h4) hr4 hall hdue (by omega) fun H5 s5 hc5 => ⟨rfl, ?_⟩⟩
      have D5 := D4.same s5
      have h5 := s5 _ _ h4
      have hr5 := hr4.same s5
      have hal : (refs as).length = rs.length := by rw [refs_len, hr5.len]
      dsimp only [List.set_cons_succ, List.set_cons_zero]
      obtain ⟨dx, t, cs, c1, c2, c3⟩ := id hc5
      -- its rows
      refine ⟨_, rfl, c, C, dx, _, _, rfl, c1, M.cl, M.n_rows, rfl, ?_⟩
      refine ⟨_, rfl, L, _, rfl, .inl ⟨SqL.of h5, fun u hu0 => ?_⟩⟩
      have s6 := new_same (o := .tup (refs as)) hu0
      refine ⟨_, _, tup_dp (c3.same s6) (s6 _ _ c2), tup_dp (hr5.updN hu0) upd_same, tupD_shaped hall, tupD_shaped hall, ?_⟩
      rw [tup_eqv hall]
      refine ⟨_, rfl, ?_⟩
      refine ⟨_, rfl, c, C, dx, _, _, rfl, s6 _ _ c1, M.cl, M.n_rows, rfl, ?_⟩
      refine ⟨_, _, _, _, true, rfl, .ty "tuple", .base (.tup (s6 _ _ c2)), kit_ty (a := "tuple") (b := "tuple") (r := true) (by decide +kernel), _, rfl, ?_⟩
      refine ⟨_, rfl, c, C, dx, _, MC.fl, MC.fdl, _, _, 1, CX0, E, rfl, s6 _ _ c1, MC.ml, MC.il, MC.okl, hr.mono (by decide), MC.bl, pass0, c, rs, rfl, hc5.same s6, _, rfl, by omega, by omega, ?_⟩
      refine ⟨_, rfl, L, _, rfl, .inl (SqL.of (s6 _ _ h5)), rfl, _, rfl, ?_⟩
      refine iteNS (by rw [hal]) ?_
      -- the same rows once more
      generalize hH6 : upd H5 u (.tup (refs as)) = H6 at s6 ⊢
      clear hH6
      have h6 := s6 _ _ h5
      have hr6 := hr5.same s6
      have hc6 := hc5.same s6
      refine ⟨_, rfl, _, rfl, L, _, rfl, .inl ⟨SqL.of h6, fun u2 hu2 => ?_⟩⟩
      have s7 := new_same (o := .tup (refs as)) hu2
      refine fun z dz hz0 hdz _ => make_codeX (d := d) (l := l) hz0 hdz (.inr upd_same) (hr6.same s7) hall hdue (by omega) fun H8 s8 hz8 => ⟨rfl, ?_⟩
      have s68 := s7.trans s8
      obtain ⟨dz', tz, zs, z1, z2, z3⟩ := id hz8
      obtain ⟨dc6, tc6, cs6, c61, _, _⟩ := id (hc6.same s68)
      refine ⟨c, z, C, dc6, dz', _, _, MC.fe, MC.fde, _, _, 1, CX0, E, rfl, rfl, c61, z1, MC.me, MC.oke, hr.mono (by decide), MC.be, pass0, c, .ref z, rs, rfl, hc6.same s68, hall, .inl ⟨z, rs, rfl, hz8, hall, ?_⟩⟩
      rw [tup_eqv hall]
      refine ⟨true, rfl, _, rfl, iteF ?_⟩
      -- no code: a tuple, a number
      refine ⟨_, rfl, _, rfl, L, _, rfl, .inl ⟨SqL.of (s68 _ _ h6), fun u3 hu3 => ?_⟩⟩
      have s9 := new_same (o := .tup (refs as)) hu3
      refine ⟨c, C, dc6, _, MC.fe, MC.fde, _, _, 1, CX0, E, .type "tuple", rfl, s9 _ _ c61, .base (.tup upd_same), MC.nt, MC.me, MC.oke, hr.mono (by decide), MC.be, pass0, c, .ref u3, rs, rfl, (hc6.same s68).same s9, hall, .inr ⟨⟨_, .base (.tup upd_same), MC.kt⟩, ?_⟩⟩
      refine ⟨false, rfl, _, rfl, iteF ?_⟩
      refine ⟨_, rfl, c, C, dc6, _, MC.fe, MC.fde, _, _, 1, CX0, E, .type "int", rfl, s9 _ _ c61, .base (.int 3), MC.ni, MC.me, MC.oke, hr.mono (by decide), MC.be, pass0, c, .int 3, rs, rfl, (hc6.same s68).same s9, hall, .inr ⟨⟨_, .base (.int 3), MC.ki⟩, ?_⟩⟩
      refine ⟨false, rfl, _, rfl, iteF ?_⟩
      -- rows that are near
      have s09 := s68.trans s9
      generalize hH9 : upd H8 u3 (.tup (refs as)) = H9 at s9 s09 ⊢
      clear hH9
      have h9 := s09 _ _ h6
      have hr9 := hr6.same s09
      have hc9 := hc6.same s09
      have D9 := ((D5.same s6).same s09)
      have ral := all2_of hr9
      have hlen12 : rs.length ≤ 12 := by omega
      refine ⟨_, rfl, _, rfl, _, rfl, L, _, rfl, SqL.of h9, fun n1 hn1 => ?_⟩
      rw [cut_init']
      have t1 := new_same (o := .lst ((refs as).take ((refs as).length - 1))) hn1
      have w1 : upd H9 n1 (.lst ((refs as).take ((refs as).length - 1))) n1 = some (.lst (refs (as.take (as.length - 1)))) := by
        rw [upd_same, refs_len]
        unfold refs
        rw [List.map_take]
      generalize upd H9 n1 (.lst ((refs as).take ((refs as).length - 1))) = G1 at t1 w1 ⊢
      refine ⟨_, rfl, _, rfl, L, _, rfl, SqL.of (t1 _ _ h9), fun n2 hn2 => ?_⟩
      rw [show cutV (refs as) (some 1) none = (refs as).drop 1 from cut_drop (refs as) 1]
      have t2 := new_same (o := .lst ((refs as).drop 1)) hn2
      have w2 : upd G1 n2 (.lst ((refs as).drop 1)) n2 = some (.lst (refs (as.drop 1))) := by
        rw [upd_same]
        unfold refs
        rw [List.map_drop]
      generalize upd G1 n2 (.lst ((refs as).drop 1)) = G2 at t2 w2 ⊢
      have t12 := t1.trans t2
      refine ⟨_, rfl, L, _, rfl, SqL.of (t12 _ _ h9), fun n3 hn3 => ?_⟩
      have t3 := new_same (o := .lst (refs as).reverse) hn3
      have w3 : upd G2 n3 (.lst (refs as).reverse) n3 = some (.lst (refs as.reverse)) := by
        rw [upd_same]
        unfold refs
        rw [List.map_reverse]
      generalize upd G2 n3 (.lst (refs as).reverse) = G3 at t3 w3 ⊢
      have t13 := t12.trans t3
      refine ⟨_, rfl, by show 3 ≤ sizeLine; decide, fun m hm => ?_⟩
      have t4 := new_same (o := .tup [.str "left", .int 0, .int 0]) hm
      have wm : upd G3 m (.tup [.str "left", .int 0, .int 0]) m = some (.tup (Rw.vs ⟨"left", [0, 0]⟩)) := upd_same
      generalize upd G3 m (.tup [.str "left", .int 0, .int 0]) = G4 at t4 wm ⊢
      refine ⟨by show 1 ≤ sizeLine; decide, fun b hb => ?_⟩
      have t5 := new_same (o := .lst [.ref m]) hb
      have wb : upd G4 b (.lst [.ref m]) b = some (.lst [.ref m]) := upd_same
      generalize upd G4 b (.lst [.ref m]) = G5 at t5 wb ⊢
      have t15 := (t13.trans t4).trans t5
      refine ⟨L, b, _, _, rfl, rfl, t15 _ _ h9, wb, Nat.le_of_lt (small1000 (by rw [hal]; show rs.length + 1 ≤ 1000; omega)), fun n4 hn4 => ?_⟩
      have t6 := new_same (o := .lst (refs as ++ [.ref m])) hn4
      have w4 : upd G5 n4 (.lst (refs as ++ [.ref m])) n4 = some (.lst (refs (as ++ [m]))) := by
        rw [upd_same]
        unfold refs
        rw [List.map_append]
        rfl
      generalize upd G5 n4 (.lst (refs as ++ [.ref m])) = G6 at t6 w4 ⊢
      have t16 := t15.trans t6
      have nears : ∀ n ∈ [n1, n2, n3, n4], ∃ ns, NearAt G6 n ns := by
        have ra := ral.mono fun a r (h : RowAt H9 r a) => h.same t16
        intro n hn
        have hn' : n = n1 ∨ n = n2 ∨ n = n3 ∨ n = n4 := by simpa using hn
        rcases hn' with rfl | rfl | rfl | rfl
        · exact ⟨rs.take (as.length - 1), _, (((t2.trans t3).trans (t4.trans t5)).trans t6) _ _ w1, of_all2 (ra.take _), fun r hr => hall r (List.mem_of_mem_take hr), by rw [List.length_take]; omega⟩
        · exact ⟨rs.drop 1, _, ((t3.trans (t4.trans t5)).trans t6) _ _ w2, of_all2 (ra.drop _), fun r hr => hall r (List.mem_of_mem_drop hr), by rw [List.length_drop]; omega⟩
        · exact ⟨rs.reverse, _, ((t4.trans t5).trans t6) _ _ w3, of_all2 ra.rev, fun r hr => hall r (List.mem_reverse.mp hr), by rw [List.length_reverse]; omega⟩
        · refine ⟨rs ++ [⟨"left", [0, 0]⟩], _, w4, of_all2 (ra.app (.cons ((t5.trans t6) _ _ wm) .nil)), fun r hr => ?_, by rw [List.length_append]; show rs.length + 1 ≤ 20; omega⟩
          rcases List.mem_append.mp hr with h | h
          · exact hall r h
          · rw [List.mem_singleton.mp h]; exact new_left
      refine ⟨by show 4 ≤ sizeLine; decide, fun NL hNL => ?_⟩
      have t7 := new_same (o := .lst [.ref n1, .ref n2, .ref n3, .ref n4]) hNL
      have wN : upd G6 NL (.lst [.ref n1, .ref n2, .ref n3, .ref n4]) NL = some (.lst (refs [n1, n2, n3, n4])) := upd_same
      replace nears : ∀ n ∈ [n1, n2, n3, n4], ∃ ns, NearAt (upd G6 NL (.lst [.ref n1, .ref n2, .ref n3, .ref n4])) n ns := fun n hn => let ⟨ns, h⟩ := nears n hn; ⟨ns, h.same t7⟩
      generalize upd G6 NL (.lst [.ref n1, .ref n2, .ref n3, .ref n4]) = G7 at t7 wN nears ⊢
      have t17 := t16.trans t7
      refine ⟨NL, rfl, ⟨_, SqL.of wN⟩, fun X1 hX1 => ?_⟩
      refine lc_it walk_list (fun i H1 => Same G7 H1 ∧ ∃ ks : List Addr, H1 X1 = some (.lst (refs ks)) ∧ ks.length ≤ i ∧ ∀ q ∈ ks, ∃ ns, NearAt G7 q ns ∧ due (ns.map Rw.rv) = none) ⟨new_same hX1, [], upd_same, Nat.le_refl _, fun q hq => by cases hq⟩ (fun i H1 _ h => SqL.of (h.1 _ _ wN)) ?_ ?_
      · rintro i x H1 H2 hi ⟨sm, ks, hks, hkl, hkn⟩ ⟨rfl, hx⟩
        obtain ⟨q, rfl, hq⟩ : ∃ q, x = .ref q ∧ q ∈ [n1, n2, n3, n4] := by
          obtain ⟨q, hq, e⟩ := List.mem_map.mp (List.mem_of_getElem? (show (refs [n1, n2, n3, n4])[i]? = some x from hx))
          exact ⟨q, e.symm, hq⟩
        obtain ⟨ns, hn7⟩ := nears q hq
        obtain ⟨bs, hb1, hb2, hb3, hb4⟩ := hn7.same sm
        refine ⟨rfl, ?_⟩
        refine ⟨_, rfl, q, d, l, refs bs, ns.map Rw.rv, rfl, hb1, rows_rv hb2 hb3, rows_ok hb3 (by omega), fun v H3 s3 dv => ?_⟩
        refine ⟨rfl, _, rfl, ?_⟩
        have hks3 := s3 _ _ hks
        cases hd : due (ns.map Rw.rv) with
        | none =>
          rw [hd] at dv
          obtain rfl : v = .non := dv
          rw [decide_eq_true rfl]
          refine iteT ?_
          refine ⟨_, rfl, _, hks3, ?_, fun b o e => ?_, ks ++ [q], ?_, by rw [List.length_append]; show ks.length + 1 ≤ i + 1; omega, fun y hy => ?_⟩
          · rw [refs_len]
            have : i < 4 := hi
            exact small1000 (by omega)
          · rw [upd_ne (ne_of_none e hX1)]
            exact s3 _ _ (sm _ _ e)
          · rw [upd_same]
            unfold refs
            rw [List.map_append]
            rfl
          · rcases List.mem_append.mp hy with h | h
            · exact hkn y h
            · rw [List.mem_singleton.mp h]
              exact ⟨ns, hn7, hd⟩
        | some o =>
          obtain ⟨w0, i0⟩ := o
          rw [hd] at dv
          obtain ⟨pv0, rfl, _⟩ := dv
          rw [decide_eq_false (show ¬ V.ref pv0 = V.non from fun e => by cases e)]
          refine iteF ?_
          exact ⟨sm.trans s3, ks, hks3, Nat.le_succ_of_le hkl, hkn⟩
      · rintro H1 ⟨sm, ks, hks, hkl, hkn⟩
        dsimp only [List.set_cons_succ, List.set_cons_zero]
        have sX := t17.trans sm
        have hcX := hc9.same sX
        have hrX := hr9.same sX
        have hLX := sX _ _ h9
        have hks' : ks.length ≤ 4 := hkl
        refine ⟨_, rfl, X1, rfl, ⟨_, SqL.of hks⟩, fun X2 hX2 => ?_⟩
        refine lc_it walk_list (fun i H2 => Same H1 H2 ∧ H2 X2 = some (.lst [])) ⟨new_same hX2, upd_same⟩ (fun i H2 _ h => SqL.of (h.1 _ _ hks)) ?_ ?_
        · rintro i x H2 H3 hi ⟨s2, hX⟩ ⟨rfl, hx⟩
          obtain ⟨q, rfl, hq⟩ : ∃ q, x = .ref q ∧ q ∈ ks := by
            obtain ⟨q, hq, e⟩ := List.mem_map.mp (List.mem_of_getElem? (show (refs ks)[i]? = some x from hx))
            exact ⟨q, e.symm, hq⟩
          obtain ⟨ns, hn7, hdn⟩ := hkn q hq
          obtain ⟨bs, hb1, hb2, hb3, hb4⟩ := hn7.same (sm.trans s2)
          refine ⟨rfl, ?_⟩
          refine ⟨_, rfl, fun z dz hz0 hdz _ => make_codeX (d := d) (l := l) hz0 hdz (.inl hb1) hb2 hb3 hdn (by omega) fun H4 s4 hz4 => ⟨rfl, ?_⟩⟩
          obtain ⟨dzz, tz, zs, z1, z2, z3⟩ := id hz4
          have hc4 := (hcX.same s2).same s4
          obtain ⟨dcc, tcc, ccs, cc1, _, _⟩ := id hc4
          refine ⟨_, rfl, z, c, C, dzz, dcc, _, _, MC.fe, MC.fde, _, _, 1, E, rfl, rfl, z1, cc1, MC.me, MC.oke, hr.mono (by decide), MC.be, z, .ref c, ns, rfl, hz4, hb3, .inl ⟨c, rs, rfl, hc4, hall, ?_⟩⟩
          refine ⟨_, rfl, ?_⟩
          refine ⟨_, rfl, _, rfl, _, _, lst_dp (hb2.same s4) (s4 _ _ hb1), lst_dp ((hrX.same s2).same s4) (s4 _ _ (s2 _ _ hLX)), lstD_shaped hb3, lstD_shaped hall, ?_⟩
          refine ⟨rfl, _, rfl, ?_⟩
          rw [lst_eqv]
          refine iteNS rfl ?_
          exact ⟨s2.trans s4, s4 _ _ hX⟩
        · rintro H2 ⟨s2, hX⟩
          refine ⟨by show 0 ≤ sizeLine; decide, fun e he => ?_⟩
          have s3 := new_same (o := .lst []) he
          refine ⟨.list [], .list [], .lst (SqL.of (s3 _ _ hX)) .nil, .lst (SqL.of upd_same) .nil, rfl, rfl, ?_⟩
          rw [show PyData.eqv (.list []) (.list []) = true from rs_eqv_nil []]
          refine ⟨_, rfl, iteF ?_⟩
          have sE := sX.trans (s2.trans s3)
          have DE := D9.same sE
          have hLE := sE _ _ h9
          have hcE := hc9.same sE
          generalize hHE : upd H2 e (.lst []) = HE at sE DE hLE hcE ⊢
          clear hHE
          -- the list of rows grows, the code does not
          refine ⟨_, rfl, .inl ⟨rfl, _, SqL.of hLE⟩, by show 3 ≤ sizeLine; decide, fun m2 hm2 => ?_⟩
          have s4 := new_same (o := .tup [.str "left", .int 0, .int 0]) hm2
          refine ⟨L, _, _, rfl, rfl, s4 _ _ hLE, small1000 (by rw [hal]; omega), ?_⟩
          have hL4 : (upd HE m2 (.tup [.str "left", .int 0, .int 0])) L = some (.lst (refs as)) := s4 _ _ hLE
          have hc4 := (hcE.same s4).updL (o := .lst (refs as ++ [.ref m2])) hL4
          have D4' := (DE.new (o := .tup [.str "left", .int 0, .int 0]) hm2).other (o := .lst (refs as ++ [.ref m2])) nLd nLl
          have vL : upd (upd HE m2 (.tup [.str "left", .int 0, .int 0])) L (.lst (refs as ++ [.ref m2])) L = some (.lst (refs as ++ [.ref m2])) := upd_same
          generalize upd (upd HE m2 (.tup [.str "left", .int 0, .int 0])) L (.lst (refs as ++ [.ref m2])) = HF at hc4 D4' vL ⊢
          obtain ⟨dxF, tF, csF, cF1, _, _⟩ := id hc4
          refine ⟨_, rfl, c, C, dxF, _, MC.fl, MC.fdl, _, _, 1, CX0, E, rfl, cF1, MC.ml, MC.il, MC.okl, hr.mono (by decide), MC.bl, pass0, c, rs, rfl, hc4, _, rfl, by omega, by omega, ?_⟩
          refine ⟨_, rfl, L, _, rfl, .inl (SqL.of vL), _, _, rfl, rfl, rfl, _, rfl, ?_⟩
          refine iteNS (by rw [List.length_append, hal]; show V.int _ = V.int _; congr 1; show (rs.length : Int) = ((rs.length + 1 : Nat) : Int) - 1; omega) ?_
          refine ⟨_, rfl, d, l, rfl, D4', fun HM DM kpM => ?_⟩
          refine ⟨_, rfl, iteF ?_⟩
          -- many rows
          refine ⟨_, rfl, d, l, _, rfl, DM, by decide, by decide, fun y HN y0 y1 DN kpN => ?_⟩
          obtain ⟨yn, rfl⟩ : ∃ j : Nat, y = (j : Int) := ⟨y.toNat, by omega⟩
          refine ⟨_, _, rfl, rfl, ?_⟩
          dsimp only [List.set_cons_succ, List.set_cons_zero]
          have eN : ((999 : Int) + (yn : Int)).toNat = 999 + yn := by omega
          refine ⟨by show 3 ≤ sizeLine; decide, fun m3 hm3 => ?_⟩
          have u1 := new_same (o := .tup [.str "left", .int 0, .int 1]) hm3
          have wm3 : upd HN m3 (.tup [.str "left", .int 0, .int 1]) m3 = some (.tup [.str "left", .int 0, .int 1]) := upd_same
          have DN1 := DN.new (o := .tup [.str "left", .int 0, .int 1]) hm3
          generalize upd HN m3 (.tup [.str "left", .int 0, .int 1]) = HO1 at u1 wm3 DN1 ⊢
          refine ⟨by show 1 ≤ sizeLine; decide, fun b3 hb3 => ?_⟩
          have u2 := new_same (o := .lst [.ref m3]) hb3
          have wb3 : upd HO1 b3 (.lst [.ref m3]) b3 = some (.lst [.ref m3]) := upd_same
          have DN2 := DN1.new (o := .lst [.ref m3]) hb3
          have wm3' := u2 _ _ wm3
          generalize upd HO1 b3 (.lst [.ref m3]) = HO2 at u2 wb3 DN2 wm3' ⊢
          refine ⟨_, rfl, b3, _, _, rfl, rfl, wb3, by omega, by omega, ?_, fun G hG => ?_⟩
          · rw [eN]
            show 1 * (999 + yn) ≤ sizeLine
            have : (2000 : Nat) ≤ sizeLine := by decide +kernel
            omega
          obtain ⟨nGd, nGl⟩ := DN2.free hG
          rw [eN, flat_one] at *
          have u3 := new_same (o := .lst (List.replicate (999 + yn) (.ref m3))) hG
          have DN3 := DN2.new (o := .lst (List.replicate (999 + yn) (.ref m3))) hG
          have wG : upd HO2 G (.lst (List.replicate (999 + yn) (.ref m3))) G = some (.lst (List.replicate (999 + yn) (.ref m3))) := upd_same
          have wm4 := u3 _ _ wm3'
          generalize upd HO2 G (.lst (List.replicate (999 + yn) (.ref m3))) = HG at u3 DN3 wG wm4 ⊢
          dsimp only [List.set_cons_succ, List.set_cons_zero]
          have oneAt : ∀ {H' : Hp}, Same HG H' → RvAt d l H' (.ref m3) oneR := fun {H'} sm => ⟨m3, _, rfl, sm _ _ wm4, .cons ⟨rfl, by decide +kernel⟩ (.cons rfl (.cons rfl .nil))⟩
          have alG : ∀ {H' : Hp}, Same HG H' → RvsAt d l H' (List.replicate (999 + yn) (.ref m3)) (List.replicate (999 + yn) oneR) := fun {H'} sm => by
            have := rep2 (All2.cons (oneAt sm) .nil) (999 + yn)
            rw [flat_one, flat_one] at this
            exact this
          have rokG : RowsOk (List.replicate (999 + yn) oneR) := ⟨by rw [List.length_replicate]; omega, fun r hr => by rw [List.eq_of_mem_replicate hr]; show 3 ≤ 100; decide⟩
          have rngG := due_range (rs := List.replicate (999 + yn) oneR) (by have := rokG.1; omega)
          refine seq_by (fun σ HP => σ = [some (.ref sA), some (.ref d), some (.ref L), a3, a4, a5, a6, a7, some (.ref c), some (.ref X1), none, some (.int (999 + (yn : Int))), some (.ref G), none] ∧ Same HG HP) (fun D' hD' => ?_) ?_
          · refine ⟨_, rfl, G, d, l, _, List.replicate (999 + yn) oneR, rfl, .inl wG, alG (Same.refl _), rokG, fun v1 H13 s13 dv1 => ?_⟩
            dsimp only [tNil]
            refine due_repr dv1 rngG ?_
            refine ⟨_, rfl, _, _, rfl, rfl, _, rfl, ?_⟩
            refine ite2 (fun hlt => ?_) (fun hlt => ?_)
            · have hlt := of_decide_eq_true hlt
              dsimp only [tNil, tC]
              refine due_repr (o := none) rfl trivial ?_
              refine ⟨rfl, _, rfl, ?_⟩
              refine iteNS (by rw [one_due, if_neg (by omega)]) ?_
              exact hD' _ _ ⟨rfl, s13⟩
            · have hlt := of_decide_eq_false (Bool.eq_false_iff.mpr hlt)
              refine ⟨_, _, rfl, rfl, by show 2 ≤ sizeLine; decide, fun p5 hp5 => ?_⟩
              dsimp only [tNil]
              refine due_repr (o := some (("count" : Str), (-1 : Int))) ⟨p5, rfl, upd_same⟩ ⟨.inl rfl, by decide, by decide⟩ ?_
              refine ⟨rfl, _, rfl, ?_⟩
              refine iteNS (by rw [one_due, if_pos (by omega)]) ?_
              exact hD' _ _ ⟨rfl, s13.trans (new_same hp5)⟩
          rintro σ HP ⟨rfl, sp⟩
          have DP := DN3.same sp
          have wGP := sp _ _ wG
          refine ⟨_, rfl, _, rfl, d, l, _, rfl, DP, by omega, by omega, fun at0 HQ q0 q1 DQ kpQ => ?_⟩
          obtain ⟨at_, rfl⟩ : ∃ j : Nat, at0 = (j : Int) := ⟨at0.toNat, by omega⟩
          have wGQ := kpQ _ _ wGP nGd nGl
          dsimp only [List.set_cons_succ, List.set_cons_zero]
          refine ⟨by show 3 ≤ sizeLine; decide, fun a5' ha5 => ?_⟩
          have x1 := new_same (o := .tup [.str "left", .int 9, .int 1]) ha5
          have y1' : upd HQ a5' (.tup [.str "left", .int 9, .int 1]) a5' = some (.tup [.str "left", .int 9, .int 1]) := upd_same
          have DQ1 := DQ.new (o := .tup [.str "left", .int 9, .int 1]) ha5
          generalize upd HQ a5' (.tup [.str "left", .int 9, .int 1]) = HR1 at x1 y1' DQ1 ⊢
          refine ⟨by show 5 ≤ sizeLine; decide, fun b5 hb5 => ?_⟩
          have x2 := new_same (o := .tup [.str "skip", .int 0, .int 1, .int 0, .int 1000]) hb5
          have y2 : upd HR1 b5 (.tup [.str "skip", .int 0, .int 1, .int 0, .int 1000]) b5 = some (.tup [.str "skip", .int 0, .int 1, .int 0, .int 1000]) := upd_same
          have DQ2 := DQ1.new (o := .tup [.str "skip", .int 0, .int 1, .int 0, .int 1000]) hb5
          generalize upd HR1 b5 (.tup [.str "skip", .int 0, .int 1, .int 0, .int 1000]) = HR2 at x2 y2 DQ2 ⊢
          refine ⟨by show 2 ≤ sizeLine; decide, fun c5 hc5' => ?_⟩
          have x3 := new_same (o := .tup [.str "left", .int 0]) hc5'
          have y3 : upd HR2 c5 (.tup [.str "left", .int 0]) c5 = some (.tup [.str "left", .int 0]) := upd_same
          have DQ3 := DQ2.new (o := .tup [.str "left", .int 0]) hc5'
          generalize upd HR2 c5 (.tup [.str "left", .int 0]) = HR3 at x3 y3 DQ3 ⊢
          have all4 : RvsAt d l HR3 [.ref a5', .ref b5, .str "left", .ref c5] spoilR := .cons ⟨a5', _, rfl, (x2.trans x3) _ _ y1', .cons ⟨rfl, by decide +kernel⟩ (.cons rfl (.cons rfl .nil))⟩ (.cons ⟨b5, _, rfl, x3 _ _ y2, .cons ⟨rfl, by decide +kernel⟩ (.cons rfl (.cons rfl (.cons rfl (.cons rfl .nil))))⟩ (.cons ⟨rfl, by decide +kernel⟩ (.cons ⟨c5, _, rfl, y3, .cons ⟨rfl, by decide +kernel⟩ (.cons rfl .nil)⟩ .nil)))
          refine ⟨by show 4 ≤ sizeLine; decide, fun L4 hL4n => ?_⟩
          have fL4 := DQ3.free hL4n
          have DQ4 := DQ3.new (o := .lst [.ref a5', .ref b5, .str "left", .ref c5]) hL4n
          have xA := ((x1.trans x2).trans x3).trans (new_same (o := .lst [.ref a5', .ref b5, .str "left", .ref c5]) hL4n)
          have all4' := all4.mono fun _ _ => RvAt.same (new_same (o := .lst [.ref a5', .ref b5, .str "left", .ref c5]) hL4n)
          have wL4 : upd HR3 L4 (.lst [.ref a5', .ref b5, .str "left", .ref c5]) L4 = some (.lst [.ref a5', .ref b5, .str "left", .ref c5]) := upd_same
          generalize upd HR3 L4 (.lst [.ref a5', .ref b5, .str "left", .ref c5]) = HR4 at DQ4 xA all4' wL4 ⊢
          refine ⟨_, rfl, d, l, _, rfl, DQ4, by decide, by decide, fun r5 HS r50 r51 DS5 kpS => ?_⟩
          obtain ⟨j, rfl⟩ : ∃ j : Nat, r5 = (j : Int) := ⟨r5.toNat, by omega⟩
          have hj : j < spoilR.length := by show j < 4; omega
          obtain ⟨y, hy, hyr⟩ := (all4'.mono fun _ _ => RvAt.kept DQ4 kpS).get (List.getElem?_eq_getElem hj)
          have wGS := kpS _ _ (xA _ _ wGQ) nGd nGl
          refine ⟨L4, _, _, y, rfl, rfl, SqL.of (kpS _ _ wL4 fL4.1 fL4.2), atI_nat hy, ?_⟩
          have hatN : at_ < (List.replicate (999 + yn) (V.ref m3)).length := by rw [List.length_replicate]; omega
          refine ⟨_, rfl, _, rfl, G, _, _, at_, rfl, rfl, wGS, ixN_nt hatN, ?_⟩
          have alS : RvsAt d l HS (List.replicate (999 + yn) (.ref m3)) (List.replicate (999 + yn) oneR) := ((((alG (Same.refl _)).mono fun _ _ => RvAt.same sp).mono fun _ _ => RvAt.kept DP kpQ).mono fun _ _ => RvAt.same xA).mono fun _ _ => RvAt.kept DQ4 kpS
          have nlS : ∀ r ∈ spoilR, ∀ ys, r ≠ .lst ys := by
            intro r hr ys e
            subst e
            simp [spoilR] at hr
          have alU : RvsAt d l (upd HS G (.lst ((List.replicate (999 + yn) (V.ref m3)).set at_ y))) ((List.replicate (999 + yn) (V.ref m3)).set at_ y) ((List.replicate (999 + yn) oneR).set at_ spoilR[j]) :=
            (all2_mem alS fun a b hb h => h.updL wGS fun ys e => by rw [List.eq_of_mem_replicate hb] at e; cases e).set at_ (hyr.updL wGS (nlS _ (List.getElem_mem hj)))
          have rokU : RowsOk ((List.replicate (999 + yn) oneR).set at_ spoilR[j]) := ⟨by rw [List.length_set, List.length_replicate]; omega, fun r hr => by
            rcases List.mem_or_eq_of_mem_set hr with h | h
            · exact rokG.2 r h
            · rw [h]; exact spoil_its _ (List.getElem_mem hj)⟩
          have rngU := due_range (rs := (List.replicate (999 + yn) oneR).set at_ spoilR[j]) (by have := rokU.1; omega)
          have wU : upd HS G (.lst ((List.replicate (999 + yn) (V.ref m3)).set at_ y)) G = some (.lst ((List.replicate (999 + yn) (V.ref m3)).set at_ y)) := upd_same
          generalize upd HS G (.lst ((List.replicate (999 + yn) (V.ref m3)).set at_ y)) = HU at alU wU ⊢
          refine ⟨_, rfl, G, d, l, _, _, rfl, .inl wU, alU, rokU, fun v1 H21 s21 dv1 => ?_⟩
          dsimp only [tNil]
          refine due_repr dv1 rngU ?_
          refine ⟨_, rfl, G, d, l, _, _, rfl, s21 _ _ wU, alU.mono fun _ _ => RvAt.same s21, rokU, fun v2 H22 s22 dv2 => ?_⟩
          dsimp only [tNil]
          refine due_repr dv2 rngU ?_
          refine ⟨rfl, ?_⟩
          show Q (.bl (decide (V.str _ = V.str _))) H22
          rw [decide_eq_true rfl]
          exact k _
end
end My

set_option Elab.async false
set_option linter.all false
set_option maxRecDepth 100000
set_option maxHeartbeats 0
namespace My
open PySem L2 MyR RT
def intsAre : List Value → List Int → Bool
  | [], [] => true
  | .int x _ :: r, y :: s => x == y && intsAre r s
  | _, _ => false
theorem ints_vals : ∀ {us : List Value} {zs : List Int}, intsAre us zs = true → Vals (zs.map V.int) us
  | [], zs, h => by
    cases zs with
    | nil => exact .nil
    | cons z s => cases h
  | v :: r, zs, h => by
    cases v with
    | int x t =>
      cases zs with
      | nil => cases h
      | cons y s =>
        have h' : (x == y && intsAre r s) = true := h
        rw [Bool.and_eq_true] at h'
        obtain rfl := beq_iff_eq.mp h'.1
        exact .cons ⟨t, rfl⟩ (ints_vals h'.2)
    | _ => cases zs <;> cases h
theorem ble_size {n : Nat} (h : Nat.ble n 1000 = true) : n ≤ sizeLine := Nat.le_of_lt (small1000 (Nat.le_of_ble_eq_true h))
theorem kit_own {K : PySem.W.Frag} {C D : Addr} (h1 : PySem.W.isClsIn K D = true) (h2 : PySem.W.typeIn K (.ref D) = some (.type "type")) (h3 : PySem.W.subIn K (.ref C) (.ref D) = some true) : PySem.W.kitOne K (.ref C) (.ref D) = some true := by
  unfold PySem.W.kitOne
  by_cases e : ((Value.ref C) == (Value.ref D)) = true
  · rw [if_pos e]
  · rw [if_neg e]
    have h1' : (PySem.W.clsIn K D).isSome = true := h1
    show (if ((PySem.W.clsIn K D).isSome && PySem.W.typeIn K (.ref D) == some (.type "type")) = true then PySem.W.subIn K (.ref C) (.ref D) else none) = some true
    rw [h1', h2, if_pos (by rfl)]
    exact h3
def keysF (e : DictEntry) : Bool := match e.key with
  | .str s _ => (formOf s).isSome
  | _ => false
theorem miss_of {K : PySem.W.Frag} {a : Addr} {es : Array DictEntry} {n : Nat} {x : Str} (l : K.lookup a = some ⟨.type "dict", none, .dict es n, #[]⟩) (h : es.toList.all keysF = true) (hx : formOf x = none) : PySem.W.nsIn K a x = some none := by
  have hk := List.all_eq_true.mp h
  have h1 : es.toList.find? (·.key.isStr x) = none := by
    rw [List.find?_eq_none]
    intro e he hs
    have := hk e he
    unfold keysF at this
    cases hkey : e.key with
    | str s t =>
      rw [hkey] at this hs
      have es : s = x := beq_iff_eq.mp hs
      subst es
      have this : (formOf s).isSome = true := this
      rw [hx] at this
      cases this
    | _ => rw [hkey] at this; cases this
  have h2 : es.toList.any (·.refKey) = false := by
    rw [List.any_eq_false]
    intro e he hr
    have := hk e he
    unfold keysF at this
    unfold DictEntry.refKey at hr
    cases hkey : e.key with
    | ref r => rw [hkey] at this; cases this
    | _ => rw [hkey] at hr; cases hr
  unfold PySem.W.nsIn
  rw [l]
  dsimp only
  rw [h1, h2]
  rfl
theorem kit_not {K : PySem.W.Frag} {D : Addr} {t : Value} (h1 : PySem.W.isClsIn K D = true) (h2 : PySem.W.typeIn K (.ref D) = some (.type "type")) (h3 : PySem.W.subIn K t (.ref D) = some false) (ne : (t == .ref D) = false) : PySem.W.kitOne K t (.ref D) = some false := by
  unfold PySem.W.kitOne
  rw [if_neg (by rw [ne]; exact Bool.false_ne_true)]
  have h1' : (PySem.W.clsIn K D).isSome = true := h1
  show (if ((PySem.W.clsIn K D).isSome && PySem.W.typeIn K (.ref D) == some (.type "type")) = true then PySem.W.subIn K t (.ref D) else none) = some false
  rw [h1', h2, if_pos (by rfl)]
  exact h3
theorem ref_ne {C D : Addr} (h : (C == D) = false) : (Value.ref C == Value.ref D) = false := Bool.eq_false_iff.mpr fun q => by
  have e : C = D := Value.ref.inj (beq_iff_eq.mp q)
  rw [e, beq_self_eq_true] at h
  cases h
theorem nf_of {K : PySem.W.Frag} {C : Addr} {t : Value} (h : PySem.W.subIn K t (.ref C) = some false) : PySem.W.notFirst K C t = true := by
  unfold PySem.W.notFirst
  rw [h]
  exact Bool.or_true _
theorem all_mk {P : Program} {w : World} {K : PySem.W.Frag} {h : Heap} {mg : Str → Option Value} {fa : Addr} (X : K.In h) (G : h.Ns mainGlobals mg) (hfa : mg "law" = some (.ref fa))
    {f_is_integer f_is_between f_is_small f_is_item f_is_row f_law_deal f_law_draw f_law_number f_law_row f_law_far_row f_law_far_rows f_law_is_whole f_law_item_fits f_law_row_fits f_law_due f_law_told f_law_odd_item f_law_spoilt f_law_machines_right f_law f_Code_init f_Code_len f_Code_eq f_Machine_init f_Machine_eq f_InvalidCode_init C_Code C_Machine C_InvalidCode C_LowError C_InvalidNode C_InvalidText C_Mismatch aM aF : Addr}
    {od_is_integer an_is_integer : Option Addr} {sl_is_integer : Array (Option Value)} {oc_is_integer kV_is_integer dc_is_integer pm_is_integer cd_is_integer ct_is_integer : Value}
    {od_is_between an_is_between : Option Addr} {sl_is_between : Array (Option Value)} {oc_is_between kV_is_between dc_is_between pm_is_between cd_is_between ct_is_between : Value}
    {od_is_small an_is_small : Option Addr} {sl_is_small : Array (Option Value)} {oc_is_small kV_is_small dc_is_small pm_is_small cd_is_small ct_is_small : Value}
    {od_is_item an_is_item : Option Addr} {sl_is_item : Array (Option Value)} {oc_is_item kV_is_item dc_is_item pm_is_item cd_is_item ct_is_item : Value}
    {od_is_row an_is_row : Option Addr} {sl_is_row : Array (Option Value)} {oc_is_row kV_is_row dc_is_row pm_is_row cd_is_row ct_is_row : Value}
    {od_law_deal an_law_deal : Option Addr} {sl_law_deal : Array (Option Value)} {oc_law_deal kV_law_deal dc_law_deal pm_law_deal cd_law_deal ct_law_deal : Value}
    {od_law_draw an_law_draw : Option Addr} {sl_law_draw : Array (Option Value)} {oc_law_draw kV_law_draw dc_law_draw pm_law_draw cd_law_draw ct_law_draw : Value}
    {od_law_number an_law_number : Option Addr} {sl_law_number : Array (Option Value)} {oc_law_number kV_law_number dc_law_number pm_law_number cd_law_number ct_law_number : Value}
    {od_law_row an_law_row : Option Addr} {sl_law_row : Array (Option Value)} {oc_law_row kV_law_row dc_law_row pm_law_row cd_law_row ct_law_row : Value}
    {od_law_far_row an_law_far_row : Option Addr} {sl_law_far_row : Array (Option Value)} {oc_law_far_row kV_law_far_row dc_law_far_row pm_law_far_row cd_law_far_row ct_law_far_row : Value}
    {od_law_far_rows an_law_far_rows : Option Addr} {sl_law_far_rows : Array (Option Value)} {oc_law_far_rows kV_law_far_rows dc_law_far_rows pm_law_far_rows cd_law_far_rows ct_law_far_rows : Value}
    {od_law_is_whole an_law_is_whole : Option Addr} {sl_law_is_whole : Array (Option Value)} {oc_law_is_whole kV_law_is_whole dc_law_is_whole pm_law_is_whole cd_law_is_whole ct_law_is_whole : Value}
    {od_law_item_fits an_law_item_fits : Option Addr} {sl_law_item_fits : Array (Option Value)} {oc_law_item_fits kV_law_item_fits dc_law_item_fits pm_law_item_fits cd_law_item_fits ct_law_item_fits : Value}
    {od_law_row_fits an_law_row_fits : Option Addr} {sl_law_row_fits : Array (Option Value)} {oc_law_row_fits kV_law_row_fits dc_law_row_fits pm_law_row_fits cd_law_row_fits ct_law_row_fits : Value}
    {od_law_due an_law_due : Option Addr} {sl_law_due : Array (Option Value)} {oc_law_due kV_law_due dc_law_due pm_law_due cd_law_due ct_law_due : Value}
    {od_law_told an_law_told : Option Addr} {sl_law_told : Array (Option Value)} {oc_law_told kV_law_told dc_law_told pm_law_told cd_law_told ct_law_told : Value}
    {od_law_odd_item an_law_odd_item : Option Addr} {sl_law_odd_item : Array (Option Value)} {oc_law_odd_item kV_law_odd_item dc_law_odd_item pm_law_odd_item cd_law_odd_item ct_law_odd_item : Value}
    {od_law_spoilt an_law_spoilt : Option Addr} {sl_law_spoilt : Array (Option Value)} {oc_law_spoilt kV_law_spoilt dc_law_spoilt pm_law_spoilt cd_law_spoilt ct_law_spoilt : Value}
    {od_law_machines_right an_law_machines_right : Option Addr} {sl_law_machines_right : Array (Option Value)} {oc_law_machines_right kV_law_machines_right dc_law_machines_right pm_law_machines_right cd_law_machines_right ct_law_machines_right : Value}
    {od_law an_law : Option Addr} {sl_law : Array (Option Value)} {oc_law kV_law dc_law pm_law cd_law ct_law : Value}
    {od_Code_init an_Code_init : Option Addr} {sl_Code_init : Array (Option Value)} {oc_Code_init kV_Code_init dc_Code_init pm_Code_init cd_Code_init ct_Code_init : Value}
    {od_Code_len an_Code_len : Option Addr} {sl_Code_len : Array (Option Value)} {oc_Code_len kV_Code_len dc_Code_len pm_Code_len cd_Code_len ct_Code_len : Value}
    {od_Code_eq an_Code_eq : Option Addr} {sl_Code_eq : Array (Option Value)} {oc_Code_eq kV_Code_eq dc_Code_eq pm_Code_eq cd_Code_eq ct_Code_eq : Value}
    {od_Machine_init an_Machine_init : Option Addr} {sl_Machine_init : Array (Option Value)} {oc_Machine_init kV_Machine_init dc_Machine_init pm_Machine_init cd_Machine_init ct_Machine_init : Value}
    {od_Machine_eq an_Machine_eq : Option Addr} {sl_Machine_eq : Array (Option Value)} {oc_Machine_eq kV_Machine_eq dc_Machine_eq pm_Machine_eq cd_Machine_eq ct_Machine_eq : Value}
    {od_InvalidCode_init an_InvalidCode_init : Option Addr} {sl_InvalidCode_init : Array (Option Value)} {oc_InvalidCode_init kV_InvalidCode_init dc_InvalidCode_init pm_InvalidCode_init cd_InvalidCode_init ct_InvalidCode_init : Value}
    {nmI qI : Str} {NI : Addr} {bsI : List Value} {snI : List Str} {subI : List Value} {abI : Bool} {colI : Option Bool} {ddI : Option Addr} {m0I m1I m2I m3I m5I : Option Value}
    {t1 t2 t3 t4 : Tok}
    {odM : Option Addr} {itsM : Array Value} {nM : Nat} {slM : Array (Option Value)} {esF : Array DictEntry} {nF : Nat}
    {tf_set tf_copy tf_add tf_sub tf_mul tf_left tf_right tf_load tf_store tf_skip : Tok}
    (a_is_integer : PySem.W.nsIn K mainGlobals "is_integer" = some (some (.ref f_is_integer)))
    (l_is_integer : K.lookup f_is_integer = some ⟨oc_is_integer, od_is_integer, .func (PySem.W.fnOf "is_integer" "is_integer" (defArgs s_is_integer) (defBody s_is_integer) (defScope s_is_integer) .none kV_is_integer dc_is_integer pm_is_integer an_is_integer cd_is_integer ct_is_integer), sl_is_integer⟩)
    (c_is_integer : PySem.W.codeIn K cd_is_integer "is_integer" = true)
    (k_is_integer : PySem.W.keepIn K (.ref f_is_integer) = true)
    (a_is_between : PySem.W.nsIn K mainGlobals "is_between" = some (some (.ref f_is_between)))
    (l_is_between : K.lookup f_is_between = some ⟨oc_is_between, od_is_between, .func (PySem.W.fnOf "is_between" "is_between" (defArgs s_is_between) (defBody s_is_between) (defScope s_is_between) .none kV_is_between dc_is_between pm_is_between an_is_between cd_is_between ct_is_between), sl_is_between⟩)
    (c_is_between : PySem.W.codeIn K cd_is_between "is_between" = true)
    (k_is_between : PySem.W.keepIn K (.ref f_is_between) = true)
    (a_is_small : PySem.W.nsIn K mainGlobals "is_small" = some (some (.ref f_is_small)))
    (l_is_small : K.lookup f_is_small = some ⟨oc_is_small, od_is_small, .func (PySem.W.fnOf "is_small" "is_small" (defArgs s_is_small) (defBody s_is_small) (defScope s_is_small) .none kV_is_small dc_is_small pm_is_small an_is_small cd_is_small ct_is_small), sl_is_small⟩)
    (c_is_small : PySem.W.codeIn K cd_is_small "is_small" = true)
    (k_is_small : PySem.W.keepIn K (.ref f_is_small) = true)
    (a_is_item : PySem.W.nsIn K mainGlobals "is_item" = some (some (.ref f_is_item)))
    (l_is_item : K.lookup f_is_item = some ⟨oc_is_item, od_is_item, .func (PySem.W.fnOf "is_item" "is_item" (defArgs s_is_item) (defBody s_is_item) (defScope s_is_item) .none kV_is_item dc_is_item pm_is_item an_is_item cd_is_item ct_is_item), sl_is_item⟩)
    (c_is_item : PySem.W.codeIn K cd_is_item "is_item" = true)
    (k_is_item : PySem.W.keepIn K (.ref f_is_item) = true)
    (a_is_row : PySem.W.nsIn K mainGlobals "is_row" = some (some (.ref f_is_row)))
    (l_is_row : K.lookup f_is_row = some ⟨oc_is_row, od_is_row, .func (PySem.W.fnOf "is_row" "is_row" (defArgs s_is_row) (defBody s_is_row) (defScope s_is_row) .none kV_is_row dc_is_row pm_is_row an_is_row cd_is_row ct_is_row), sl_is_row⟩)
    (c_is_row : PySem.W.codeIn K cd_is_row "is_row" = true)
    (k_is_row : PySem.W.keepIn K (.ref f_is_row) = true)
    (a_law_deal : PySem.W.nsIn K mainGlobals "_law_deal" = some (some (.ref f_law_deal)))
    (l_law_deal : K.lookup f_law_deal = some ⟨oc_law_deal, od_law_deal, .func (PySem.W.fnOf "_law_deal" "_law_deal" (defArgs s_law_deal) (defBody s_law_deal) (defScope s_law_deal) .none kV_law_deal dc_law_deal pm_law_deal an_law_deal cd_law_deal ct_law_deal), sl_law_deal⟩)
    (c_law_deal : PySem.W.codeIn K cd_law_deal "_law_deal" = true)
    (k_law_deal : PySem.W.keepIn K (.ref f_law_deal) = true)
    (a_law_draw : PySem.W.nsIn K mainGlobals "_law_draw" = some (some (.ref f_law_draw)))
    (l_law_draw : K.lookup f_law_draw = some ⟨oc_law_draw, od_law_draw, .func (PySem.W.fnOf "_law_draw" "_law_draw" (defArgs s_law_draw) (defBody s_law_draw) (defScope s_law_draw) .none kV_law_draw dc_law_draw pm_law_draw an_law_draw cd_law_draw ct_law_draw), sl_law_draw⟩)
    (c_law_draw : PySem.W.codeIn K cd_law_draw "_law_draw" = true)
    (k_law_draw : PySem.W.keepIn K (.ref f_law_draw) = true)
    (a_law_number : PySem.W.nsIn K mainGlobals "_law_number" = some (some (.ref f_law_number)))
    (l_law_number : K.lookup f_law_number = some ⟨oc_law_number, od_law_number, .func (PySem.W.fnOf "_law_number" "_law_number" (defArgs s_law_number) (defBody s_law_number) (defScope s_law_number) .none kV_law_number dc_law_number pm_law_number an_law_number cd_law_number ct_law_number), sl_law_number⟩)
    (c_law_number : PySem.W.codeIn K cd_law_number "_law_number" = true)
    (k_law_number : PySem.W.keepIn K (.ref f_law_number) = true)
    (a_law_row : PySem.W.nsIn K mainGlobals "_law_row" = some (some (.ref f_law_row)))
    (l_law_row : K.lookup f_law_row = some ⟨oc_law_row, od_law_row, .func (PySem.W.fnOf "_law_row" "_law_row" (defArgs s_law_row) (defBody s_law_row) (defScope s_law_row) .none kV_law_row dc_law_row pm_law_row an_law_row cd_law_row ct_law_row), sl_law_row⟩)
    (c_law_row : PySem.W.codeIn K cd_law_row "_law_row" = true)
    (k_law_row : PySem.W.keepIn K (.ref f_law_row) = true)
    (a_law_far_row : PySem.W.nsIn K mainGlobals "_law_far_row" = some (some (.ref f_law_far_row)))
    (l_law_far_row : K.lookup f_law_far_row = some ⟨oc_law_far_row, od_law_far_row, .func (PySem.W.fnOf "_law_far_row" "_law_far_row" (defArgs s_law_far_row) (defBody s_law_far_row) (defScope s_law_far_row) .none kV_law_far_row dc_law_far_row pm_law_far_row an_law_far_row cd_law_far_row ct_law_far_row), sl_law_far_row⟩)
    (c_law_far_row : PySem.W.codeIn K cd_law_far_row "_law_far_row" = true)
    (k_law_far_row : PySem.W.keepIn K (.ref f_law_far_row) = true)
    (a_law_far_rows : PySem.W.nsIn K mainGlobals "_law_far_rows" = some (some (.ref f_law_far_rows)))
    (l_law_far_rows : K.lookup f_law_far_rows = some ⟨oc_law_far_rows, od_law_far_rows, .func (PySem.W.fnOf "_law_far_rows" "_law_far_rows" (defArgs s_law_far_rows) (defBody s_law_far_rows) (defScope s_law_far_rows) .none kV_law_far_rows dc_law_far_rows pm_law_far_rows an_law_far_rows cd_law_far_rows ct_law_far_rows), sl_law_far_rows⟩)
    (c_law_far_rows : PySem.W.codeIn K cd_law_far_rows "_law_far_rows" = true)
    (k_law_far_rows : PySem.W.keepIn K (.ref f_law_far_rows) = true)
    (a_law_is_whole : PySem.W.nsIn K mainGlobals "_law_is_whole" = some (some (.ref f_law_is_whole)))
    (l_law_is_whole : K.lookup f_law_is_whole = some ⟨oc_law_is_whole, od_law_is_whole, .func (PySem.W.fnOf "_law_is_whole" "_law_is_whole" (defArgs s_law_is_whole) (defBody s_law_is_whole) (defScope s_law_is_whole) .none kV_law_is_whole dc_law_is_whole pm_law_is_whole an_law_is_whole cd_law_is_whole ct_law_is_whole), sl_law_is_whole⟩)
    (c_law_is_whole : PySem.W.codeIn K cd_law_is_whole "_law_is_whole" = true)
    (k_law_is_whole : PySem.W.keepIn K (.ref f_law_is_whole) = true)
    (a_law_item_fits : PySem.W.nsIn K mainGlobals "_law_item_fits" = some (some (.ref f_law_item_fits)))
    (l_law_item_fits : K.lookup f_law_item_fits = some ⟨oc_law_item_fits, od_law_item_fits, .func (PySem.W.fnOf "_law_item_fits" "_law_item_fits" (defArgs s_law_item_fits) (defBody s_law_item_fits) (defScope s_law_item_fits) .none kV_law_item_fits dc_law_item_fits pm_law_item_fits an_law_item_fits cd_law_item_fits ct_law_item_fits), sl_law_item_fits⟩)
    (c_law_item_fits : PySem.W.codeIn K cd_law_item_fits "_law_item_fits" = true)
    (k_law_item_fits : PySem.W.keepIn K (.ref f_law_item_fits) = true)
    (a_law_row_fits : PySem.W.nsIn K mainGlobals "_law_row_fits" = some (some (.ref f_law_row_fits)))
    (l_law_row_fits : K.lookup f_law_row_fits = some ⟨oc_law_row_fits, od_law_row_fits, .func (PySem.W.fnOf "_law_row_fits" "_law_row_fits" (defArgs s_law_row_fits) (defBody s_law_row_fits) (defScope s_law_row_fits) .none kV_law_row_fits dc_law_row_fits pm_law_row_fits an_law_row_fits cd_law_row_fits ct_law_row_fits), sl_law_row_fits⟩)
    (c_law_row_fits : PySem.W.codeIn K cd_law_row_fits "_law_row_fits" = true)
    (k_law_row_fits : PySem.W.keepIn K (.ref f_law_row_fits) = true)
    (a_law_due : PySem.W.nsIn K mainGlobals "_law_due" = some (some (.ref f_law_due)))
    (l_law_due : K.lookup f_law_due = some ⟨oc_law_due, od_law_due, .func (PySem.W.fnOf "_law_due" "_law_due" (defArgs s_law_due) (defBody s_law_due) (defScope s_law_due) .none kV_law_due dc_law_due pm_law_due an_law_due cd_law_due ct_law_due), sl_law_due⟩)
    (c_law_due : PySem.W.codeIn K cd_law_due "_law_due" = true)
    (k_law_due : PySem.W.keepIn K (.ref f_law_due) = true)
    (a_law_told : PySem.W.nsIn K mainGlobals "_law_told" = some (some (.ref f_law_told)))
    (l_law_told : K.lookup f_law_told = some ⟨oc_law_told, od_law_told, .func (PySem.W.fnOf "_law_told" "_law_told" (defArgs s_law_told) (defBody s_law_told) (defScope s_law_told) .none kV_law_told dc_law_told pm_law_told an_law_told cd_law_told ct_law_told), sl_law_told⟩)
    (c_law_told : PySem.W.codeIn K cd_law_told "_law_told" = true)
    (k_law_told : PySem.W.keepIn K (.ref f_law_told) = true)
    (a_law_odd_item : PySem.W.nsIn K mainGlobals "_law_odd_item" = some (some (.ref f_law_odd_item)))
    (l_law_odd_item : K.lookup f_law_odd_item = some ⟨oc_law_odd_item, od_law_odd_item, .func (PySem.W.fnOf "_law_odd_item" "_law_odd_item" (defArgs s_law_odd_item) (defBody s_law_odd_item) (defScope s_law_odd_item) .none kV_law_odd_item dc_law_odd_item pm_law_odd_item an_law_odd_item cd_law_odd_item ct_law_odd_item), sl_law_odd_item⟩)
    (c_law_odd_item : PySem.W.codeIn K cd_law_odd_item "_law_odd_item" = true)
    (k_law_odd_item : PySem.W.keepIn K (.ref f_law_odd_item) = true)
    (a_law_spoilt : PySem.W.nsIn K mainGlobals "_law_spoilt" = some (some (.ref f_law_spoilt)))
    (l_law_spoilt : K.lookup f_law_spoilt = some ⟨oc_law_spoilt, od_law_spoilt, .func (PySem.W.fnOf "_law_spoilt" "_law_spoilt" (defArgs s_law_spoilt) (defBody s_law_spoilt) (defScope s_law_spoilt) .none kV_law_spoilt dc_law_spoilt pm_law_spoilt an_law_spoilt cd_law_spoilt ct_law_spoilt), sl_law_spoilt⟩)
    (c_law_spoilt : PySem.W.codeIn K cd_law_spoilt "_law_spoilt" = true)
    (k_law_spoilt : PySem.W.keepIn K (.ref f_law_spoilt) = true)
    (a_law_machines_right : PySem.W.nsIn K mainGlobals "_law_machines_right" = some (some (.ref f_law_machines_right)))
    (l_law_machines_right : K.lookup f_law_machines_right = some ⟨oc_law_machines_right, od_law_machines_right, .func (PySem.W.fnOf "_law_machines_right" "_law_machines_right" (defArgs s_law_machines_right) (defBody s_law_machines_right) (defScope s_law_machines_right) .none kV_law_machines_right dc_law_machines_right pm_law_machines_right an_law_machines_right cd_law_machines_right ct_law_machines_right), sl_law_machines_right⟩)
    (c_law_machines_right : PySem.W.codeIn K cd_law_machines_right "_law_machines_right" = true)
    (k_law_machines_right : PySem.W.keepIn K (.ref f_law_machines_right) = true)
    (a_law : PySem.W.nsIn K mainGlobals "law" = some (some (.ref f_law)))
    (l_law : K.lookup f_law = some ⟨oc_law, od_law, .func (PySem.W.fnOf "law" "law" (defArgs s_law) (defBody s_law) (defScope s_law) .none kV_law dc_law pm_law an_law cd_law ct_law), sl_law⟩)
    (c_law : PySem.W.codeIn K cd_law "law" = true)
    (k_law : PySem.W.keepIn K (.ref f_law) = true)
    (a_Code : PySem.W.nsIn K mainGlobals "Code" = some (some (.ref C_Code)))
    (a_Machine : PySem.W.nsIn K mainGlobals "Machine" = some (some (.ref C_Machine)))
    (a_InvalidCode : PySem.W.nsIn K mainGlobals "InvalidCode" = some (some (.ref C_InvalidCode)))
    (a_LowError : PySem.W.nsIn K mainGlobals "LowError" = some (some (.ref C_LowError)))
    (a_InvalidNode : PySem.W.nsIn K mainGlobals "InvalidNode" = some (some (.ref C_InvalidNode)))
    (a_InvalidText : PySem.W.nsIn K mainGlobals "InvalidText" = some (some (.ref C_InvalidText)))
    (a_Mismatch : PySem.W.nsIn K mainGlobals "Mismatch" = some (some (.ref C_Mismatch)))
    (m_Code_init : PySem.W.findIn K (.ref C_Code) "__init__" = some (some (.ref f_Code_init)))
    (l_Code_init : K.lookup f_Code_init = some ⟨oc_Code_init, od_Code_init, .func (PySem.W.fnOf "__init__" "Code.__init__" (defArgs s_Code_init) (defBody s_Code_init) (defScope s_Code_init) .none kV_Code_init dc_Code_init pm_Code_init an_Code_init cd_Code_init ct_Code_init), sl_Code_init⟩)
    (c_Code_init : PySem.W.codeIn K cd_Code_init "Code.__init__" = true)
    (k_Code_init : PySem.W.keepIn K (.ref f_Code_init) = true)
    (i_Code_init : PySem.W.isFn K (.ref f_Code_init) = true)
    (m_Code_len : PySem.W.findIn K (.ref C_Code) "__len__" = some (some (.ref f_Code_len)))
    (l_Code_len : K.lookup f_Code_len = some ⟨oc_Code_len, od_Code_len, .func (PySem.W.fnOf "__len__" "Code.__len__" (defArgs s_Code_len) (defBody s_Code_len) (defScope s_Code_len) .none kV_Code_len dc_Code_len pm_Code_len an_Code_len cd_Code_len ct_Code_len), sl_Code_len⟩)
    (c_Code_len : PySem.W.codeIn K cd_Code_len "Code.__len__" = true)
    (k_Code_len : PySem.W.keepIn K (.ref f_Code_len) = true)
    (i_Code_len : PySem.W.isFn K (.ref f_Code_len) = true)
    (m_Code_eq : PySem.W.findIn K (.ref C_Code) "__eq__" = some (some (.ref f_Code_eq)))
    (l_Code_eq : K.lookup f_Code_eq = some ⟨oc_Code_eq, od_Code_eq, .func (PySem.W.fnOf "__eq__" "Code.__eq__" (defArgs s_Code_eq) (defBody s_Code_eq) (defScope s_Code_eq) .none kV_Code_eq dc_Code_eq pm_Code_eq an_Code_eq cd_Code_eq ct_Code_eq), sl_Code_eq⟩)
    (c_Code_eq : PySem.W.codeIn K cd_Code_eq "Code.__eq__" = true)
    (k_Code_eq : PySem.W.keepIn K (.ref f_Code_eq) = true)
    (i_Code_eq : PySem.W.isFn K (.ref f_Code_eq) = true)
    (m_Machine_init : PySem.W.findIn K (.ref C_Machine) "__init__" = some (some (.ref f_Machine_init)))
    (l_Machine_init : K.lookup f_Machine_init = some ⟨oc_Machine_init, od_Machine_init, .func (PySem.W.fnOf "__init__" "Machine.__init__" (defArgs s_Machine_init) (defBody s_Machine_init) (defScope s_Machine_init) .none kV_Machine_init dc_Machine_init pm_Machine_init an_Machine_init cd_Machine_init ct_Machine_init), sl_Machine_init⟩)
    (c_Machine_init : PySem.W.codeIn K cd_Machine_init "Machine.__init__" = true)
    (k_Machine_init : PySem.W.keepIn K (.ref f_Machine_init) = true)
    (i_Machine_init : PySem.W.isFn K (.ref f_Machine_init) = true)
    (m_Machine_eq : PySem.W.findIn K (.ref C_Machine) "__eq__" = some (some (.ref f_Machine_eq)))
    (l_Machine_eq : K.lookup f_Machine_eq = some ⟨oc_Machine_eq, od_Machine_eq, .func (PySem.W.fnOf "__eq__" "Machine.__eq__" (defArgs s_Machine_eq) (defBody s_Machine_eq) (defScope s_Machine_eq) .none kV_Machine_eq dc_Machine_eq pm_Machine_eq an_Machine_eq cd_Machine_eq ct_Machine_eq), sl_Machine_eq⟩)
    (c_Machine_eq : PySem.W.codeIn K cd_Machine_eq "Machine.__eq__" = true)
    (k_Machine_eq : PySem.W.keepIn K (.ref f_Machine_eq) = true)
    (i_Machine_eq : PySem.W.isFn K (.ref f_Machine_eq) = true)
    (m_InvalidCode_init : PySem.W.findIn K (.ref C_InvalidCode) "__init__" = some (some (.ref f_InvalidCode_init)))
    (l_InvalidCode_init : K.lookup f_InvalidCode_init = some ⟨oc_InvalidCode_init, od_InvalidCode_init, .func (PySem.W.fnOf "__init__" "InvalidCode.__init__" (defArgs s_InvalidCode_init) (defBody s_InvalidCode_init) (defScope s_InvalidCode_init) .none kV_InvalidCode_init dc_InvalidCode_init pm_InvalidCode_init an_InvalidCode_init cd_InvalidCode_init ct_InvalidCode_init), sl_InvalidCode_init⟩)
    (c_InvalidCode_init : PySem.W.codeIn K cd_InvalidCode_init "InvalidCode.__init__" = true)
    (k_InvalidCode_init : PySem.W.keepIn K (.ref f_InvalidCode_init) = true)
    (y_InvalidCode_init : PySem.W.typeIn K (.ref f_InvalidCode_init) = some (.type "function"))
    (pg_Code : PySem.W.plainGet K C_Code Str.empty = true)
    (hd_Code : PySem.W.hasDictIn K C_Code = true)
    (po_Code : PySem.W.plainOver K C_Code = true)
    (sa_Code : PySem.W.findIn K (.ref C_Code) "__setattr__" = some (some (.builtin "object.__setattr__")))
    (mk_Code : PySem.W.makesIn K C_Code = true)
    (kc_Code : PySem.W.keepIn K (.ref C_Code) = true)
    (ca_Code : PySem.W.findIn K (.ref C_Code) "__class__" = some (some (.builtin "object.__class__")))
    (cm_Code : PySem.W.mroIn K C_Code (.type "object") = some true)
    (ty_Code : PySem.W.typeIn K (.ref C_Code) = some (.type "type"))
    (ne_Code : PySem.W.findIn K (.ref C_Code) "__ne__" = some (some (.builtin "object.__ne__")))
    (sb_Code : PySem.W.subIn K (.ref C_Code) (.ref C_Code) = some true)
    (cls_Code : PySem.W.isClsIn K C_Code = true)
    (st_Code : PySem.W.subIn K (.type "tuple") (.ref C_Code) = some false)
    (si_Code : PySem.W.subIn K (.type "int") (.ref C_Code) = some false)
    (pg_Machine : PySem.W.plainGet K C_Machine Str.empty = true)
    (hd_Machine : PySem.W.hasDictIn K C_Machine = true)
    (po_Machine : PySem.W.plainOver K C_Machine = true)
    (sa_Machine : PySem.W.findIn K (.ref C_Machine) "__setattr__" = some (some (.builtin "object.__setattr__")))
    (mk_Machine : PySem.W.makesIn K C_Machine = true)
    (kc_Machine : PySem.W.keepIn K (.ref C_Machine) = true)
    (ca_Machine : PySem.W.findIn K (.ref C_Machine) "__class__" = some (some (.builtin "object.__class__")))
    (cm_Machine : PySem.W.mroIn K C_Machine (.type "object") = some true)
    (ty_Machine : PySem.W.typeIn K (.ref C_Machine) = some (.type "type"))
    (ne_Machine : PySem.W.findIn K (.ref C_Machine) "__ne__" = some (some (.builtin "object.__ne__")))
    (sb_Machine : PySem.W.subIn K (.ref C_Machine) (.ref C_Machine) = some true)
    (cls_Machine : PySem.W.isClsIn K C_Machine = true)
    (st_Machine : PySem.W.subIn K (.type "tuple") (.ref C_Machine) = some false)
    (si_Machine : PySem.W.subIn K (.type "int") (.ref C_Machine) = some false)
    (n_rows : PySem.W.findIn K (.ref C_Code) "rows" = some none)
    (n_width : PySem.W.findIn K (.ref C_Machine) "width" = some none)
    (n_registers : PySem.W.findIn K (.ref C_Machine) "registers" = some none)
    (cn : PySem.W.specialIn K (.builtin "object.__class__") "__get__" = some (some (.builtin "getset_descriptor.__get__")))
    (ct : PySem.W.takesIn K (.builtin "object.__class__") = some true)
    (xL : K.lookup C_InvalidCode = some (excClassObj nmI qI C_InvalidCode NI bsI [.ref C_LowError, .type "ValueError", .type "Exception", .type "BaseException", .type "object"] true snI subI abI colI ddI m0I m1I m2I m3I m5I "ValueError.__new__"))
    (saI : PySem.W.findIn K (.ref C_InvalidCode) "__setattr__" = some (some (.builtin "object.__setattr__")))
    (kI : PySem.W.keepIn K (.ref C_InvalidCode) = true)
    (bI : PySem.W.subIn K (.ref C_InvalidCode) (.type "BaseException") = some true)
    (tI : PySem.W.typeIn K (.ref C_InvalidCode) = some (.type "type"))
    (gI : PySem.W.findIn K (.ref C_InvalidCode) "__getattribute__" = some (some (.builtin "BaseException.__getattribute__")))
    (hI : PySem.W.findIn K (.ref C_InvalidCode) "__getattr__" = some none)
    (dI : PySem.W.hasDictIn K C_InvalidCode = true)
    (caI : PySem.W.findIn K (.ref C_InvalidCode) "__class__" = some (some (.builtin "object.__class__")))
    (cmI : PySem.W.mroIn K C_InvalidCode (.type "object") = some true)
    (nwI : PySem.W.findIn K (.ref C_InvalidCode) "word" = some none)
    (nrI : PySem.W.findIn K (.ref C_InvalidCode) "row" = some none)
    (bL : PySem.W.subIn K (.ref C_LowError) (.type "BaseException") = some true)
    (dL : PySem.W.hasDictIn K C_LowError = true)
    (tL : PySem.W.typeIn K (.ref C_LowError) = some (.type "type"))
    (sIL : PySem.W.subIn K (.ref C_InvalidCode) (.ref C_LowError) = some true)
    (sI_InvalidNode : PySem.W.subIn K (.ref C_InvalidCode) (.ref C_InvalidNode) = some false)
    (cls_InvalidNode : PySem.W.isClsIn K C_InvalidNode = true)
    (ty_InvalidNode : PySem.W.typeIn K (.ref C_InvalidNode) = some (.type "type"))
    (df_InvalidNode : (C_InvalidCode == C_InvalidNode) = false)
    (sI_InvalidText : PySem.W.subIn K (.ref C_InvalidCode) (.ref C_InvalidText) = some false)
    (cls_InvalidText : PySem.W.isClsIn K C_InvalidText = true)
    (ty_InvalidText : PySem.W.typeIn K (.ref C_InvalidText) = some (.type "type"))
    (df_InvalidText : (C_InvalidCode == C_InvalidText) = false)
    (sI_Mismatch : PySem.W.subIn K (.ref C_InvalidCode) (.ref C_Mismatch) = some false)
    (cls_Mismatch : PySem.W.isClsIn K C_Mismatch = true)
    (ty_Mismatch : PySem.W.typeIn K (.ref C_Mismatch) = some (.type "type"))
    (df_Mismatch : (C_InvalidCode == C_Mismatch) = false)
    (gl_LIMIT : PySem.W.nsIn K mainGlobals "LIMIT" = some (some (.int 18446744073709551616 t1)))
    (gl_ROWS : PySem.W.nsIn K mainGlobals "MOST_ROWS" = some (some (.int 1000 t2)))
    (gl_REGS : PySem.W.nsIn K mainGlobals "MOST_REGISTERS" = some (some (.int 8 t3)))
    (gl_SLOTS : PySem.W.nsIn K mainGlobals "SLOTS" = some (some (.int 1000 t4)))
    (gl_MODULI : PySem.W.nsIn K mainGlobals "MODULI" = some (some (.ref aM)))
    (gl_FORMS : PySem.W.nsIn K mainGlobals "FORMS" = some (some (.ref aF)))
    (lM : K.lookup aM = some ⟨.type "tuple", odM, .seq itsM nM, slM⟩)
    (sM : intsAre itsM.toList mods = true)
    (zM : Nat.ble itsM.size 1000 = true)
    (lF : K.lookup aF = some ⟨.type "dict", none, .dict esF nF, #[]⟩)
    (kF : PySem.W.KeysLit w.params esF.toList)
    (oF : (aF == sysModules) = false)
    (eF : esF.toList.all keysF = true)
    (d_set : PySem.W.nsIn K aF "set" = some (some (.str "WI" tf_set)))
    (d_copy : PySem.W.nsIn K aF "copy" = some (some (.str "WR" tf_copy)))
    (d_add : PySem.W.nsIn K aF "add" = some (some (.str "WRR" tf_add)))
    (d_sub : PySem.W.nsIn K aF "sub" = some (some (.str "WRR" tf_sub)))
    (d_mul : PySem.W.nsIn K aF "mul" = some (some (.str "WRR" tf_mul)))
    (d_left : PySem.W.nsIn K aF "left" = some (some (.str "WR" tf_left)))
    (d_right : PySem.W.nsIn K aF "right" = some (some (.str "WR" tf_right)))
    (d_load : PySem.W.nsIn K aF "load" = some (some (.str "WS" tf_load)))
    (d_store : PySem.W.nsIn K aF "store" = some (some (.str "SR" tf_store)))
    (d_skip : PySem.W.nsIn K aF "skip" = some (some (.str "RMCN" tf_skip)))
    (z_len : PySem.W.nsIn K mainGlobals "len" = some none)
    (z_max : PySem.W.nsIn K mainGlobals "max" = some none)
    (z_list : PySem.W.nsIn K mainGlobals "list" = some none)
    (z_tuple : PySem.W.nsIn K mainGlobals "tuple" = some none)
    (z_reversed : PySem.W.nsIn K mainGlobals "reversed" = some none)
    (z_range : PySem.W.nsIn K mainGlobals "range" = some none)
    (z_int : PySem.W.nsIn K mainGlobals "int" = some none)
    (z_str : PySem.W.nsIn K mainGlobals "str" = some none)
    (z_bool : PySem.W.nsIn K mainGlobals "bool" = some none)
    (z_isinstance : PySem.W.nsIn K mainGlobals "isinstance" = some none)
    (z_all : PySem.W.nsIn K mainGlobals "all" = some none)
    (z_enumerate : PySem.W.nsIn K mainGlobals "enumerate" = some none)
    (z_zip : PySem.W.nsIn K mainGlobals "zip" = some none)
    (z_repr : PySem.W.nsIn K mainGlobals "repr" = some none) :
    ∃ fd : FuncData, (∀ (s : Shared) (v : Value), BindsTo s fd ⟨[v], []⟩ [("_law_script", v)]) ∧ ∀ base : Heap, K.In base → base.Ns mainGlobals mg → FnOkG P w K mg base CX0 9 fa fd ["_law_script"] (spLaw K) := by
  have e := hfa.symm.trans (PySem.W.mg_of X G a_law)
  cases e
  refine ⟨PySem.W.fnOf "law" "law" (defArgs s_law) (defBody s_law) (defScope s_law) .none kV_law dc_law pm_law an_law cd_law ct_law, fun s v => .of_eq rfl, fun base _ _ => ?_⟩
  have F_is_integer := fun_mk (st := s_is_integer) l_is_integer c_is_integer k_is_integer
  have F_is_between := fun_mk (st := s_is_between) l_is_between c_is_between k_is_between
  have F_is_small := fun_mk (st := s_is_small) l_is_small c_is_small k_is_small
  have F_is_item := fun_mk (st := s_is_item) l_is_item c_is_item k_is_item
  have F_is_row := fun_mk (st := s_is_row) l_is_row c_is_row k_is_row
  have F_law_deal := fun_mk (st := s_law_deal) l_law_deal c_law_deal k_law_deal
  have F_law_draw := fun_mk (st := s_law_draw) l_law_draw c_law_draw k_law_draw
  have F_law_number := fun_mk (st := s_law_number) l_law_number c_law_number k_law_number
  have F_law_row := fun_mk (st := s_law_row) l_law_row c_law_row k_law_row
  have F_law_far_row := fun_mk (st := s_law_far_row) l_law_far_row c_law_far_row k_law_far_row
  have F_law_far_rows := fun_mk (st := s_law_far_rows) l_law_far_rows c_law_far_rows k_law_far_rows
  have F_law_is_whole := fun_mk (st := s_law_is_whole) l_law_is_whole c_law_is_whole k_law_is_whole
  have F_law_item_fits := fun_mk (st := s_law_item_fits) l_law_item_fits c_law_item_fits k_law_item_fits
  have F_law_row_fits := fun_mk (st := s_law_row_fits) l_law_row_fits c_law_row_fits k_law_row_fits
  have F_law_due := fun_mk (st := s_law_due) l_law_due c_law_due k_law_due
  have F_law_told := fun_mk (st := s_law_told) l_law_told c_law_told k_law_told
  have F_law_odd_item := fun_mk (st := s_law_odd_item) l_law_odd_item c_law_odd_item k_law_odd_item
  have F_law_spoilt := fun_mk (st := s_law_spoilt) l_law_spoilt c_law_spoilt k_law_spoilt
  have F_law_machines_right := fun_mk (st := s_law_machines_right) l_law_machines_right c_law_machines_right k_law_machines_right
  have F_law := fun_mk (st := s_law) l_law c_law k_law
  have F_Code_init := fun_mk (st := s_Code_init) l_Code_init c_Code_init k_Code_init
  have F_Code_len := fun_mk (st := s_Code_len) l_Code_len c_Code_len k_Code_len
  have F_Code_eq := fun_mk (st := s_Code_eq) l_Code_eq c_Code_eq k_Code_eq
  have F_Machine_init := fun_mk (st := s_Machine_init) l_Machine_init c_Machine_init k_Machine_init
  have F_Machine_eq := fun_mk (st := s_Machine_eq) l_Machine_eq c_Machine_eq k_Machine_eq
  have F_InvalidCode_init := fun_mk (st := s_InvalidCode_init) l_InvalidCode_init c_InvalidCode_init k_InvalidCode_init
  have b_is_integer := F_is_integer.binds (ps := ["value"]) fun _ _ _ _ _ _ us hl => match us, hl with | [_], _ => rfl
  have b_is_between := F_is_between.binds (ps := ["value", "least", "most"]) fun _ _ _ _ _ _ us hl => match us, hl with | [_, _, _], _ => rfl
  have b_is_small := F_is_small.binds (ps := ["value"]) fun _ _ _ _ _ _ us hl => match us, hl with | [_], _ => rfl
  have b_is_item := F_is_item.binds (ps := ["letter", "value"]) fun _ _ _ _ _ _ us hl => match us, hl with | [_, _], _ => rfl
  have b_is_row := F_is_row.binds (ps := ["row"]) fun _ _ _ _ _ _ us hl => match us, hl with | [_], _ => rfl
  have b_law_deal := F_law_deal.binds (ps := ["_law_script", "_law_base"]) fun _ _ _ _ _ _ us hl => match us, hl with | [_, _], _ => rfl
  have b_law_draw := F_law_draw.binds (ps := ["_law_deal_here", "_law_many"]) fun _ _ _ _ _ _ us hl => match us, hl with | [_, _], _ => rfl
  have b_law_number := F_law_number.binds (ps := ["_law_deal_here"]) fun _ _ _ _ _ _ us hl => match us, hl with | [_], _ => rfl
  have b_law_row := F_law_row.binds (ps := ["_law_deal_here", "_law_registers", "_law_left"]) fun _ _ _ _ _ _ us hl => match us, hl with | [_, _, _], _ => rfl
  have b_law_far_row := F_law_far_row.binds (ps := ["_law_deal_here", "_law_registers", "_law_left"]) fun _ _ _ _ _ _ us hl => match us, hl with | [_, _, _], _ => rfl
  have b_law_far_rows := F_law_far_rows.binds (ps := ["_law_deal_here", "_law_registers", "_law_many"]) fun _ _ _ _ _ _ us hl => match us, hl with | [_, _, _], _ => rfl
  have b_law_is_whole := F_law_is_whole.binds (ps := ["_law_value"]) fun _ _ _ _ _ _ us hl => match us, hl with | [_], _ => rfl
  have b_law_item_fits := F_law_item_fits.binds (ps := ["_law_form", "_law_value", "_law_row_here"]) fun _ _ _ _ _ _ us hl => match us, hl with | [_, _, _], _ => rfl
  have b_law_row_fits := F_law_row_fits.binds (ps := ["_law_row_here"]) fun _ _ _ _ _ _ us hl => match us, hl with | [_], _ => rfl
  have b_law_due := F_law_due.binds (ps := ["_law_rows"]) fun _ _ _ _ _ _ us hl => match us, hl with | [_], _ => rfl
  have b_law_told := F_law_told.binds (ps := ["_law_rows"]) fun _ _ _ _ _ _ us hl => match us, hl with | [_], _ => rfl
  have b_law_odd_item := F_law_odd_item.binds (ps := ["_law_deal_here", "_law_item"]) fun _ _ _ _ _ _ us hl => match us, hl with | [_, _], _ => rfl
  have b_law_spoilt := F_law_spoilt.binds (ps := ["_law_deal_here", "_law_rows"]) fun _ _ _ _ _ _ us hl => match us, hl with | [_, _], _ => rfl
  have b_law_machines_right := F_law_machines_right.binds (ps := ["_law_deal_here"]) fun _ _ _ _ _ _ us hl => match us, hl with | [_], _ => rfl
  have b_law := F_law.binds (ps := ["_law_script"]) fun _ _ _ _ _ _ us hl => match us, hl with | [_], _ => rfl
  have b_Code_init := F_Code_init.binds (ps := ["self", "rows"]) fun _ _ _ _ _ _ us hl => match us, hl with | [_, _], _ => rfl
  have b_Code_len := F_Code_len.binds (ps := ["self"]) fun _ _ _ _ _ _ us hl => match us, hl with | [_], _ => rfl
  have b_Code_eq := F_Code_eq.binds (ps := ["self", "other"]) fun _ _ _ _ _ _ us hl => match us, hl with | [_, _], _ => rfl
  have b_Machine_init := F_Machine_init.binds (ps := ["self", "width", "registers"]) fun _ _ _ _ _ _ us hl => match us, hl with | [_, _, _], _ => rfl
  have b_Machine_eq := F_Machine_eq.binds (ps := ["self", "other"]) fun _ _ _ _ _ _ us hl => match us, hl with | [_, _], _ => rfl
  have b_InvalidCode_init := F_InvalidCode_init.binds (ps := ["self", "word", "row"]) fun _ _ _ _ _ _ us hl => match us, hl with | [_, _, _], _ => rfl
  have T : Glob mg := ⟨PySem.W.mg_none_of X G z_len, PySem.W.mg_none_of X G z_max, PySem.W.mg_none_of X G z_list, PySem.W.mg_none_of X G z_tuple, PySem.W.mg_none_of X G z_reversed, PySem.W.mg_none_of X G z_range, PySem.W.mg_none_of X G z_int, PySem.W.mg_none_of X G z_str, PySem.W.mg_none_of X G z_bool, PySem.W.mg_none_of X G z_isinstance, PySem.W.mg_none_of X G z_all, PySem.W.mg_none_of X G z_enumerate, PySem.W.mg_none_of X G z_zip⟩
  have hFs : ∀ x f, (x, f) ∈ forms → KDct K w aF x (.str f) := by
    intro x f hm
    have q : (x = ("set" : Str) ∧ f = ("WI" : Str)) ∨ (x = ("copy" : Str) ∧ f = ("WR" : Str)) ∨ (x = ("add" : Str) ∧ f = ("WRR" : Str)) ∨ (x = ("sub" : Str) ∧ f = ("WRR" : Str)) ∨ (x = ("mul" : Str) ∧ f = ("WRR" : Str)) ∨ (x = ("left" : Str) ∧ f = ("WR" : Str)) ∨ (x = ("right" : Str) ∧ f = ("WR" : Str)) ∨ (x = ("load" : Str) ∧ f = ("WS" : Str)) ∨ (x = ("store" : Str) ∧ f = ("SR" : Str)) ∨ (x = ("skip" : Str) ∧ f = ("RMCN" : Str)) := by
      unfold forms at hm
      simp only [List.mem_cons, List.not_mem_nil, or_false, Prod.mk.injEq] at hm
      exact hm
    rcases q with ⟨rfl, rfl⟩ | ⟨rfl, rfl⟩ | ⟨rfl, rfl⟩ | ⟨rfl, rfl⟩ | ⟨rfl, rfl⟩ | ⟨rfl, rfl⟩ | ⟨rfl, rfl⟩ | ⟨rfl, rfl⟩ | ⟨rfl, rfl⟩ | ⟨rfl, rfl⟩
    · exact ⟨esF, nF, _, lF, kF, d_set, ⟨_, rfl⟩⟩
    · exact ⟨esF, nF, _, lF, kF, d_copy, ⟨_, rfl⟩⟩
    · exact ⟨esF, nF, _, lF, kF, d_add, ⟨_, rfl⟩⟩
    · exact ⟨esF, nF, _, lF, kF, d_sub, ⟨_, rfl⟩⟩
    · exact ⟨esF, nF, _, lF, kF, d_mul, ⟨_, rfl⟩⟩
    · exact ⟨esF, nF, _, lF, kF, d_left, ⟨_, rfl⟩⟩
    · exact ⟨esF, nF, _, lF, kF, d_right, ⟨_, rfl⟩⟩
    · exact ⟨esF, nF, _, lF, kF, d_load, ⟨_, rfl⟩⟩
    · exact ⟨esF, nF, _, lF, kF, d_store, ⟨_, rfl⟩⟩
    · exact ⟨esF, nF, _, lF, kF, d_skip, ⟨_, rfl⟩⟩
  have T2 : Tabs w K mg := ⟨⟨t1, PySem.W.mg_of X G gl_LIMIT⟩, ⟨t2, PySem.W.mg_of X G gl_ROWS⟩, ⟨t3, PySem.W.mg_of X G gl_REGS⟩, ⟨t4, PySem.W.mg_of X G gl_SLOTS⟩, ⟨aM, PySem.W.mg_of X G gl_MODULI, fun H => .inr ⟨_, itsM, nM, lM, rfl, rfl, ble_size zM, ints_vals sM⟩⟩, ⟨aF, PySem.W.mg_of X G gl_FORMS, ⟨esF, nF, lF, kF, oF⟩, hFs⟩⟩
  have T3 : Tabs3 w K mg := { T2 with miss := ⟨aF, PySem.W.mg_of X G gl_FORMS, fun x hx => miss_of lF eF hx⟩ }
  have cl_Code : Cls K C_Code := ⟨pg_Code, hd_Code, po_Code, sa_Code⟩
  have nm_Code : ClsN K C_Code := ⟨ca_Code, cn, ct, cm_Code, kit_own cls_Code ty_Code sb_Code⟩
  have cl_Machine : Cls K C_Machine := ⟨pg_Machine, hd_Machine, po_Machine, sa_Machine⟩
  have nm_Machine : ClsN K C_Machine := ⟨ca_Machine, cn, ct, cm_Machine, kit_own cls_Machine ty_Machine sb_Machine⟩
  have D_is_integer : Df P w K mg base 1 "is_integer" ["value"] spInt := ⟨f_is_integer, _, ok_is_integer F_is_integer T, PySem.W.mg_of X G a_is_integer, k_is_integer, b_is_integer⟩
  have D_is_between : Df P w K mg base 2 "is_between" ["value", "least", "most"] spBtw := ⟨f_is_between, _, ok_is_between F_is_between D_is_integer, PySem.W.mg_of X G a_is_between, k_is_between, b_is_between⟩
  have D_is_small : Df P w K mg base 2 "is_small" ["value"] spSmall := ⟨f_is_small, _, ok_is_small F_is_small T2 D_is_integer, PySem.W.mg_of X G a_is_small, k_is_small, b_is_small⟩
  have D_is_item : Df P w K mg base 3 "is_item" ["letter", "value"] spItem := ⟨f_is_item, _, ok_is_item F_is_item T2 D_is_between D_is_small, PySem.W.mg_of X G a_is_item, k_is_item, b_is_item⟩
  have D_is_row : Df P w K mg base 4 "is_row" ["row"] spRow := ⟨f_is_row, _, ok_is_row F_is_row T T3 D_is_item, PySem.W.mg_of X G a_is_row, k_is_row, b_is_row⟩
  have ox : OexC K C_InvalidCode := ⟨⟨nmI, qI, NI, bsI, _, snI, subI, abI, colI, ddI, m0I, m1I, m2I, m3I, m5I, xL, (by show PySem.HandSPX.refsVE [.type "ValueError", .type "Exception", .type "BaseException", .type "object"] = true; decide +kernel)⟩, saI, bI, tI, kI⟩
  have EI : ErrI P w K mg base C_InvalidCode := ⟨f_InvalidCode_init, _, ox, m_InvalidCode_init, y_InvalidCode_init, ok_InvalidCode_init F_InvalidCode_init ox nwI nrI, b_InvalidCode_init, PySem.W.mg_of X G a_InvalidCode⟩
  have M : CodeX P w K mg base C_Code C_InvalidCode := ⟨f_Code_init, _, ⟨mk_Code, m_Code_init, i_Code_init, kc_Code⟩, ok_Code_init F_Code_init T T2 cl_Code n_rows EI D_is_row, PySem.W.mg_of X G a_Code, b_Code_init, cl_Code, n_rows⟩
  have MC : CodeM P w K mg base C_Code := ⟨f_Code_len, _, m_Code_len, i_Code_len, ok_Code_len F_Code_len T cl_Code n_rows, b_Code_len, f_Code_eq, _, ⟨m_Code_eq, ne_Code, i_Code_eq, cm_Code⟩, ok_Code_eq F_Code_eq T cl_Code nm_Code n_rows (PySem.W.mg_of X G a_Code), b_Code_eq, nf_of st_Code, kit_not cls_Code ty_Code st_Code (by rfl), nf_of si_Code, kit_not cls_Code ty_Code si_Code (by rfl)⟩
  have MM : MachX P w K mg base C_Machine := ⟨f_Machine_init, _, ⟨mk_Machine, m_Machine_init, i_Machine_init, kc_Machine⟩, ok_Machine_init F_Machine_init cl_Machine n_width n_registers, PySem.W.mg_of X G a_Machine, b_Machine_init, cl_Machine, n_width, n_registers, f_Machine_eq, _, ⟨m_Machine_eq, ne_Machine, i_Machine_eq, cm_Machine⟩, ok_Machine_eq F_Machine_eq T cl_Machine nm_Machine n_width n_registers (PySem.W.mg_of X G a_Machine), b_Machine_eq, nf_of st_Machine, kit_not cls_Machine ty_Machine st_Machine (by rfl)⟩
  have EL : ErrL K mg C_InvalidCode C_LowError C_InvalidNode C_InvalidText C_Mismatch := ⟨⟨gI, hI, bI, dI, caI, cn, ct, cmI⟩, ⟨gI, hI, bI, dI⟩, nwI, nrI, PySem.W.mg_of X G a_LowError, PySem.W.mg_of X G a_InvalidNode, PySem.W.mg_of X G a_InvalidText, PySem.W.mg_of X G a_Mismatch, PySem.W.exm_ref bL dL tL sIL, kitAny_cons (kit_not cls_InvalidNode ty_InvalidNode sI_InvalidNode (ref_ne df_InvalidNode)) (fun _ => kitAny_cons (kit_not cls_InvalidText ty_InvalidText sI_InvalidText (ref_ne df_InvalidText)) (fun _ => kitAny_cons (kit_not cls_Mismatch ty_Mismatch sI_Mismatch (ref_ne df_Mismatch)) (fun _ => rfl) (fun e => by cases e)) (fun e => by cases e)) (fun e => by cases e)⟩
  have D_law_deal : Df P w K mg base 1 "_law_deal" ["_law_script", "_law_base"] (spDeal K) := ⟨f_law_deal, _, ok_law_deal F_law_deal T, PySem.W.mg_of X G a_law_deal, k_law_deal, b_law_deal⟩
  have D_law_draw : Df P w K mg base 1 "_law_draw" ["_law_deal_here", "_law_many"] spDraw := ⟨f_law_draw, _, ok_law_draw F_law_draw T, PySem.W.mg_of X G a_law_draw, k_law_draw, b_law_draw⟩
  have D_law_number : Df P w K mg base 2 "_law_number" ["_law_deal_here"] spNum := ⟨f_law_number, _, ok_law_number F_law_number T D_law_draw, PySem.W.mg_of X G a_law_number, k_law_number, b_law_number⟩
  have D_law_row : Df P w K mg base 3 "_law_row" ["_law_deal_here", "_law_registers", "_law_left"] spRowL := ⟨f_law_row, _, ok_law_row F_law_row T D_law_draw D_law_number, PySem.W.mg_of X G a_law_row, k_law_row, b_law_row⟩
  have D_law_far_row : Df P w K mg base 4 "_law_far_row" ["_law_deal_here", "_law_registers", "_law_left"] spRowL := ⟨f_law_far_row, _, ok_law_far_row F_law_far_row T D_law_draw D_law_row, PySem.W.mg_of X G a_law_far_row, k_law_far_row, b_law_far_row⟩
  have D_law_far_rows : Df P w K mg base 5 "_law_far_rows" ["_law_deal_here", "_law_registers", "_law_many"] spRows := ⟨f_law_far_rows, _, ok_law_far_rows F_law_far_rows T D_law_far_row, PySem.W.mg_of X G a_law_far_rows, k_law_far_rows, b_law_far_rows⟩
  have D_law_is_whole : Df P w K mg base 1 "_law_is_whole" ["_law_value"] spInt := ⟨f_law_is_whole, _, ok_law_is_whole F_law_is_whole T, PySem.W.mg_of X G a_law_is_whole, k_law_is_whole, b_law_is_whole⟩
  have D_law_item_fits : Df P w K mg base 2 "_law_item_fits" ["_law_form", "_law_value", "_law_row_here"] spFit := ⟨f_law_item_fits, _, ok_law_item_fits F_law_item_fits D_law_is_whole, PySem.W.mg_of X G a_law_item_fits, k_law_item_fits, b_law_item_fits⟩
  have D_law_row_fits : Df P w K mg base 3 "_law_row_fits" ["_law_row_here"] spFits := ⟨f_law_row_fits, _, ok_law_row_fits F_law_row_fits T D_law_item_fits, PySem.W.mg_of X G a_law_row_fits, k_law_row_fits, b_law_row_fits⟩
  have D_law_due : Df P w K mg base 4 "_law_due" ["_law_rows"] spDue := ⟨f_law_due, _, ok_law_due F_law_due T D_law_row_fits, PySem.W.mg_of X G a_law_due, k_law_due, b_law_due⟩
  have D_law_told : Df P w K mg base 7 "_law_told" ["_law_rows"] spTold := ⟨f_law_told, _, ok_law_told F_law_told T M (PySem.W.mg_of X G a_InvalidCode) EL, PySem.W.mg_of X G a_law_told, k_law_told, b_law_told⟩
  have D_law_odd_item : Df P w K mg base 2 "_law_odd_item" ["_law_deal_here", "_law_item"] spOdd := ⟨f_law_odd_item, _, ok_law_odd_item F_law_odd_item T D_law_draw D_law_is_whole, PySem.W.mg_of X G a_law_odd_item, k_law_odd_item, b_law_odd_item⟩
  have D_law_spoilt : DfG P w K mg base 3 "_law_spoilt" ["_law_deal_here", "_law_rows"] spSpoilt := ⟨f_law_spoilt, _, ok_law_spoilt F_law_spoilt T D_law_draw D_law_odd_item, PySem.W.mg_of X G a_law_spoilt, k_law_spoilt, b_law_spoilt⟩
  have D_law_machines_right : Df P w K mg base 3 "_law_machines_right" ["_law_deal_here"] spYes := ⟨f_law_machines_right, _, ok_law_machines_right F_law_machines_right D_law_draw MM, PySem.W.mg_of X G a_law_machines_right, k_law_machines_right, b_law_machines_right⟩
  exact ok_law (CM := C_Machine) F_law T (PySem.W.mg_none_of X G z_repr) M MC D_law_deal D_law_draw D_law_far_rows D_law_spoilt D_law_due D_law_told D_law_machines_right
end My

set_option Elab.async false
set_option linter.all false
set_option maxRecDepth 100000
set_option maxHeartbeats 1000000
namespace My
open PySem L2 MyR RT
theorem walk {l : PySem.W.OpenLaw} {q : Program} {loose : List Str} {XP : (Str → Option Value) → Heap → Prop} {YP : World → Heap → Prop} {d : DefRec} {K : Params → PySem.W.Frag} (hn : l.most = some 63) (hdf : d.params.defaults = [])
    (hY : ∀ (w : World) (h : Heap), YP w h → (K w.params).In h)
    (F : ∀ (w : World) (mg : Str → Option Value) (fa : Addr) (h : Heap), (K w.params).In h → h.Ns mainGlobals mg → mg d.name = some (.ref fa) →
      ∃ fd : FuncData, (∀ (s : Shared) (u : Value), BindsTo s fd ⟨[u], []⟩ [("_law_script", u)]) ∧ ∀ base : Heap, (K w.params).In base → base.Ns mainGlobals mg → FnOkG l.prog w (K w.params) mg base CX0 9 fa fd ["_law_script"] (spLaw (K w.params))) :
    PySem.W.WalkO q loose XP YP l.row.toRowW d [] (fun f vs => PySem.call f vs) :=
  walk_ofG (n := 63) (k := 9) (x := "_law_script") (CX := fun _ => CX0) (sp := fun w => spLaw (K w.params)) hn (by decide) hdf ⟨rfl, by decide, by decide⟩ hY F (fun _ _ a ns hl _ hS => ⟨a, ns, rfl, hS, hl, fun _ => rfl⟩) fun _ _ _ _ _ z => z
end My
open PySem PySem.W PyProof.Rows
set_option maxRecDepth 100000 in
set_option maxHeartbeats 0 in
theorem PySem.Challenge.cw_lowsure_k53_code_and_machines_holds : PySem.Challenge.rw_lowsure_k53_code_and_machines.Holds := by
  w_on; o_law; k_head; (case hw => w_witness2)
  k_fill
  refine My.walk (l := PySem.Challenge.rw_lowsure_k53_code_and_machines) rfl rfl (fun w h Y => PySem.W.kIn_of Y) ?F
  case F =>
    intro w mg fa h KX G hmg
    refine' My.all_mk KX G hmg ?a_is_integer ?l_is_integer ?c_is_integer ?k_is_integer ?a_is_between ?l_is_between ?c_is_between ?k_is_between ?a_is_small ?l_is_small ?c_is_small ?k_is_small ?a_is_item ?l_is_item ?c_is_item ?k_is_item ?a_is_row ?l_is_row ?c_is_row ?k_is_row ?a_law_deal ?l_law_deal ?c_law_deal ?k_law_deal ?a_law_draw ?l_law_draw ?c_law_draw ?k_law_draw ?a_law_number ?l_law_number ?c_law_number ?k_law_number ?a_law_row ?l_law_row ?c_law_row ?k_law_row ?a_law_far_row ?l_law_far_row ?c_law_far_row ?k_law_far_row ?a_law_far_rows ?l_law_far_rows ?c_law_far_rows ?k_law_far_rows ?a_law_is_whole ?l_law_is_whole ?c_law_is_whole ?k_law_is_whole ?a_law_item_fits ?l_law_item_fits ?c_law_item_fits ?k_law_item_fits ?a_law_row_fits ?l_law_row_fits ?c_law_row_fits ?k_law_row_fits ?a_law_due ?l_law_due ?c_law_due ?k_law_due ?a_law_told ?l_law_told ?c_law_told ?k_law_told ?a_law_odd_item ?l_law_odd_item ?c_law_odd_item ?k_law_odd_item ?a_law_spoilt ?l_law_spoilt ?c_law_spoilt ?k_law_spoilt ?a_law_machines_right ?l_law_machines_right ?c_law_machines_right ?k_law_machines_right ?a_law ?l_law ?c_law ?k_law ?a_Code ?a_Machine ?a_InvalidCode ?a_LowError ?a_InvalidNode ?a_InvalidText ?a_Mismatch ?m_Code_init ?l_Code_init ?c_Code_init ?k_Code_init ?i_Code_init ?m_Code_len ?l_Code_len ?c_Code_len ?k_Code_len ?i_Code_len ?m_Code_eq ?l_Code_eq ?c_Code_eq ?k_Code_eq ?i_Code_eq ?m_Machine_init ?l_Machine_init ?c_Machine_init ?k_Machine_init ?i_Machine_init ?m_Machine_eq ?l_Machine_eq ?c_Machine_eq ?k_Machine_eq ?i_Machine_eq ?m_InvalidCode_init ?l_InvalidCode_init ?c_InvalidCode_init ?k_InvalidCode_init ?y_InvalidCode_init ?pg_Code ?hd_Code ?po_Code ?sa_Code ?mk_Code ?kc_Code ?ca_Code ?cm_Code ?ty_Code ?ne_Code ?sb_Code ?cls_Code ?st_Code ?si_Code ?pg_Machine ?hd_Machine ?po_Machine ?sa_Machine ?mk_Machine ?kc_Machine ?ca_Machine ?cm_Machine ?ty_Machine ?ne_Machine ?sb_Machine ?cls_Machine ?st_Machine ?si_Machine ?n_rows ?n_width ?n_registers ?cn ?ct ?xL ?saI ?kI ?bI ?tI ?gI ?hI ?dI ?caI ?cmI ?nwI ?nrI ?bL ?dL ?tL ?sIL ?sI_InvalidNode ?cls_InvalidNode ?ty_InvalidNode ?df_InvalidNode ?sI_InvalidText ?cls_InvalidText ?ty_InvalidText ?df_InvalidText ?sI_Mismatch ?cls_Mismatch ?ty_Mismatch ?df_Mismatch ?gl_LIMIT ?gl_ROWS ?gl_REGS ?gl_SLOTS ?gl_MODULI ?gl_FORMS ?lM ?sM ?zM ?lF ?kF ?oF ?eF ?d_set ?d_copy ?d_add ?d_sub ?d_mul ?d_left ?d_right ?d_load ?d_store ?d_skip ?z_len ?z_max ?z_list ?z_tuple ?z_reversed ?z_range ?z_int ?z_str ?z_bool ?z_isinstance ?z_all ?z_enumerate ?z_zip ?z_repr
    (case a_is_integer => k_is)
    (case l_is_integer => k_is)
    (case c_is_integer => k_is)
    (case k_is_integer => k_is)
    (case a_is_between => k_is)
    (case l_is_between => k_is)
    (case c_is_between => k_is)
    (case k_is_between => k_is)
    (case a_is_small => k_is)
    (case l_is_small => k_is)
    (case c_is_small => k_is)
    (case k_is_small => k_is)
    (case a_is_item => k_is)
    (case l_is_item => k_is)
    (case c_is_item => k_is)
    (case k_is_item => k_is)
    (case a_is_row => k_is)
    (case l_is_row => k_is)
    (case c_is_row => k_is)
    (case k_is_row => k_is)
    (case a_law_deal => k_is)
    (case l_law_deal => k_is)
    (case c_law_deal => k_is)
    (case k_law_deal => k_is)
    (case a_law_draw => k_is)
    (case l_law_draw => k_is)
    (case c_law_draw => k_is)
    (case k_law_draw => k_is)
    (case a_law_number => k_is)
    (case l_law_number => k_is)
    (case c_law_number => k_is)
    (case k_law_number => k_is)
    (case a_law_row => k_is)
    (case l_law_row => k_is)
    (case c_law_row => k_is)
    (case k_law_row => k_is)
    (case a_law_far_row => k_is)
    (case l_law_far_row => k_is)
    (case c_law_far_row => k_is)
    (case k_law_far_row => k_is)
    (case a_law_far_rows => k_is)
    (case l_law_far_rows => k_is)
    (case c_law_far_rows => k_is)
    (case k_law_far_rows => k_is)
    (case a_law_is_whole => k_is)
    (case l_law_is_whole => k_is)
    (case c_law_is_whole => k_is)
    (case k_law_is_whole => k_is)
    (case a_law_item_fits => k_is)
    (case l_law_item_fits => k_is)
    (case c_law_item_fits => k_is)
    (case k_law_item_fits => k_is)
    (case a_law_row_fits => k_is)
    (case l_law_row_fits => k_is)
    (case c_law_row_fits => k_is)
    (case k_law_row_fits => k_is)
    (case a_law_due => k_is)
    (case l_law_due => k_is)
    (case c_law_due => k_is)
    (case k_law_due => k_is)
    (case a_law_told => k_is)
    (case l_law_told => k_is)
    (case c_law_told => k_is)
    (case k_law_told => k_is)
    (case a_law_odd_item => k_is)
    (case l_law_odd_item => k_is)
    (case c_law_odd_item => k_is)
    (case k_law_odd_item => k_is)
    (case a_law_spoilt => k_is)
    (case l_law_spoilt => k_is)
    (case c_law_spoilt => k_is)
    (case k_law_spoilt => k_is)
    (case a_law_machines_right => k_is)
    (case l_law_machines_right => k_is)
    (case c_law_machines_right => k_is)
    (case k_law_machines_right => k_is)
    (case a_law => k_is)
    (case l_law => k_is)
    (case c_law => k_is)
    (case k_law => k_is)
    (case a_Code => k_is)
    (case a_Machine => k_is)
    (case a_InvalidCode => k_is)
    (case a_LowError => k_is)
    (case a_InvalidNode => k_is)
    (case a_InvalidText => k_is)
    (case a_Mismatch => k_is)
    (case m_Code_init => k_is)
    (case l_Code_init => k_is)
    (case c_Code_init => k_is)
    (case k_Code_init => k_is)
    (case i_Code_init => k_is)
    (case m_Code_len => k_is)
    (case l_Code_len => k_is)
    (case c_Code_len => k_is)
    (case k_Code_len => k_is)
    (case i_Code_len => k_is)
    (case m_Code_eq => k_is)
    (case l_Code_eq => k_is)
    (case c_Code_eq => k_is)
    (case k_Code_eq => k_is)
    (case i_Code_eq => k_is)
    (case m_Machine_init => k_is)
    (case l_Machine_init => k_is)
    (case c_Machine_init => k_is)
    (case k_Machine_init => k_is)
    (case i_Machine_init => k_is)
    (case m_Machine_eq => k_is)
    (case l_Machine_eq => k_is)
    (case c_Machine_eq => k_is)
    (case k_Machine_eq => k_is)
    (case i_Machine_eq => k_is)
    (case m_InvalidCode_init => k_is)
    (case l_InvalidCode_init => k_is)
    (case c_InvalidCode_init => k_is)
    (case k_InvalidCode_init => k_is)
    (case y_InvalidCode_init => k_is)
    (case pg_Code => k_is)
    (case hd_Code => k_is)
    (case po_Code => k_is)
    (case sa_Code => k_is)
    (case mk_Code => k_is)
    (case kc_Code => k_is)
    (case ca_Code => k_is)
    (case cm_Code => k_is)
    (case ty_Code => k_is)
    (case ne_Code => k_is)
    (case sb_Code => k_is)
    (case cls_Code => k_is)
    (case st_Code => k_is)
    (case si_Code => k_is)
    (case pg_Machine => k_is)
    (case hd_Machine => k_is)
    (case po_Machine => k_is)
    (case sa_Machine => k_is)
    (case mk_Machine => k_is)
    (case kc_Machine => k_is)
    (case ca_Machine => k_is)
    (case cm_Machine => k_is)
    (case ty_Machine => k_is)
    (case ne_Machine => k_is)
    (case sb_Machine => k_is)
    (case cls_Machine => k_is)
    (case st_Machine => k_is)
    (case si_Machine => k_is)
    (case n_rows => k_is)
    (case n_width => k_is)
    (case n_registers => k_is)
    (case cn => k_is)
    (case ct => k_is)
    (case xL => k_is)
    (case saI => k_is)
    (case kI => k_is)
    (case bI => k_is)
    (case tI => k_is)
    (case gI => k_is)
    (case hI => k_is)
    (case dI => k_is)
    (case caI => k_is)
    (case cmI => k_is)
    (case nwI => k_is)
    (case nrI => k_is)
    (case bL => k_is)
    (case dL => k_is)
    (case tL => k_is)
    (case sIL => k_is)
    (case sI_InvalidNode => k_is)
    (case cls_InvalidNode => k_is)
    (case ty_InvalidNode => k_is)
    (case df_InvalidNode => decide)
    (case sI_InvalidText => k_is)
    (case cls_InvalidText => k_is)
    (case ty_InvalidText => k_is)
    (case df_InvalidText => decide)
    (case sI_Mismatch => k_is)
    (case cls_Mismatch => k_is)
    (case ty_Mismatch => k_is)
    (case df_Mismatch => decide)
    (case gl_LIMIT => k_is)
    (case gl_ROWS => k_is)
    (case gl_REGS => k_is)
    (case gl_SLOTS => k_is)
    (case gl_MODULI => k_is)
    (case gl_FORMS => k_is)
    (case lM => k_is)
    (case sM => kernel_rfl)
    (case zM => kernel_rfl)
    (case lF => k_is)
    (case kF => k_keys)
    (case oF => decide)
    (case eF => kernel_rfl)
    (case d_set => k_is)
    (case d_copy => k_is)
    (case d_add => k_is)
    (case d_sub => k_is)
    (case d_mul => k_is)
    (case d_left => k_is)
    (case d_right => k_is)
    (case d_load => k_is)
    (case d_store => k_is)
    (case d_skip => k_is)
    (case z_len => k_is)
    (case z_max => k_is)
    (case z_list => k_is)
    (case z_tuple => k_is)
    (case z_reversed => k_is)
    (case z_range => k_is)
    (case z_int => k_is)
    (case z_str => k_is)
    (case z_bool => k_is)
    (case z_isinstance => k_is)
    (case z_all => k_is)
    (case z_enumerate => k_is)
    (case z_zip => k_is)
    (case z_repr => k_is)
