import PyProof.Rows.All
import Wide.All
import OpenK.AllK
import Wide.FinOn
import HandS.ForMost
import HandS.Rev
import HandS.Walk
import KE.GoesMore
import KE.GoesEnum
import KE.GoesZip
import HandS.Wide
import PySem.Challenge.RW_lowsure_k54_code_without_rows
import PyProof.InstNe
import HandS.More
import HandS.OwnEq
import OpenK.KOps
import HandS.IsInst
import HandS.NoneIn
import HandS.Evl
set_option Elab.async false
set_option linter.all false
set_option maxRecDepth 100000
set_option maxHeartbeats 1000000
namespace MyR
open PySem PySem.Spec PyProof.Rows L2 RT
section
variable {prog : Program} {w : World} {A : Around} {E : Value → Shared → Prop} {s : Shared}
theorem extend_rev {R : Result → Shared → Prop} {S it l : Addr} {items : Array Value} {res : Value} {c0 : Nat} (hh : A.handled = none) (hit : s.heap.IsRevIter it l ((items.size : Int) - 1)) (hl : s.heap.IsList l items) (hne : l ≠ it) (hSi : S ≠ it) (hSl : S ≠ l) (hn : items.size ≤ sizeLine)
    (hS : s.heap.get? S = some { cls := .type "list", data := .seq #[] c0 })
    (hR : ∀ (s' : Shared) (acc : Array Value) (c' : Nat), (∀ b o, b ≠ it → b ≠ S → s.heap.get? b = some o → s'.heap.get? b = some o) → s' = { s with heap := s'.heap, toks := s'.toks } → s'.heap.get? S = some { cls := .type "list", dict := none, data := .seq acc c', slots := #[] } →
      ItemsOf (fun i v => items[items.size - 1 - i]? = some v) acc items.size → R (.ok (.ret res)) s') :
    wpAny (model prog w) A.in1 (Builtin.List.listExtendWith (.ref S) (.ref it) res)
      (fun fin s' => match fin with | .done f => R (.ok f) s' | .again c' => c'.quiet = true ∧ codeAny (model prog w) A c' R s') (fun e s' => R (.error e) s') s := by
  have W := (Walks.listRev (prog := prog) (w := w) (A := A.in1) hh it l hne items).toS
  have hSf : S ∉ [it, l] := by simp only [List.mem_cons, List.not_mem_nil, or_false, not_or]; exact ⟨hSi, hSl⟩
  have hT : s.TypeIs (.ref it) "list_reverseiterator" := hit.typeIs
  have h1 : Builtin.List.listSameRef (.ref S) (.ref it) = false := by simp [Builtin.List.listSameRef, hSi]
  unfold Builtin.List.listExtendWith
  refine wpAny_bind (wpAny_typeOf hT ?_)
  rw [if_neg (by rw [h1]; decide)]
  refine wpAny_bind (wpAny_pyIter_revIter hit ?_)
  refine wpAny_bind (wpAny_holding ?_)
  unfold Builtin.List.listLengthHint
  refine wpAny_bind (wpAny_specialOf hT nolen_lri ?_)
  show wpAny _ A.in1 (specialOf (Value.ref it) (Str.ofString "__length_hint__") >>= _) _ _ _
  refine wpAny_bind (wpAny_specialOf hT hint_lri ?_)
  generalize hid : ("list_reverseiterator.__length_hint__" : String) = id0
  wp_delta
  rw [show splitId id0 = some ("list_reverseiterator", "__length_hint__") from by subst hid; decide +kernel]
  subst hid
  refine wpAny_bind (wpAny_isInstance (b := true) hT (by rw [isSubtype_type]; kernel_rfl) ?_)
  refine wpAny_pure ?_
  rw [if_neg (by decide)]
  have e0 : ((items.size : Nat) : Int) - 1 - ((0 : Nat) : Int) = (items.size : Int) - 1 := by omega
  refine wpAny_pure ⟨plainId_quiet F.plain_extend_loop _, codeAny_extend_loopS W hn _ hSf _ items.size 0 _ _ _ rfl (Nat.zero_le _) ⟨Nat.zero_le _, by rw [e0]; exact hit, hl⟩ hS (ItemsOf.nil _) fun s' acc' c' hm hS' hacc => ?_⟩
  refine hR s' acc' c' (fun b o hb hb2 e => hm.heap b o (fun hmem => ?_) e) (Moved.eq_with hm) hS' hacc
  rcases List.mem_cons.mp hmem with e' | hmem
  · exact hb2 e'
  · exact hb (List.mem_singleton.mp hmem)
theorem list_init_rev {R : Result → Shared → Prop} {S it l : Addr} {items : Array Value} (hh : A.handled = none) (hit : s.heap.IsRevIter it l ((items.size : Int) - 1)) (hl : s.heap.IsList l items) (hne : l ≠ it) (hSi : S ≠ it) (hSl : S ≠ l) (hn : items.size ≤ sizeLine)
    (hS : s.heap.get? S = some { cls := .type "list", data := .seq #[] })
    (hR : ∀ (s' : Shared) (acc : Array Value) (c' : Nat), (∀ b o, b ≠ it → b ≠ S → s.heap.get? b = some o → s'.heap.get? b = some o) → s' = { s with heap := s'.heap, toks := s'.toks } → s'.heap.get? S = some { cls := .type "list", dict := none, data := .seq acc c', slots := #[] } →
      ItemsOf (fun i v => items[items.size - 1 - i]? = some v) acc items.size → R (.ok (.ret .none)) s') :
    wpAny (model prog w) A.in1 (Builtin.«list.__init__» ⟨[.ref S, .ref it], []⟩)
      (fun fin s' => match fin with | .done f => R (.ok f) s' | .again c' => c'.quiet = true ∧ codeAny (model prog w) A c' R s') (fun e s' => R (.error e) s') s := by
  show wpAny _ A.in1 (do let old ← Builtin.List.listItems (.ref S); Builtin.List.listUpdate (.ref S) (fun _ => #[]); letGo old.toList.reverse; Builtin.List.listExtendWith (.ref S) (.ref it) .none) _ _ s
  refine wpAny_bind ?_
  unfold Builtin.List.listItems
  refine wpAny_bind (wpAny_seqItems hS rfl (wpAny_pure ?_))
  show wpAny _ A.in1 (updateSeq S (fun _ => #[]) >>= fun _ => letGo (#[] : Array Value).toList.reverse >>= fun _ => Builtin.List.listExtendWith (.ref S) (.ref it) .none) _ _ s
  refine wpAny_bind (wpAny_updateSeq hS rfl ?_)
  have hS2 := Heap.get?_update_self (Obj.mapSeq (fun _ => (#[] : Array Value))) hS rfl
  have oth : ∀ b o, b ≠ S → s.heap.get? b = some o → (s.heap.update S (Obj.mapSeq (fun _ => (#[] : Array Value)))).get? b = some o :=
    fun b o hb e => (Heap.get?_update_other _ _ (Ne.symm hb)).trans e
  refine wpAny_bind (wpAny_letGo ?_)
  refine extend_rev hh (hit.at fun o e => oth it o (Ne.symm hSi) e) (hl.at fun o e => oth l o (Ne.symm hSl) e) hne hSi hSl hn hS2 fun s' acc c' hk hs hS' hi => ?_
  refine hR s' acc c' (fun b o h1 h2 e => hk b o h1 h2 (oth b o h2 e)) ?_ hS' hi
  exact hs
theorem call_list_rev {it l : Addr} {items : Array Value} {Q : Value → Shared → Prop} (hh : A.handled = none) (hit : s.heap.IsRevIter it l ((items.size : Int) - 1)) (hl : s.heap.IsList l items) (hne : l ≠ it) (hn : items.size ≤ sizeLine)
    (hQ : ∀ (s' : Shared) (acc : Array Value) (c' : Nat), (∀ b o, b ≠ it → s.heap.get? b = some o → s'.heap.get? b = some o) → s' = { s with heap := s'.heap, toks := s'.toks } → s'.heap.get? s.heap.objs.size = some { cls := .type "list", dict := none, data := .seq acc c', slots := #[] } →
      ItemsOf (fun i v => items[items.size - 1 - i]? = some v) acc items.size → Q (.ref s.heap.objs.size) s') :
    wpAny (model prog w) A (call (.type "list") [.ref it]) Q E s := by
  obtain ⟨oi, hoi, _⟩ := id hit
  obtain ⟨ol, hol, _⟩ := id hl
  have hSi : s.heap.objs.size ≠ it := Nat.ne_of_gt (Heap.lt_size hoi)
  have hSl : s.heap.objs.size ≠ l := Nat.ne_of_gt (Heap.lt_size hol)
  refine callType_codes (Q₁ := fun obj s₁ => obj = .ref s.heap.objs.size ∧ s₁ = { s with heap := s.heap.push { cls := .type "list", data := .seq #[] } }) F.called_list (F.typeCall_list_1 _) F.entry_list_init
    (code_list_new _ ⟨rfl, rfl⟩) fun obj s₁ h₁ => ?_
  obtain ⟨rfl, rfl⟩ := h₁
  have hS : (s.heap.push { cls := .type "list", data := .seq #[] }).get? s.heap.objs.size = some { cls := .type "list", data := .seq #[] } := Heap.get?_push_size _ rfl
  refine ⟨⟨_, hS, rfl⟩, F.args_list_init_2 _ _, list_init_rev (A := A.in1) hh (hit.at fun o e => Heap.get?_push_of_some _ e) (hl.push _) hne hSi hSl hn hS fun s' acc c' hk hs hS' hi => ?_⟩
  exact ⟨rfl, hQ s' acc c' (fun b o hb e => hk b o hb (Nat.ne_of_lt (Heap.lt_size e)) (Heap.get?_push_of_some _ e)) hs hS' hi⟩
end
/-- list(reversed(x)), x a list: a new list -/
def tLstRev (K : PySem.W.Frag) (te : TE) : TE := fun σ H Q => te σ H fun v H1 => ∃ (a : Addr) (xs : List V), v = .ref a ∧ SqL K H1 a xs ∧ ∀ q, H1 q = none → Q (.ref q) (upd H1 q (.lst xs.reverse))
section
variable {X : Cx}
theorem pe_lstRev {e : Expr} {te : TE} {p p2 pos pos2 : Pos} (hc : X.calm = true) (hg : Gl X "list") (hm : X.mg "list" = none) (hg2 : Gl X "reversed") (hm2 : X.mg "reversed" = none) (he : PE X e te)
    (hs : starEach [e] X.env = (false, eval e X.env) :: starEach [] X.env := by rfl)
    (hs2 : starEach [.Call (.Name "reversed" p2) [e] [] pos2] X.env = (false, eval (.Call (.Name "reversed" p2) [e] [] pos2) X.env) :: starEach [] X.env := by rfl) :
    PE X (.Call (.Name "list" p) [.Call (.Name "reversed" p2) [e] [] pos2] [] pos) (tLstRev X.K te) := by
  refine ⟨fun pins s σ H Q I h => ?_⟩
  refine Call_ (ld_blt I hg hm (show bootBuiltins "list" = some (.type "list") by decide +kernel) (PyProof.Rows.callWith_type1 (args_cons (Call_ (ld_blt I hg2 hm2 PyProof.Rows.boot_reversed (PyProof.Rows.callWith_type1 (args_cons (thn (he.run pins s σ H _ I h) fun u s1 ⟨v, H1, I1, r1, q1⟩ => args_nil ?_) hs) hs rfl))) hs2) hs2 rfl))
  obtain ⟨a, xs, ev, hq, q⟩ := q1
  subst ev
  obtain rfl : u = Value.ref a := r1
  obtain ⟨its, rv, p', hz⟩ := I1.list hq
  refine call_reversed_list p'.isList (args_nil ?_)
  have k0 : ∀ b o, s1.heap.get? b = some o → (s1.heap.push (revObj a ((its.toArray.size : Int) - 1))).get? b = some o := fun b o e => Heap.get?_push_of_some _ e
  have hl := p'.isList
  obtain ⟨ol, hol, _⟩ := id hl
  have hne : a ≠ s1.heap.objs.size := Nat.ne_of_lt (Heap.lt_size hol)
  have hn : its.toArray.size ≤ sizeLine := by rw [List.size_toArray, ← rv.length]; exact hz
  refine call_list_rev (s := { s1 with heap := s1.heap.push (revObj a ((its.toArray.size : Int) - 1)) }) (I1.ok.hd hc) ⟨_, Heap.get?_push_size _ rfl, rfl, rfl⟩ (hl.push _) hne hn fun s' acc c' hk hs' hS' hi => ?_
  have kk : ∀ b o, s1.heap.get? b = some o → s'.heap.get? b = some o := fun b o e => hk b o (Nat.ne_of_lt (Heap.lt_size e)) (k0 b o e)
  have hsz : s1.heap.objs.size ≤ (s1.heap.push (revObj a ((its.toArray.size : Int) - 1))).objs.size := by rw [Heap.size_push]; exact Nat.le_succ _
  have J := I1.laid (a := (s1.heap.push (revObj a ((its.toArray.size : Int) - 1))).objs.size) (o := .lst xs.reverse) (h' := s'.heap) (t' := s'.toks) kk hsz
    (show ObjOk X.prog X.w _ _ _ (.lst xs.reverse) from ⟨by rw [List.length_reverse]; exact hz, acc.toList, c', vals_rev rv hi, by rw [Array.toArray_toList]; exact hS'⟩)
  rw [hs']
  exact ⟨.ref _, _, J, rfl, q _ (I1.hok.fresh hsz)⟩
end
end MyR

set_option Elab.async false
set_option linter.all false
set_option maxRecDepth 100000
set_option maxHeartbeats 1000000
namespace MyR
open PySem PySem.Spec PyProof.Rows L2

/-! ### what gives new pairs over things that stand: enumerate(tuple), zip(text, tuple), told once -/
/-- at turn i a walk of n turns is at hand whose next pair is of x and y -/
def PairAt (P : Program) (w : World) (A : Around) (I : Addr) (cs : List Addr) (own : Nat → Heap → Prop) (h : Heap) (i : Nat) (x y : V) (more : Prop) : Prop :=
  ∃ (n : Nat) (wr fp : List Addr) (Pt : Nat → Array Value → Prop) (St : Nat → Heap → Prop) (Mid : Nat → Addr → Heap → Prop), WalksT P w A I fp wr n Pt St Mid ∧ (∀ b ∈ wr, b ∈ cs) ∧ St i h ∧ (∀ j g, St j g → own j g) ∧
    ((more → i < n ∧ ∀ vals, Pt i vals → ∃ u v, vals = #[u, v] ∧ RelV x u ∧ RelV y v) ∧ (¬ more → i = n))
theorem turn_pairs {P : Program} {w : World} {K : PySem.W.Frag} {elts : List Expr} {kk : Nat} {tpos : Pos} {I : Addr} {cs : List Addr} {J : It} {own : Nat → Heap → Prop} (hI : I ∈ cs)
    (cells : ∀ i h, own i h → ∀ b ∈ cs, ∃ o, h.get? b = some o ∧ ∀ v, o.data ≠ .cell v)
    (stays : ∀ i g g', own i g → (∀ b ∈ cs, ∀ o, g.get? b = some o → g'.get? b = some o) → own i g')
    (again : ∀ (A : Around) (i : Nat) (s : Shared) (Q E : Value → Shared → Prop), own i s.heap → Q (.ref I) s → wpAny (model P w) A (pyIter (.ref I)) Q E s)
    (goes : ∀ (X : Cx) (pins : List (Addr × Obj)) (s : Shared) (σ : L2.St) (H : Hp) (i : Nat), X.prog = P → X.w = w → X.K = K → X.A.handled = none → Inv X pins σ H s → own i s.heap → J.go i H →
      ∃ x y, PairAt P w X.A I cs own s.heap i x y True ∧ ∀ T, H T = none → J.yld i H (.ref T) (upd H T (.tup [x, y])))
    (ends : ∀ (X : Cx) (pins : List (Addr × Obj)) (s : Shared) (σ : L2.St) (H : Hp) (i : Nat), X.prog = P → X.w = w → X.K = K → X.A.handled = none → Inv X pins σ H s → own i s.heap → J.stop i H → PairAt P w X.A I cs own s.heap i .non .non False) :
    Turn P w K (.Tuple elts kk tpos) J cs I own where
  mem := hI
  obj := cells
  keep := stays
  self := again
  item := by
    intro X eP ew eK calm i pins s σ H E inv free st more
    obtain ⟨x, y, ⟨n, wr, fp, Pt, St, Mid, W, sub, hst, hown, hmore, _⟩, hyld⟩ := goes X pins s σ H i eP ew eK (inv.ok.hd calm) inv st more
    obtain ⟨hin, hvals⟩ := hmore trivial
    subst eP ew eK
    refine W.item i s _ _ hin hst fun T vals h1 tk hP hT hTup hMid k1 => ?_
    obtain ⟨u, v, rfl, ru, rv⟩ := hvals vals hP
    refine ⟨.ref T, rfl, W.go elts kk tpos i T _ _ _ hMid fun h2 st2 k2 => ?_⟩
    have tup2 : h2.IsTuple T #[u, v] := hTup.at fun o e => k2 T o (W.apart i T h1 hMid) e
    have fresh : H T = none := inv.hok.fresh hT
    have inv2 : Inv X pins σ (upd H T (.tup [x, y])) { s with heap := h2, toks := tk } :=
      inv.turnedNew (ch := cs) (fun b o nb e => k2 b o (fun m => nb (sub b m)) (k1 b o (fun m => nb (sub b m)) e)) free hT ⟨(by show 2 ≤ sizeLine; decide), [u, v], .cons ru (.cons rv .nil), tup2⟩
    refine ⟨.ref T, _, inv2, rfl, hyld T fresh, hown _ _ st2, fun b hb => ?_⟩
    obtain ⟨o, ho, _⟩ := cells i _ st b hb
    rw [upd_ne (Nat.ne_of_lt (Nat.lt_of_lt_of_le (Heap.lt_size ho) hT))]
    exact (free b hb).1
  done := by
    intro X eP ew eK calm i pins s σ H E inv free st stop
    obtain ⟨n, wr, fp, Pt, St, Mid, W, sub, hst, _, _, hend⟩ := ends X pins s σ H i eP ew eK (inv.ok.hd calm) inv st stop
    obtain rfl := hend (fun f => f)
    subst eP ew eK
    exact W.done s _ _ hst fun h1 tk k1 => ⟨rfl, inv.turnedL (t' := tk) (ch := cs) (fun b o nb e => k1 b o (fun m => nb (sub b m)) e) free⟩

/-! ### enumerate(tuple) -/
/-- the tuple at a, each item in a new pair -/
def IteT (K : PySem.W.Frag) (a : Addr) : It where
  go i H := ∃ (xs : List V) (x : V), SqT K H a xs ∧ xs[i]? = some x
  yld i H v H' := ∃ T x, v = .ref T ∧ H T = none ∧ H' = upd H T (.tup [.int (i : Nat), x]) ∧ ∀ xs, SqT K H a xs → xs[i]? = some x
  stop i H := ∃ xs : List V, SqT K H a xs ∧ xs.length = i
/-- the two cells of an enumerate over the tuple at a, i items taken -/
def EnumT (a e it : Addr) (i : Nat) (h : Heap) : Prop := (∃ old, IsEnum h e it (0 + (i : Int)) old) ∧ h.IsTupleIter it a i
theorem turn_enumT {P : Program} {w : World} {K : PySem.W.Frag} {elts : List Expr} {kk : Nat} {tpos : Pos} {a e it : Addr} (hei : e ≠ it) (hai : a ≠ it) (hae : a ≠ e) : Turn P w K (.Tuple elts kk tpos) (IteT K a) [e, it] e (EnumT a e it) := by
  have W : ∀ (A : Around), A.handled = none → ∀ items : Array Value, _ := fun A hh items =>
    WalksT.enumFrom (prog := P) (w := w) (A := A) 0 (Draws.tuple (A := A.in1) hh it a hai items) e hei (by simp only [List.mem_cons, List.not_mem_nil, or_false, not_or]; exact ⟨hei, Ne.symm hae⟩) (List.mem_cons_self ..)
  refine turn_pairs (List.mem_cons_self ..) (fun i h st b hb => ?_) (fun i g g' st k => ?_) (fun A i s Q E st q => ?_) (fun X pins s σ H i eP ew eK hh inv st go => ?_) (fun X pins s σ H i eP ew eK hh inv st stop => ?_)
  · obtain ⟨⟨old, he⟩, o, ho, _, hd⟩ := st
    rcases List.mem_cons.mp hb with z | z
    · subst z
      exact ⟨_, he, fun v q => nomatch q⟩
    · exact ⟨o, by rw [List.mem_singleton.mp z]; exact ho, fun v q => by rw [hd] at q; cases q⟩
  · obtain ⟨⟨old, he⟩, hi⟩ := st
    exact ⟨⟨old, k e (List.mem_cons_self ..) _ he⟩, hi.at fun o q => k it (List.mem_cons_of_mem _ (List.mem_cons_self ..)) o q⟩
  · obtain ⟨⟨_, he⟩, _⟩ := st
    exact wpAny_pyIter_enum he q
  · obtain ⟨xs, x, hq, hx⟩ := go
    subst eK
    obtain ⟨its, rv, tup, _⟩ := inv.tuple hq
    obtain ⟨u, hu, ru⟩ := rv.get hx
    have hu' : its.toArray[i]? = some u := by simpa using hu
    have hin : i < its.toArray.size := (Array.getElem?_eq_some_iff.mp hu').1
    refine ⟨.int (i : Nat), x, ⟨_, _, _, _, _, _, W X.A hh its.toArray, fun b hb => hb, ⟨st.1, st.2, tup⟩, fun j g z => ⟨z.1, z.2.1⟩, fun _ => ⟨hin, fun vals hP => ?_⟩, fun f => absurd trivial f⟩, fun T hT => ⟨T, x, rfl, hT, rfl, fun ys hy => by rw [inv.tuple_inj hy hq]; exact hx⟩⟩
    obtain ⟨t, v, hv, rfl⟩ := hP
    refine ⟨_, v, rfl, ⟨t, by rw [Int.zero_add]⟩, ?_⟩
    have e1 : its.toArray[i]? = some v := hv
    rw [e1] at hu'
    rw [Option.some.inj hu']
    exact ru
  · obtain ⟨xs, hq, hx⟩ := stop
    subst eK
    obtain ⟨its, rv, tup, _⟩ := inv.tuple hq
    have hl := rv.length
    exact ⟨_, _, _, _, _, _, W X.A hh its.toArray, fun b hb => hb, ⟨st.1, st.2, tup⟩, fun j g z => ⟨z.1, z.2.1⟩, fun f => f.elim, fun _ => by rw [List.size_toArray]; omega⟩
set_option maxHeartbeats 1000000 in
/-- enumerate(v): an iterator over v, and the object itself -/
theorem meets_enum1 {v : Value} {o : Obj} {There : Heap → Prop} (B : Begins v o There) :
    Meets (Builtin.«enumerate.__new__» ⟨[.type "enumerate", v], []⟩) fun _ R s => There s.heap ∧
      R (.ok (.ret (.ref (s.heap.push o).objs.size))) { s with heap := (s.heap.push o).push { cls := .type "enumerate", data := .fields #[.none, .bool false, .ref s.heap.objs.size, rawInt 0, .none, .none] } } :=
  .of_wp fun prog w A R s there => by
    obtain ⟨there, after⟩ := there
    obtain ⟨hp, gens, drawn, toks, os⟩ := s
    have sub := sub_enumerate
    have begin_ : ∀ {A' : Around} {E Q : Value → Shared → Prop}, Q (.ref hp.objs.size) ⟨hp.push o, gens, drawn, toks, os⟩ → wpAny (model prog w) A' (pyIter v) Q E ⟨hp, gens, drawn, toks, os⟩ := fun q => B.iter prog w _ _ _ _ there q
    wp_walk using begin_
    refine wpAny_stack_any fun frames => wpAny_pure ?_
    split <;> (try (rename_i c _ _ _ _ _; cases (c == Value.type "enumerate"))) <;> (wp_walk using begin_; exact ⟨_, rfl, after⟩)
theorem enum_over {prog : Program} {w : World} {A : Around} {E : Value → Shared → Prop} {s : Shared} {a : Addr} {items : Array Value} {Q : Value → Shared → Prop} (tup : s.heap.IsTuple a items)
    (next : ∀ g, EnumT a (s.heap.objs.size + 1) s.heap.objs.size 0 g → (∀ b o, s.heap.get? b = some o → g.get? b = some o) → Q (.ref (s.heap.objs.size + 1)) { s with heap := g }) :
    wpAny (model prog w) A (call (.type "enumerate") [.ref a]) Q E s := by
  refine callType_new F.called_enumerate (by decide) (F.typeCall_enumerate_1 _) (F.newCall_enumerate_1 _) (fun obj => F.args_object_init_2 obj _) F.entry_enumerate_new (meets_enum1 (begins_tuple a items)) ⟨tup, ?_⟩
  generalize ho1 : ({ cls := .type "tuple_iterator", data := .fields #[.ref a, .int 0 0] } : Obj) = o1
  have n1 : (s.heap.push o1).objs.size = s.heap.objs.size + 1 := Heap.size_push ..
  have g2 := Heap.get?_push_size (s.heap.push o1) (o := { cls := .type "enumerate", data := .fields #[.none, .bool false, .ref s.heap.objs.size, rawInt 0, .none, .none] }) rfl
  have g1 := Heap.get?_push_of_some { cls := .type "enumerate", data := .fields #[.none, .bool false, .ref s.heap.objs.size, rawInt 0, .none, .none] } (Heap.get?_push_size s.heap (o := o1) (by subst ho1; rfl))
  show _ ∧ _
  rw [n1] at g2 ⊢
  subst ho1
  exact ⟨⟨_, g2, rfl⟩, next _ ⟨⟨_, g2⟩, _, g1, rfl, rfl⟩ fun b o e => Heap.get?_push_of_some _ (Heap.get?_push_of_some _ e)⟩
def iEnumT (K : PySem.W.Frag) (ta : TA) : TI := fun σ H R => ta σ H fun vs H1 => ∃ a xs, vs = [.ref a] ∧ SqT K H1 a xs ∧ R (IteT K a) H1
theorem pi_enumT {X : Cx} {e : Expr} {ta : TA} {p pos tpos : Pos} {elts : List Expr} {kk : Nat} (hg : Gl X "enumerate") (hm : X.mg "enumerate" = none) (ha : PA X [e] ta) (one : starEach [e] X.env = [(false, eval e X.env)] := by rfl) :
    PI X (.Tuple elts kk tpos) (.Call (.Name "enumerate" p) [e] [] pos) (iEnumT X.K ta) where
  run pins s σ H R inv h := by
    refine Call_ (ld_blt inv hg hm boot_enumerate (PyProof.Rows.callWith_type1 (thn (ha.run pos pins s σ H _ inv h) fun us s1 after => ?_) one rfl))
    obtain ⟨vs, H1, inv1, rel, a, xs, rfl, hq, q⟩ := after
    obtain ⟨u, rfl, ru⟩ := vals1 rel
    obtain rfl : u = Value.ref a := ru
    obtain ⟨its, _, tup, _⟩ := inv1.tuple hq
    have la : a < s1.heap.objs.size := by obtain ⟨oa, hoa, _⟩ := id tup; exact Heap.lt_size hoa
    refine enum_over tup fun g en k => ?_
    obtain ⟨⟨old, he⟩, _⟩ := id en
    refine wpAny_pyIter_enum he ?_
    refine ⟨s1.heap.objs.size + 1, [s1.heap.objs.size + 1, s1.heap.objs.size], EnumT a _ _, IteT X.K a, H1, rfl, inv1.kept (t' := s1.toks) k, turn_enumT (Nat.succ_ne_self _) (Nat.ne_of_lt la) (Nat.ne_of_lt (Nat.lt_succ_of_lt la)), en, fun b hb => ?_, q⟩
    have up : s1.heap.objs.size ≤ b := by
      rcases List.mem_cons.mp hb with z | z
      · exact z ▸ Nat.le_succ _
      · exact Nat.le_of_eq (List.mem_singleton.mp z).symm
    exact inv1.fpOk up (inv1.hok.fresh up)
theorem walk_enumT {K : PySem.W.Frag} {a : Addr} {xs : List V} : Walk (IteT K a) xs.length (fun H => SqT K H a xs) (YPair (fun i => some (.int (i : Nat))) (fun i => xs[i]?)) where
  goes i H hi q := ⟨xs, xs[i], q, List.getElem?_eq_getElem hi⟩
  stops H q := ⟨xs, q, rfl⟩
  yields i H v H' _ q y := let ⟨T, x, h1, h2, h3, h4⟩ := y; ⟨T, .int (i : Nat), x, h1, h2, h3, rfl, h4 xs q⟩

/-! ### zip(text, tuple) -/
def IzST (K : PySem.W.Frag) (z : Str) (b : Addr) : It where
  go i H := ∃ (ys : List V) (y : V), SqT K H b ys ∧ i < z.cps.size ∧ ys[i]? = some y
  yld i H v H' := ∃ T c y, v = .ref T ∧ H T = none ∧ H' = upd H T (.tup [.str ⟨#[c]⟩, y]) ∧ z.cps[i]? = some c ∧ ∀ ys, SqT K H b ys → ys[i]? = some y
  stop i H := ∃ ys : List V, SqT K H b ys ∧ i = min z.cps.size ys.length
/-- the five cells of a zip over the text x and the tuple at b, i pairs taken -/
def ZipST (x : Str) (t : Tok) (b z TI TO i1 i2 : Addr) (i : Nat) (h : Heap) : Prop := IsZip h z TI TO .none ∧ IsTupOf2 h TI (.ref i1) (.ref i2) ∧ (∃ a1 a2, IsTupOf2 h TO a1 a2) ∧ h.IsStrIter i1 (strIterType x) x t i ∧ h.IsTupleIter i2 b i
theorem turn_zipST {P : Program} {w : World} {K : PySem.W.Frag} {elts : List Expr} {kk : Nat} {tpos : Pos} {b z TI TO i1 i2 : Addr} {x : Str} {t : Tok} (S : ZipSep2 z TI TO i1 i2 [i1] [i2, b]) (hb : b ≠ i2) :
    Turn P w K (.Tuple elts kk tpos) (IzST K x b) [z, TO, i1, i2, TI] z (ZipST x t b z TI TO i1 i2) := by
  have W : ∀ (A : Around), A.handled = none → ∀ items : Array Value, _ := fun A hh items =>
    WalksT.zipD2 (prog := P) (w := w) (A := A) S (Draws.text (A := A.in1) hh i1 x t) (Draws.tuple (A := A.in1) hh i2 b hb items)
  have sub : ∀ c ∈ [z, TO, i1, i2], c ∈ [z, TO, i1, i2, TI] := fun c hc => List.mem_append_left [TI] hc
  have down : ∀ {items : Array Value} (j : Nat) (g : Heap), (IsZip g z TI TO .none ∧ IsTupOf2 g TI (.ref i1) (.ref i2) ∧ (∃ a1 a2, IsTupOf2 g TO a1 a2) ∧ g.IsStrIter i1 (strIterType x) x t j ∧ g.IsTupleIter i2 b j ∧ g.IsTuple b items) → ZipST x t b z TI TO i1 i2 j g := fun j g st => ⟨st.1, st.2.1, st.2.2.1, st.2.2.2.1, st.2.2.2.2.1⟩
  refine turn_pairs (List.mem_cons_self ..) (fun i h st c hc => ?_) (fun i g g' st k => ?_) (fun A i s Q E st q => wpAny_pyIter_zip st.1 q) (fun X pins s σ H i eP ew eK hh inv st go => ?_) (fun X pins s σ H i eP ew eK hh inv st stop => ?_)
  · obtain ⟨s1, s2, ⟨u1, u2, s3⟩, ⟨o1, p1, _, d1⟩, ⟨o2, p2, _, d2⟩⟩ := st
    simp only [List.mem_cons, List.not_mem_nil, or_false] at hc
    rcases hc with rfl | rfl | rfl | rfl | rfl
    · exact ⟨_, s1, fun v q => nomatch q⟩
    · exact ⟨_, s3, fun v q => nomatch q⟩
    · exact ⟨o1, p1, fun v q => by rw [d1] at q; cases q⟩
    · exact ⟨o2, p2, fun v q => by rw [d2] at q; cases q⟩
    · exact ⟨_, s2, fun v q => nomatch q⟩
  · obtain ⟨s1, s2, ⟨u1, u2, s3⟩, ⟨o1, p1, r1⟩, s5⟩ := st
    have kk : ∀ c, c ∈ [z, TO, i1, i2, TI] → ∀ o, g.get? c = some o → g'.get? c = some o := k
    simp only [List.mem_cons, List.not_mem_nil, or_false, forall_eq_or_imp, forall_eq] at kk
    obtain ⟨k1, k2, k3, k4, k5⟩ := kk
    exact ⟨k1 _ s1, k5 _ s2, ⟨u1, u2, k2 _ s3⟩, ⟨o1, k3 _ p1, r1⟩, s5.at fun o q => k4 o q⟩
  · obtain ⟨ys, y, hq, hx, hy⟩ := go
    subst eK
    obtain ⟨its, rv, tup, _⟩ := inv.tuple hq
    obtain ⟨u, hu, ru⟩ := rv.get hy
    have hu' : its.toArray[i]? = some u := by simpa using hu
    have hin : i < its.toArray.size := (Array.getElem?_eq_some_iff.mp hu').1
    have hc : x.cps[i]? = some x.cps[i] := Array.getElem?_eq_getElem hx
    refine ⟨.str ⟨#[x.cps[i]]⟩, y, ⟨_, _, _, _, _, _, W X.A hh its.toArray, sub, ⟨st.1, st.2.1, st.2.2.1, st.2.2.2.1, st.2.2.2.2, tup⟩, fun j g q => down j g q, fun _ => ⟨by omega, fun vals hP => ?_⟩, fun f => absurd trivial f⟩, fun T hT => ⟨T, x.cps[i], y, rfl, hT, rfl, hc, fun l hl => by rw [inv.tuple_inj hl hq]; exact hy⟩⟩
    obtain ⟨x1, x2, ⟨c, tc, e1, rfl⟩, e2, rfl⟩ := hP
    rw [hc] at e1
    have e2 : its.toArray[i]? = some x2 := e2
    rw [hu'] at e2
    refine ⟨_, x2, rfl, ⟨tc, by rw [Option.some.inj e1]⟩, by rw [← Option.some.inj e2]; exact ru⟩
  · obtain ⟨ys, hq, hi⟩ := stop
    subst eK
    obtain ⟨its, rv, tup, _⟩ := inv.tuple hq
    have hl := rv.length
    exact ⟨_, _, _, _, _, _, W X.A hh its.toArray, sub, ⟨st.1, st.2.1, st.2.2.1, st.2.2.2.1, st.2.2.2.2, tup⟩, fun j g q => down j g q, fun f => f.elim, fun _ => (show i = min x.cps.size its.toArray.size from by
      have e : its.toArray.size = ys.length := by simpa using hl.symm
      rw [e]
      exact hi)⟩
def iZipST (K : PySem.W.Frag) (ta : TA) : TI := fun σ H R => ta σ H fun vs H1 => ∃ z b ys, vs = [.str z, .ref b] ∧ SqT K H1 b ys ∧ R (IzST K z b) H1
theorem pi_zipST {X : Cx} {e e2 : Expr} {ta : TA} {p pos tpos : Pos} {elts : List Expr} {kk : Nat} (hg : Gl X "zip") (hm : X.mg "zip" = none) (ha : PA X [e, e2] ta)
    (s1 : starEach [e, e2] X.env = (false, eval e X.env) :: starEach [e2] X.env := by rfl) (s2 : (backTo pos (starEach [e2] X.env)).any (·.1) = false := by rfl) : PI X (.Tuple elts kk tpos) (.Call (.Name "zip" p) [e, e2] [] pos) (iZipST X.K ta) where
  run pins s σ H R inv h := by
    refine Call_ (ld_blt inv hg hm PyProof.Rows.boot_zip (PyProof.Rows.callWith_type1 (thn (ha.run pos pins s σ H _ inv h) fun us s1 after => ?_) s1 s2))
    obtain ⟨vs, H1, inv1, rel, z, b, ys, rfl, hq, q⟩ := after
    obtain ⟨n, hn⟩ : ∃ n, n = s1.heap.objs.size := ⟨_, rfl⟩
    match us, rel with
    | [_, _], .cons r1 (.cons r2 .nil) =>
      obtain ⟨t, rfl⟩ := r1
      cases r2
      obtain ⟨its, _, tup, _⟩ := inv1.tuple hq
      have lb : b < s1.heap.objs.size := by obtain ⟨ob, hob, _⟩ := id tup; exact Heap.lt_size hob
      refine zip_begins2 (begins_text z t) (begins_tuple b its.toArray) trivial tup fun g c1 c2 c3 c4 c5 _ k => wpAny_pyIter_zip c1 ?_
      have S : ZipSep2 (s1.heap.objs.size + 4) (s1.heap.objs.size + 2) (s1.heap.objs.size + 3) s1.heap.objs.size (s1.heap.objs.size + 1) [s1.heap.objs.size] [s1.heap.objs.size + 1, b] :=
        zip_sep2 (fp1 := []) (fp2 := [b]) (fun c hc => by cases hc) (fun c hc => by rw [List.mem_singleton.mp hc]; exact lb)
      refine ⟨_, [s1.heap.objs.size + 4, s1.heap.objs.size + 3, s1.heap.objs.size, s1.heap.objs.size + 1, s1.heap.objs.size + 2], ZipST z t b _ _ _ _ _, IzST X.K z b, H1, rfl, inv1.kept (t' := s1.toks) k, turn_zipST S (Nat.ne_of_lt (Nat.lt_succ_of_lt lb)), ⟨c1, c2, ⟨_, _, c3⟩, ⟨_, c4, rfl, rfl⟩, ⟨_, c5, rfl, rfl⟩⟩, fun c hc => ?_, q⟩
      have up : s1.heap.objs.size ≤ c := by
        simp only [List.mem_cons, List.not_mem_nil, or_false] at hc
        rcases hc with rfl | rfl | rfl | rfl | rfl <;> first | exact Nat.le_refl _ | exact Nat.le_add_right _ _
      exact inv1.fpOk up (inv1.hok.fresh up)
theorem walk_zipST {K : PySem.W.Frag} {z : Str} {b : Addr} {ys : List V} (hl : z.cps.size = ys.length) : Walk (IzST K z b) ys.length (fun H => SqT K H b ys) (YPair (fun i => (z.cps[i]?).map fun c => V.str ⟨#[c]⟩) (fun i => ys[i]?)) where
  goes i H hi q := ⟨ys, ys[i], q, by omega, List.getElem?_eq_getElem hi⟩
  stops H q := ⟨ys, q, by omega⟩
  yields i H v H' _ q y := let ⟨T, c, y, h1, h2, h3, h4, h5⟩ := y; ⟨T, .str ⟨#[c]⟩, y, h1, h2, h3, by show Option.map _ z.cps[i]? = _; rw [h4]; rfl, h5 ys q⟩
end MyR

set_option Elab.async false
set_option linter.all false
set_option maxRecDepth 100000
set_option maxHeartbeats 1000000
namespace My
open PySem L2 MyR
def top (i : Nat) : Stmt := PySem.Challenge.pw_lowsure_k54_code_without_rows.main.body.getD i (.Pass ⟨0, 0, 0, 0⟩)
/-- what the module's names hold -/
structure Glob (mg : Str → Option Value) : Prop where
  g_len : mg "len" = none
  g_max : mg "max" = none
  g_list : mg "list" = none
  g_tuple : mg "tuple" = none
  g_reversed : mg "reversed" = none
  g_range : mg "range" = none
  g_int : mg "int" = none
  g_str : mg "str" = none
  g_bool : mg "bool" = none
  g_isinstance : mg "isinstance" = none
  g_all : mg "all" = none
  g_enumerate : mg "enumerate" = none
  g_zip : mg "zip" = none
/-! ### the source of draws -/
def dKV (s n : Int) (l : Addr) : List (Key × V) := [(.inr "seed", .int s), (.inr "number", .int n), (.inr "left", .ref l)]
theorem k_sn : ¬ ((.inr "seed" : Key) = .inr "number") := fun h => absurd (Sum.inr.inj h) (by decide +kernel)
theorem k_sl : ¬ ((.inr "seed" : Key) = .inr "left") := fun h => absurd (Sum.inr.inj h) (by decide +kernel)
theorem k_nl : ¬ ((.inr "number" : Key) = .inr "left") := fun h => absurd (Sum.inr.inj h) (by decide +kernel)
theorem d_seed {s n : Int} {l : Addr} : valV (dKV s n l) (.inr "seed") = some (.int s) := valV_pos rfl
theorem d_number {s n : Int} {l : Addr} : valV (dKV s n l) (.inr "number") = some (.int n) := by
  unfold dKV; rw [valV_neg k_sn, valV_pos rfl]
theorem d_left {s n : Int} {l : Addr} : valV (dKV s n l) (.inr "left") = some (.ref l) := by
  unfold dKV; rw [valV_neg k_sl, valV_neg k_nl, valV_pos rfl]
theorem d_put_seed {s n z : Int} {l : Addr} : putK (dKV s n l) (.inr "seed") (.int z) = dKV z n l := by
  unfold putK
  rw [valV_any, d_seed]
  rw [if_pos (show (some (V.int s)).isSome = true from rfl)]
  unfold dKV
  simp only [List.map_cons, List.map_nil, if_true, if_neg (Ne.symm k_sn), if_neg (Ne.symm k_sl)]
theorem d_put_number {s n z : Int} {l : Addr} : putK (dKV s n l) (.inr "number") (.int z) = dKV s z l := by
  unfold putK
  rw [valV_any, d_number]
  rw [if_pos (show (some (V.int n)).isSome = true from rfl)]
  unfold dKV
  simp only [List.map_cons, List.map_nil, if_true, if_neg k_sn, if_neg (Ne.symm k_nl)]
theorem d_merge {s n : Int} {l : Addr} : mergeK [] (dKV s n l) = dKV s n l := by
  unfold mergeK dKV
  simp only [List.foldl_cons, List.foldl_nil]
  have e1 : putK ([] : List (Key × V)) (.inr "seed") (.int s) = [(.inr "seed", .int s)] := putK_new _ valV_nil
  have e2 : putK ([(.inr "seed", .int s)] : List (Key × V)) (.inr "number") (.int n) = [(.inr "seed", .int s), (.inr "number", .int n)] := putK_new _ (by rw [valV_neg k_sn]; rfl)
  have e3 : putK ([(.inr "seed", .int s), (.inr "number", .int n)] : List (Key × V)) (.inr "left") (.ref l) = [(.inr "seed", .int s), (.inr "number", .int n), (.inr "left", .ref l)] := putK_new _ (by rw [valV_neg k_sl, valV_neg k_nl]; rfl)
  rw [e1, e2, e3]
theorem g_seed {H : Hp} {d l : Addr} {s n : Int} (h : H d = some (.dK (dKV s n l))) : DGet H d (.str "seed") (some (.int s)) := by
  have q := DGet.k (k := .inr "seed") h
  rw [d_seed] at q
  exact q
theorem g_number {H : Hp} {d l : Addr} {s n : Int} (h : H d = some (.dK (dKV s n l))) : DGet H d (.str "number") (some (.int n)) := by
  have q := DGet.k (k := .inr "number") h
  rw [d_number] at q
  exact q
theorem g_left {H : Hp} {d l : Addr} {s n : Int} (h : H d = some (.dK (dKV s n l))) : DGet H d (.str "left") (some (.ref l)) := by
  have q := DGet.k (k := .inr "left") h
  rw [d_left] at q
  exact q
theorem p_seed {H : Hp} {d l : Addr} {s n z : Int} (h : H d = some (.dK (dKV s n l))) : DPut H d (.str "seed") (.int z) (upd H d (.dK (dKV z n l))) := by
  have q := DPut.k (k := .inr "seed") (v := .int z) h (by show 3 < sizeLine; decide)
  rw [d_put_seed] at q
  exact q
theorem p_number {H : Hp} {d l : Addr} {s n z : Int} (h : H d = some (.dK (dKV s n l))) : DPut H d (.str "number") (.int z) (upd H d (.dK (dKV s z l))) := by
  have q := DPut.k (k := .inr "number") (v := .int z) h (by show 3 < sizeLine; decide)
  rw [d_put_number] at q
  exact q
/-- what holds between a statement and the rest -/
theorem seq_by {t u : TS} {D : Ends} {σ : St} {H : Hp} (Pv : St → Hp → Prop) (h1 : ∀ D' : Ends, (∀ σ H, Pv σ H → D'.nx σ H) → t D' σ H) (h2 : ∀ σ H, Pv σ H → u D σ H) : tSeq t u D σ H := h1 { D with nx := u D } h2
structure Deal (H : Hp) (d l : Addr) : Prop where
  ex : ∃ (s n : Int) (ns : List Int), H d = some (.dK (dKV s n l)) ∧ H l = some (.lst (ns.map V.int)) ∧ 0 ≤ s ∧ s < 2147483648
/-- what stood but at d and l stands as it was -/
def Kept (d l : Addr) (H H' : Hp) : Prop := ∀ b o, H b = some o → b ≠ d → b ≠ l → H' b = some o
theorem Kept.refl {d l : Addr} {H : Hp} : Kept d l H H := fun _ _ e _ _ => e
theorem Kept.trans {d l : Addr} {H H1 H2 : Hp} (a : Kept d l H H1) (b : Kept d l H1 H2) : Kept d l H H2 := fun c o e h1 h2 => b c o (a c o e h1 h2) h1 h2
theorem Kept.d {d l : Addr} {H H1 : Hp} {o : HO} (a : Kept d l H H1) : Kept d l H (upd H1 d o) := fun c o e h1 h2 => by rw [upd_ne h1]; exact a c o e h1 h2
theorem Kept.l {d l : Addr} {H H1 : Hp} {o : HO} (a : Kept d l H H1) : Kept d l H (upd H1 l o) := fun c o e h1 h2 => by rw [upd_ne h2]; exact a c o e h1 h2
def spDraw : Sp := fun vs H Q _ => ∃ (d l : Addr) (m : Int), vs = [.ref d, .int m] ∧ Deal H d l ∧ 0 < m ∧ m.natAbs < 2 ^ 65 ∧
  ∀ (r : Int) (H' : Hp), 0 ≤ r → r < m → Deal H' d l → Kept d l H H' → Q (.int r) H'
section
variable {P : Program} {w : World} {K : PySem.W.Frag} {mg : Str → Option Value} {base : Heap}
abbrev s_law_draw : Stmt := top 25
abbrev N_law_draw : List Str := ["_law_deal_here", "_law_many", "_law_number_here", "_law_one", "_law_other"]
theorem sc_law_draw : FnScope N_law_draw ["_law_deal_here", "_law_many"] (defScope s_law_draw) := ⟨rfl, rfl, rfl, by decide +kernel, rfl, by decide +kernel, by decide +kernel⟩
theorem ok_law_draw {f : Addr} {fd : FuncData} (F : Fun K "_law_draw" "_law_draw" s_law_draw f fd) (T : Glob mg) : FnOk P w K mg base CX0 1 f fd ["_law_deal_here", "_law_many"] spDraw := by
  refine F.ok sc_law_draw (fun vs H Q E h => ?_) (fun cdv A outer s H vs Q E hr h => ?_)
  · obtain ⟨d, l, m, rfl, _⟩ := h
    rfl
  · obtain ⟨d, l, m, rfl, D, hm, hb, k⟩ := h
    have hu := hu_of hr
    have nd := sc_law_draw.nd
    refine ⟨_, (pss_cons (ps_while PassesOwn.never (PW.pt (pw_and (pt_cmpR op_eq (pe_dget hu (pv 0) pe_str (fun _ _ => rfl)) pe_int (nomark _)) (pw_and1 (pt_cmpR op_gt (pe_callB call_len_seq (by rfl) T.g_len PySem.boot_len (pa_cons (pe_dget hu (pv 0) pe_str (fun _ _ => rfl)) pa_nil)) pe_int (nomark _)))))
      (pss_one (ps_dput hu (pv 0) pe_str (pe_bm0 PySem.F.plainAttrs_list PySem.F.slot_list_pop PySem.F.type_list_pop mt_pop (pe_dget hu (pv 0) pe_str (fun _ _ => rfl))) rfl)))
    (pss_cons (ps_set (i := 2) nd rfl (Or.inl rfl) (pe_dget hu (pv 0) pe_str (fun _ _ => rfl)))
    (pss_cons (ps_if (pt_cmpR op_gt (pv 2) pe_int (nomark _))
    (pss_cons (ps_dput hu (pv 0) pe_str (pe_op op_fdivW (pv 2) (pv 1)) rfl)
    (pss_one (ps_ret (pe_op op_mod (pv 2) (pv 1)))))
    pss_nil)
    (pss_cons (ps_set (i := 3) nd rfl (Or.inl rfl) (pe_op op_mod (pe_op op_add (pe_op op_mul (pe_dget hu (pv 0) pe_str (fun _ _ => rfl)) pe_int) pe_int) pe_int))
    (pss_cons (ps_dput hu (pv 0) pe_str (pe_op op_mod (pe_op op_add (pe_op op_mul (pv 3) pe_int) pe_int) pe_int) rfl)
    (pss_cons (ps_set (i := 4) nd rfl (Or.inl rfl) (pe_op op_mod (pe_op op_mul (pe_dget hu (pv 0) pe_str (fun _ _ => rfl)) (pe_dget hu (pv 0) pe_str (fun _ _ => rfl))) pe_int))
    (pss_one (ps_ret (pe_op op_mod (pe_op op_add (pe_op op_mul (pe_op op_mod (pe_op op_mul (pv 3) (pv 3)) pe_int) pe_int) (pv 4)) (pv 1)))))))))), ?_⟩
    refine seq_by (fun σ H1 => σ = [some (.ref d), some (.int m), none, none, none] ∧ Deal H1 d l ∧ Kept d l H H1) (fun D' hD' => ?_) ?_
    · refine while_by (fun σ H1 => σ = [some (.ref d), some (.int m), none, none, none] ∧ Deal H1 d l ∧ Kept d l H H1)
        (fun _ H1 => match H1 l with | some (.lst xs) => xs.length | _ => 0) ⟨rfl, D, Kept.refl⟩ ?_ ?_
      · rintro σ H1 ⟨rfl, D1, kp⟩
        obtain ⟨s0, n, ns, hd, hl, hs0, hs1⟩ := id D1
        have ndl : d ≠ l := ne_of hd hl (by intro z; cases z)
        refine ⟨_, rfl, d, _, rfl, g_number hd, rfl, _, rfl, ?_⟩
        refine ite2 (fun hz => ?_) (fun hz => ?_)
        · refine ⟨_, rfl, d, _, rfl, g_left hd, l, _, rfl, .inl (SqL.of hl), _, _, rfl, rfl, _, rfl, ?_⟩
          refine ite2 (fun hz2 => ?_) (fun hz2 => ?_)
          · have hp : 0 < ns.length := by
              have := of_decide_eq_true hz2
              rw [List.length_map] at this
              omega
            have hg : (ns.map V.int)[(ns.map V.int).length - 1]? = some (.int (ns[ns.length - 1])) := by
              rw [List.length_map, List.getElem?_map, List.getElem?_eq_getElem (by omega)]
              rfl
            refine ⟨_, rfl, d, _, rfl, g_left hd, .inl ⟨rfl, _, SqL.of hl⟩, l, _, _, rfl, rfl, hl, hg, _, rfl, d, _, rfl, p_number (by rw [upd_ne ndl]; exact hd), ?_⟩
            have e2 : (ns.map V.int).dropLast = ns.dropLast.map V.int := by rw [List.map_dropLast]
            refine ⟨⟨rfl, ⟨⟨s0, _, ns.dropLast, upd_same, by rw [upd_ne ndl.symm, upd_same, e2], hs0, hs1⟩⟩, kp.l.d⟩, ?_⟩
            rw [upd_ne ndl.symm, upd_same, hl]
            show (ns.map V.int).dropLast.length < (ns.map V.int).length
            rw [List.length_dropLast, List.length_map]
            omega
          · exact hD' _ _ ⟨rfl, D1, kp⟩
        · refine iteF ?_
          exact hD' _ _ ⟨rfl, D1, kp⟩
      · intro σ H1 Q1 Q2 hq hc
        obtain ⟨x, e1, a, v, e2, hg, sc, b1, eb, hc⟩ := hc
        refine ⟨x, e1, a, v, e2, hg, sc, b1, eb, ?_⟩
        revert hc
        cases b1 with
        | false => exact fun hc => hq _ _ hc
        | true =>
          intro hc
          obtain ⟨x2, e3, a2, v2, e4, hg2, p, ys, e5, sq, i1, j1, e6, e7, k1, e8, hc⟩ := hc
          exact ⟨x2, e3, a2, v2, e4, hg2, p, ys, e5, sq, i1, j1, e6, e7, k1, e8, hq _ _ hc⟩
    · rintro σ H1 ⟨rfl, D1, kp⟩
      obtain ⟨s0, n, ns, hd, hl, hs0, hs1⟩ := id D1
      have ndl : d ≠ l := ne_of hd hl (by intro z; cases z)
      refine ⟨_, rfl, d, _, rfl, g_number hd, _, rfl, _, _, rfl, rfl, _, rfl, ?_⟩
      refine ite2 (fun hz => ?_) (fun hz => ?_)
      · have h63 : 0 < m := hm
        refine ⟨_, rfl, _, rfl, _, _, rfl, rfl, wide_div hm hb (by decide) (by decide), _, rfl, d, _, rfl, p_number hd, ?_⟩
        refine ⟨_, rfl, _, rfl, _, _, rfl, rfl, hm, ?_⟩
        exact k _ _ (Int.emod_nonneg _ (by omega)) (Int.emod_lt_of_pos _ hm) ⟨⟨s0, _, ns, upd_same, by rw [upd_ne ndl.symm]; exact hl, hs0, hs1⟩⟩ kp.d
      · -- the seed turns
        have r1 : ∀ (x y : Int), 0 < y → 0 ≤ x % y ∧ x % y < y := fun x y hy => ⟨Int.emod_nonneg _ (by omega), Int.emod_lt_of_pos _ hy⟩
        have ha1 := r1 (s0 * 48271 + 7919) 2147483647 (by decide)
        have hb1 := r1 ((s0 * 48271 + 7919) % 2147483647 * 40692 + 104729) 2147483399 (by decide)
        have q := r1 ((s0 * 48271 + 7919) % 2147483647 * ((s0 * 48271 + 7919) % 2147483647)) 2147483629 (by decide)
        refine ⟨_, rfl, d, _, rfl, g_seed hd, _, _, rfl, rfl, .inl ⟨by omega, by omega⟩, _, _, rfl, rfl, _, _, rfl, rfl, (by show (0 : Int) < 2147483647; decide), ?_⟩
        refine ⟨_, rfl, _, _, rfl, rfl, .inl ⟨by omega, by omega⟩, _, _, rfl, rfl, _, _, rfl, rfl, (by show (0 : Int) < 2147483399; decide), ?_⟩
        refine ⟨_, rfl, d, _, rfl, p_seed hd, ?_⟩
        refine ⟨_, rfl, d, _, rfl, g_seed upd_same, _, rfl, d, _, rfl, g_seed upd_same, _, _, rfl, rfl, .inl ⟨by omega, by omega⟩, _, _, rfl, rfl, (by show (0 : Int) < 2147483563; decide), ?_⟩
        refine ⟨_, rfl, _, rfl, _, _, rfl, rfl, .inl ⟨by omega, by omega⟩, _, _, rfl, rfl, (by show (0 : Int) < 2147483629; decide), _, _, rfl, rfl, .inl ⟨by omega, by omega⟩, _, rfl, _, _, rfl, rfl, _, rfl, _, _, rfl, rfl, hm, ?_⟩
        exact k _ _ (Int.emod_nonneg _ (by omega)) (Int.emod_lt_of_pos _ hm) ⟨⟨_, n, ns, upd_same, by rw [upd_ne ndl.symm]; exact hl, hb1.1, by omega⟩⟩ kp.d
end
end My

set_option Elab.async false
set_option linter.all false
set_option maxRecDepth 100000
set_option maxHeartbeats 1000000
namespace My
open PySem L2 MyR
/-- a new source of draws from the script -/
def spDeal (K : PySem.W.Frag) : Sp := fun vs H Q _ => ∃ (a : Addr) (ns : List Int), vs = [.ref a, .int 0] ∧ SqL K H a (ns.map V.int) ∧ ns.length ≤ 63 ∧
  ∀ (d l : Addr) (H' : Hp), H d = none → H l = none → Same H H' → Deal H' d l → Q (.ref d) H'
theorem cut_ints (ns : List Int) (lo hi : Option Int) : ∃ ms : List Int, cutV (ns.map V.int) lo hi = ms.map V.int ∧ ms.length ≤ ns.length := by
  unfold cutV
  rw [← List.map_drop, ← List.map_take]
  refine ⟨_, rfl, ?_⟩
  rw [List.length_take, List.length_drop]
  omega
theorem get_int {ms : List Int} {i : Nat} {x : V} (h : (ms.map V.int)[i]? = some x) : ∃ z, x = V.int z ∧ i < ms.length := by
  rw [List.getElem?_map] at h
  cases e : ms[i]? with
  | none => rw [e] at h; cases h
  | some z =>
    rw [e] at h
    exact ⟨z, (Option.some.inj h).symm, (List.getElem?_eq_some_iff.mp e).1⟩
theorem small63 {n : Nat} (h : n ≤ 63) : n < sizeLine := small1000 (by omega)
section
variable {P : Program} {w : World} {K : PySem.W.Frag} {mg : Str → Option Value} {base : Heap}
abbrev s_law_deal : Stmt := top 24
abbrev N_law_deal : List Str := ["_law_script", "_law_base", "_law_cells", "_law_cell", "_law_number_here"]
theorem sc_law_deal : FnScope N_law_deal ["_law_script", "_law_base"] (defScope s_law_deal) := ⟨rfl, rfl, rfl, by decide +kernel, rfl, by decide +kernel, by decide +kernel⟩
theorem ok_law_deal {f : Addr} {fd : FuncData} (F : Fun K "_law_deal" "_law_deal" s_law_deal f fd) (T : Glob mg) : FnOk P w K mg base CX0 1 f fd ["_law_script", "_law_base"] (spDeal K) := by
  refine F.ok sc_law_deal (fun vs H Q E h => ?_) (fun cdv A outer s H vs Q E hr h => ?_)
  · obtain ⟨a, ns, rfl, _⟩ := h
    rfl
  · obtain ⟨a, ns, rfl, hS, hlen, k⟩ := h
    have hu := hu_of hr
    have nd := sc_law_deal.nd
    refine ⟨_, (pss_cons (ps_setLc (i := 2) (own := [("_law_cell", 3)]) (g := gName 3) (tt := tYes) rfl nd rfl rfl (sw_true rfl rfl rfl (by decide +kernel)) (pi_list (pe_slice sl_list (pv 0) (po_some (pv 1)) (po_some pe_int))) (blkOk_by (N := N_law_deal) (sc := defScope s_law_deal) (by decide +kernel)) (fun _ _ _ _ _ => pg_name (i := 3) nd rfl (Or.inl rfl)) (fun _ _ _ _ _ => pts_nil) (fun _ _ _ _ _ => (pe_callB (call_max2 rfl) (by rfl) T.g_max (by decide +kernel) (pa_cons (pv 3) (pa_cons (pe_op op_sub pe_int (pv 3)) pa_nil)))))
    (pss_cons (ps_set (i := 4) nd rfl (Or.inl rfl) (pe_op op_add pe_int (pv 1)))
    (pss_cons (ps_for PassesOwn.never rfl (pi_list (pv 2)) (pg_name (i := 3) nd rfl (Or.inl rfl))
    (pss_one (ps_set (i := 4) nd rfl (Or.inl rfl) (pe_op op_mod (pe_op op_add (pe_op op_mul (pv 4) pe_int) (pe_op op_mod (pv 3) pe_int)) pe_int))))
    (pss_one (ps_ret (pe_disp (pps_cons pe_str (pv 4) (pps_cons pe_str pe_int (pps_cons pe_str (pe_lstRev rfl (by rfl) T.g_list (by rfl) T.g_reversed (pe_lc (own := [("_law_cell", 3)]) (g := gName 3) rfl nd (pi_list (pv 2)) (blkOk_by (N := N_law_deal) (sc := defScope s_law_deal) (by decide +kernel)) (fun _ _ _ _ _ => pg_name (i := 3) nd rfl (Or.inl rfl)) (fun _ _ _ _ _ => pts_one (pt_cmpR op_ge (pv 3) (pe_op op_pow pe_int pe_int) (nomark _))) (fun _ _ _ _ _ => (pv 3)))) pps_nil))) (by rfl) (by rfl) (fun z => by cases z) (by decide))))))), ?_⟩
    -- the cells
    refine ⟨_, rfl, _, rfl, _, rfl, _, rfl, a, _, rfl, hS, fun sl hsl => ?_⟩
    obtain ⟨ms, em, hml⟩ := cut_ints ns (some 0) (some 63)
    rw [em]
    refine ⟨sl, rfl, ⟨_, SqL.of upd_same⟩, fun D hD => ?_⟩
    have nDs : sl ≠ D := fun e => by rw [e, upd_same] at hD; cases hD
    have hD0 : H D = none := by rw [← upd_ne (H := H) (Ne.symm nDs)]; exact hD
    refine lc_list (K := K) (a := sl) (xs := ms.map V.int) (fun i H1 => Same H H1 ∧ H1 sl = some (.lst (ms.map V.int)) ∧ ∃ acc : List Int, H1 D = some (.lst (acc.map V.int)) ∧ acc.length = i)
      ⟨fun b o e => by rw [upd_ne (ne_of_none e hD0), upd_ne (ne_of_none e hsl)]; exact e, by rw [upd_ne nDs, upd_same], [], upd_same, rfl⟩ (fun i H1 _ ⟨_, h1, _⟩ => SqL.of h1) ?_ ?_
    · rintro i x H1 hx ⟨sm, h1, acc, h2, hl⟩
      obtain ⟨z, rfl, hi⟩ := get_int hx
      refine ⟨rfl, ?_⟩
      refine ⟨_, rfl, _, rfl, _, _, rfl, rfl, ?_⟩
      refine ⟨_, _, rfl, ?_⟩
      refine ⟨acc.map V.int, h2, by rw [List.length_map]; exact small63 (by omega), fun b o e => ?_, ?_, ?_⟩
      · rw [upd_ne (ne_of_none e hD0)]; exact sm b o e
      · rw [upd_ne nDs]; exact h1
      · refine ⟨acc ++ [if 0 - z > z then 0 - z else z], ?_, by rw [List.length_append, hl]; rfl⟩
        rw [upd_same, List.map_append]
        rfl
    · rintro H1 ⟨sm, h1, cs, h2, hl⟩
      rw [List.length_map] at hl
      refine ⟨_, rfl, _, _, rfl, rfl, ?_⟩
      refine ⟨_, rfl, D, rfl, ⟨_, SqL.of h2⟩, ?_⟩
      refine for_list (K := K) (a := D) (xs := cs.map V.int) (fun i σ H2 => ∃ (v : Option V) (t : Int), σ = [some (.ref a), some (.int 0), some (.ref D), v, some (.int t)] ∧ 0 ≤ t ∧ t < 2147483648 ∧ H2 = H1)
        ⟨none, 6143, rfl, by decide, by decide, rfl⟩ (fun i σ H2 _ ⟨_, _, _, _, _, e⟩ => by rw [e]; exact SqL.of h2) ?_ ?_
      · rintro i x σ H2 hx ⟨v, t, rfl, t0, t1, rfl⟩
        obtain ⟨z, rfl, hi⟩ := get_int hx
        refine ⟨_, rfl, _, _, rfl, rfl, .inl ⟨by omega, by omega⟩, _, rfl, _, _, rfl, rfl, (by show (0 : Int) < 2147483629; decide), _, _, rfl, rfl, _, _, rfl, rfl, (by show (0 : Int) < 2147483647; decide), ?_⟩
        refine ⟨_, _, rfl, Int.emod_nonneg _ (by decide), ?_, rfl⟩
        have := Int.emod_lt_of_pos (t * 69621 + z % 2147483629) (show (0 : Int) < 2147483647 by decide)
        omega
      · rintro σ H2 ⟨v, t, rfl, t0, t1, rfl⟩
        -- the dict
        intro d hd
        have nDd : D ≠ d := ne_of_none h2 hd
        refine ⟨_, rfl, ?_⟩
        refine ⟨_, rfl, D, rfl, ⟨_, SqL.of (by rw [upd_ne nDd]; exact h2)⟩, fun L hL => ?_⟩
        have nLd : d ≠ L := fun e => by rw [e, upd_same] at hL; cases hL
        have hL0 : H2 L = none := by rw [← upd_ne (H := H2) (Ne.symm nLd)]; exact hL
        have nDL : D ≠ L := ne_of_none h2 hL0
        refine lc_list (K := K) (a := D) (xs := cs.map V.int) (fun i H3 => Same H2 H3 ∧ H3 d = some (.dK []) ∧ ∃ acc : List Int, H3 L = some (.lst (acc.map V.int)) ∧ acc.length ≤ i)
          ⟨fun b o e => by rw [upd_ne (ne_of_none e hL0), upd_ne (ne_of_none e hd)]; exact e, by rw [upd_ne nLd, upd_same], [], upd_same, Nat.le_refl _⟩ (fun i H3 _ ⟨sm3, _, _⟩ => SqL.of (sm3 _ _ h2)) ?_ ?_
        · rintro i x H3 hx ⟨sm3, hd3, acc, h3, hl3⟩
          obtain ⟨z, rfl, hi⟩ := get_int hx
          refine ⟨rfl, ?_⟩
          refine ⟨_, rfl, _, _, rfl, rfl, ⟨by decide, by decide, by decide⟩, _, _, rfl, rfl, _, rfl, ?_⟩
          have go : ∀ (zs : List Int), zs.length ≤ i + 1 → ∀ H4, H4 = upd H3 L (.lst (zs.map V.int)) → Same H2 H4 ∧ H4 d = some (.dK []) ∧ ∃ acc : List Int, H4 L = some (.lst (acc.map V.int)) ∧ acc.length ≤ i + 1 := fun zs hz H4 e4 => by
            subst e4
            refine ⟨fun b o e => ?_, by rw [upd_ne nLd]; exact hd3, zs, upd_same, hz⟩
            rw [upd_ne (ne_of_none e hL0)]
            exact sm3 b o e
          refine ite2 (fun _ => ?_) (fun _ => ?_)
          · refine ⟨_, rfl, acc.map V.int, h3, by rw [List.length_map]; exact small63 (by omega), ?_⟩
            refine go (acc ++ [z]) (by rw [List.length_append]; exact Nat.succ_le_succ hl3) _ ?_
            rw [List.map_append]
            rfl
          · exact ⟨sm3, hd3, acc, h3, Nat.le_succ_of_le hl3⟩
        · rintro H3 ⟨sm3, hd3, acc, h3, hl3⟩
          refine ⟨L, _, rfl, SqL.of h3, fun R hR => ?_⟩
          have nRd : d ≠ R := ne_of_none hd3 hR
          refine ⟨by rw [upd_ne nRd]; exact hd3, dKV t 0 R, rfl, (by show 3 ≤ 15; decide), ?_⟩
          rw [d_merge]
          have hR2 : H2 R = none := sm3.free hR
          refine k d R _ (sm.free hd) (sm.free hR2) (fun b o e => ?_) ⟨⟨t, 0, acc.reverse, upd_same, ?_, t0, t1⟩⟩
          · have e2 := sm b o e
            rw [upd_ne (ne_of_none e2 hd), upd_ne (ne_of_none e2 hR2)]
            exact sm3 b o e2
          · rw [upd_ne (Ne.symm nRd), upd_same, List.map_reverse]
end
end My

set_option Elab.async false
set_option linter.all false
set_option maxRecDepth 100000
set_option maxHeartbeats 1000000
namespace MyN
open PySem PySem.Spec PyProof.Rows PySem.SeqAt
open Builtin
section
variable {M : Model} {prog : Program} {w : World} {A : Around} {E : Value → Shared → Prop} {s : Shared} {K : PySem.W.Frag} {x y C D f L : Addr} {ox : Obj} {od : Option Obj} {tb : Value} {h₀ : Heap} {m : Str → Option Value}
theorem ifBound_objNe {args : List Value} {Q : Option Value → Shared → Prop} (X : K.In s.heap) (I : PySem.W.InstAt s.heap x ox C od) (hs : PySem.W.findIn K (.ref C) "__ne__" = some (some (.builtin "object.__ne__")))
    (h : wpAny M A (call (.builtin "object.__ne__") (.ref x :: args)) (fun v => Q (some v)) E s) : wpAny M A (callSpecialIfBound? (.ref x) "__ne__" args) Q E s := by
  simp only [callSpecialIfBound?, bindSpecialIfBound?]
  refine wpAny_holding (wpAny_bind (wpAny_bind (wpAny_bind (I.type.here ((PySem.W.looks_findIn X hs).here ?_)))))
  refine wpAny_bind (wpAny_askSetting (wpAny_ite ?_))
  have fin : wpAny M A (call (.builtin "object.__ne__") ([.ref x] ++ args) >>= fun v => pure (some v)) Q E s := wpAny_bind (wpAny_mono h (fun v s' h' => wpAny_pure h') fun _ _ h' => h')
  split
  · exact wpAny_bind (wpAny_of_eq (F.cmp_object.ne.bind _) (wpAny_pure (by exact fin)))
  · exact wpAny_tryCatch (wpAny_bind (wpAny_of_eq (F.cmp_object.ne.bind _) (wpAny_pure (by exact fin))))
theorem objNe_entry {Q : Fin → Shared → Prop} (hu : A.units < cLine) (X : K.In s.heap) (I : PySem.W.InstAt s.heap x ox C od) (hs : PySem.W.findIn K (.ref C) "__eq__" = some (some (.ref f))) (hf : PySem.W.isFn K (.ref f) = true)
    (hcall : wpAny (model prog w) A (call (.ref f) [.ref x, .ref y]) (fun v s' => ∃ b, v = .bool b ∧ Q (.done (.ret (.bool (!b)))) s') E s) :
    wpAny (model prog w) A (Builtin.«object.__ne__» ⟨[.ref x, .ref y], []⟩) Q E s := by
  obtain ⟨h, g, d, t, os⟩ := s
  unfold Builtin.«object.__ne__»
  repeat (first
    | with_reducible refine wpAny_cRoomFor hu ?_
    | (refine wpAny_bind (m := callSpecialIfBound? (.ref x) (Str.ofString "__eq__") [.ref y])
        (PySem.W.ifBound_K X I hs hf (wpAny_mono hcall (fun r s' hr => by
          obtain ⟨b, rfl, hq⟩ := hr
          repeat (first | exact hq | exact wpAny_pure hq | exact wpAny_truthy_bool hq | (refine wpAny_bind (m := truthy (.bool _)) (wpAny_truthy_bool ?_)) | wp_step)) fun _ _ e => e)))
    | wp_step)
theorem call_objNe {Q : Value → Shared → Prop} (hu : A.units + 1 < cLine) (X : K.In s.heap) (I : PySem.W.InstAt s.heap x ox C od) (hm : PySem.W.mroIn K C (.type "object") = some true) (hs : PySem.W.findIn K (.ref C) "__eq__" = some (some (.ref f))) (hf : PySem.W.isFn K (.ref f) = true)
    (hcall : wpAny (model prog w) A.in1 (call (.ref f) [.ref x, .ref y]) (fun v s' => ∃ b, v = .bool b ∧ Q (.bool (!b)) s') E s) :
    wpAny (model prog w) A (call (.builtin "object.__ne__") [.ref x, .ref y]) Q E s :=
  wpAny_call (codeAny_call_builtin F.cmp_object.ne.plain F.cmpEntry_ne (PySem.W.check_slot F.cmpKind_ne F.cmpSplit_ne (I.type.andThen (PySem.W.looks_mroIn X hm)) (F.cmpArgs_ne _ _)
    (objNe_entry (A := A.in1) hu X I hs hf hcall)))
theorem ne_K {Q : Value → Shared → Prop} (hu : A.units + 1 < cLine) (X : K.In s.heap) (I : PySem.W.InstAt s.heap x ox C od) (hb : PySem.W.Looks (model prog w) s.heap (typeOf (.ref y)) tb) (hn : PySem.W.notFirst K C tb = true)
    (hne : PySem.W.findIn K (.ref C) "__ne__" = some (some (.builtin "object.__ne__"))) (hm : PySem.W.mroIn K C (.type "object") = some true) (hs : PySem.W.findIn K (.ref C) "__eq__" = some (some (.ref f))) (hf : PySem.W.isFn K (.ref f) = true)
    (hcall : wpAny (model prog w) A.in1 (call (.ref f) [.ref x, .ref y]) (fun v s' => ∃ b, v = .bool b ∧ Q (.bool (!b)) s') E s) :
    wpAny (model prog w) A (richCompare .NotEq (.ref x) (.ref y)) Q E s := by
  have one : wpAny (model prog w) A (tryCompare (.ref x) (cmpInfo .NotEq).2.1 (.ref y)) (fun r s' => ∃ v, r = some v ∧ Q v s') E s := by
    unfold tryCompare
    refine wpAny_bind (ifBound_objNe X I hne (call_objNe hu X I hm hs hf (wpAny_mono hcall (fun v s' hv => ?_) fun _ _ e => e)))
    obtain ⟨b, rfl, hq⟩ := hv
    exact ⟨b, rfl, wpAny_pure ⟨_, rfl, hq⟩⟩
  unfold richCompare
  simp only [oneThing_ref]
  refine wpAny_holding (wpAny_bind (wpAny_cRoomFor (Nat.lt_of_succ_lt hu) ?_))
  refine wpAny_bind (I.type.here (wpAny_bind (hb.here ?_)))
  split
  · rename_i q
    have e : PySem.W.subIn K tb (.ref C) = some false := by
      rcases Bool.or_eq_true_iff.mp hn with e | e
      · rw [beq_iff_eq.mp e] at q; simp at q
      · exact beq_iff_eq.mp e
    refine wpAny_bind ((PySem.W.looks_subIn X e).here ?_)
    simp only [Bool.false_eq_true, if_false]
    refine wpAny_bind (wpAny_mono one (fun r s' z => ?_) fun _ _ e => e)
    obtain ⟨v, rfl, hq⟩ := z
    exact wpAny_pure hq
  · refine wpAny_bind (wpAny_pure ?_)
    simp only [Bool.false_eq_true, if_false]
    refine wpAny_bind (wpAny_mono one (fun r s' z => ?_) fun _ _ e => e)
    obtain ⟨v, rfl, hq⟩ := z
    exact wpAny_pure hq
end
end MyN

set_option Elab.async false
set_option linter.all false
set_option maxRecDepth 100000
set_option maxHeartbeats 1000000
namespace MyR
open PySem PySem.Spec PyProof.Rows L2
/-- the class at C has its == at f, and no != of its own -/
structure EqC (K : PySem.W.Frag) (C f : Addr) : Prop where
  eq : PySem.W.findIn K (.ref C) "__eq__" = some (some (.ref f))
  ne : PySem.W.findIn K (.ref C) "__ne__" = some (some (.builtin "object.__ne__"))
  fn : PySem.W.isFn K (.ref f) = true
  mo : PySem.W.mroIn K C (.type "object") = some true
def rEqF (X : Cx) (neg : Bool) : R2 := fun x y H Q => ∃ (a b C dx dy : Addr) (fs gs : List (Str × V)) (f : Addr) (fd : FuncData) (ps : List Str) (sp : Sp) (k : Nat) (CX : CXT) (E : XK), x = .ref a ∧ y = .ref b ∧ H a = some (.ins C dx fs) ∧ H b = some (.ins C dy gs) ∧ EqC X.K C f ∧
  FnOk X.prog X.w X.K X.mg X.base CX k f fd ps sp ∧ Room (k + 1) X.A ∧ Binds X.K fd ps [] ∧ Passes CX X E ∧ sp [.ref a, .ref b] H (fun v H' => ∃ t : Bool, v = .bl t ∧ Q (.bl (if neg = true then !t else t)) H') E
section
variable {X : Cx}
theorem op_eqF : OpR X (compareOp .Eq) (rEqF X false) := by
  intro pins s σ H x y u v Q I rx ry h
  obtain ⟨a, b, C, dx, dy, fs, gs, f, fd, ps, sp, k, CX, E, rfl, rfl, ha, hb', c, F, hr, hb, hx, hsp⟩ := h
  cases rx
  cases ry
  obtain ⟨mA, J, _⟩ := ins_get I.hok ha
  obtain ⟨mB, J', _⟩ := ins_get I.hok hb'
  obtain ⟨od, J, _⟩ := J.look
  obtain ⟨od', J', _⟩ := J'.look
  obtain ⟨m, hF⟩ := I.fr
  show wpAny (model X.prog X.w) X.A (richCompare .Eq (.ref a) (.ref b)) (EP X pins σ Q) X.xe s
  refine PySem.W.cmp_K (op := .Eq) (tb := .ref C) hr.units0 hF I.ok.mod.kin J J'.type (by simp [PySem.W.notFirst]) c.eq c.fn ?_
  have e0 := I.env0
  have hl := F.len _ _ _ _ hsp
  have r2 : Vals [V.ref a, V.ref b] [Value.ref a, Value.ref b] := .cons rfl (.cons rfl .nil)
  refine wpAny_call (codeAny_mono (F.run X.A X.stack s H ⟨[.ref a, .ref b], []⟩ [.ref a, .ref b] [.ref a, .ref b] _ E (hr.mono (Nat.le_succ _)) e0 (by
    have := hb s [.ref a, .ref b] I.kIn (by simpa using hl)
    simpa using this) r2 hsp) fun r s' hq => ?_)
  cases r with
  | error e => exact hx pins σ H s e s' I hq
  | ok fl =>
    cases fl with
    | ret w =>
      obtain ⟨z, H', I', rz, t, ez, q⟩ := I.after hq
      subst ez
      cases rz
      exact ⟨.bl t, H', I', rfl, q⟩
    | next => exact False.elim hq
    | brk => exact False.elim hq
    | cont => exact False.elim hq
theorem op_neF : OpR X (compareOp .NotEq) (rEqF X true) := by
  intro pins s σ H x y u v Q I rx ry h
  obtain ⟨a, b, C, dx, dy, fs, gs, f, fd, ps, sp, k, CX, E, rfl, rfl, ha, hb', c, F, hr, hb, hx, hsp⟩ := h
  cases rx
  cases ry
  obtain ⟨mA, J, _⟩ := ins_get I.hok ha
  obtain ⟨mB, J', _⟩ := ins_get I.hok hb'
  obtain ⟨od, J, _⟩ := J.look
  obtain ⟨od', J', _⟩ := J'.look
  show wpAny (model X.prog X.w) X.A (richCompare .NotEq (.ref a) (.ref b)) (EP X pins σ Q) X.xe s
  refine MyN.ne_K (tb := .ref C) (hu_of hr) I.kIn J J'.type (by simp [PySem.W.notFirst]) c.ne c.mo c.eq c.fn ?_
  have e0 := I.env0
  have hl := F.len _ _ _ _ hsp
  have r2 : Vals [V.ref a, V.ref b] [Value.ref a, Value.ref b] := .cons rfl (.cons rfl .nil)
  refine wpAny_call (codeAny_mono (F.run X.A.in1 X.stack s H ⟨[.ref a, .ref b], []⟩ [.ref a, .ref b] [.ref a, .ref b] _ E hr.in1 e0.in1 (by
    have := hb s [.ref a, .ref b] I.kIn (by simpa using hl)
    simpa using this) r2 hsp) fun r s' hq => ?_)
  cases r with
  | error e => exact hx pins σ H s e s' I hq
  | ok fl =>
    cases fl with
    | ret w =>
      obtain ⟨z, H', I', rz, t, ez, q⟩ := I.after hq
      subst ez
      cases rz
      exact ⟨t, rfl, .bl (!t), H', I', rfl, q⟩
    | next => exact False.elim hq
    | brk => exact False.elim hq
    | cont => exact False.elim hq
end
end MyR

set_option Elab.async false
set_option linter.all false
set_option maxRecDepth 100000
set_option maxHeartbeats 1000000
namespace MyR
open PySem PySem.Spec PyProof.Rows L2
/-- len of an object whose class has its own -/
def rLenF (X : Cx) : List V → Hp → VK → Prop := fun xs H Q => ∃ (a C dx : Addr) (fs : List (Str × V)) (f : Addr) (fd : FuncData) (ps : List Str) (sp : Sp) (k : Nat) (CX : CXT) (E : XK), xs = [.ref a] ∧ H a = some (.ins C dx fs) ∧
  PySem.W.findIn X.K (.ref C) "__len__" = some (some (.ref f)) ∧ PySem.W.isFn X.K (.ref f) = true ∧ FnOk X.prog X.w X.K X.mg X.base CX k f fd ps sp ∧ Room (k + 1) X.A ∧ Binds X.K fd ps [] ∧ Passes CX X E ∧
  sp [.ref a] H (fun v H' => ∃ n : Int, v = .int n ∧ 0 ≤ n ∧ n < 9223372036854775808 ∧ Q (.int n) H') E
theorem call_lenF {X : Cx} : CallR X (.builtin "len") (rLenF X) := by
  intro pins s σ H xs us Q I r h
  obtain ⟨a, C, dx, fs, f, fd, ps, sp, k, CX, E, rfl, ha, hfi, hfn, F, hr, hb, hx, hsp⟩ := h
  obtain ⟨u, rfl, ru⟩ := vals1 r
  obtain rfl : u = Value.ref a := ru
  obtain ⟨mA, J, _⟩ := ins_get I.hok ha
  obtain ⟨od, J, _⟩ := J.look
  obtain ⟨m, hF⟩ := I.fr
  refine PySem.W.len_K hF I.ok.mod.kin J hfi hfn ?_
  have e0 := I.env0
  have hl := F.len _ _ _ _ hsp
  have r2 : Vals [V.ref a] [Value.ref a] := .cons rfl .nil
  refine wpAny_call (codeAny_mono (F.run X.A.in1 X.stack s H ⟨[.ref a], []⟩ [.ref a] [.ref a] _ E hr.in1 e0.in1 (by
    have := hb s [.ref a] I.kIn (by simpa using hl)
    simpa using this) r2 hsp) fun r s' hq => ?_)
  cases r with
  | error e => exact hx pins σ H s e s' I hq
  | ok fl =>
    cases fl with
    | ret w =>
      obtain ⟨z, H', I', rz, n, ez, n0, n1, q⟩ := I.after hq
      subst ez
      obtain ⟨t, rfl⟩ := rz
      exact ⟨⟨n0, by omega⟩, ⟨.int n, H', I'.tok _, ⟨_, rfl⟩, q⟩⟩
    | next => exact False.elim hq
    | brk => exact False.elim hq
    | cont => exact False.elim hq
end MyR

set_option Elab.async false
set_option linter.all false
set_option maxRecDepth 100000
set_option maxHeartbeats 1000000
namespace My
open PySem L2 MyR
structure Df (P : Program) (w : World) (K : PySem.W.Frag) (mg : Str → Option Value) (base : Heap) (k : Nat) (x : Str) (ps : List Str) (sp : Sp) where
  f : Addr
  fd : FuncData
  ok : FnOk P w K mg base CX0 k f fd ps sp
  g : mg x = some (.ref f)
  kp : PySem.W.keepIn K (.ref f) = true
  b : Binds K fd ps []
theorem Deal.new {H : Hp} {d l p : Addr} {o : HO} (D : Deal H d l) (h : H p = none) : Deal (upd H p o) d l := by
  obtain ⟨s, n, ns, hd, hl, r⟩ := D.ex
  exact ⟨⟨s, n, ns, by rw [upd_ne (ne_of_none hd h)]; exact hd, by rw [upd_ne (ne_of_none hl h)]; exact hl, r⟩⟩
theorem Deal.other {H : Hp} {d l p : Addr} {o : HO} (D : Deal H d l) (h1 : p ≠ d) (h2 : p ≠ l) : Deal (upd H p o) d l := by
  obtain ⟨s, n, ns, hd, hl, r⟩ := D.ex
  exact ⟨⟨s, n, ns, by rw [upd_ne (Ne.symm h1)]; exact hd, by rw [upd_ne (Ne.symm h2)]; exact hl, r⟩⟩
theorem Deal.free {H : Hp} {d l p : Addr} (D : Deal H d l) (h : H p = none) : p ≠ d ∧ p ≠ l := by
  obtain ⟨s, n, ns, hd, hl, r⟩ := D.ex
  exact ⟨Ne.symm (ne_of_none hd h), Ne.symm (ne_of_none hl h)⟩
theorem Deal.same {H H' : Hp} {d l : Addr} (D : Deal H d l) (s : Same H H') : Deal H' d l := by
  obtain ⟨z, n, ns, hd, hl, r⟩ := D.ex
  exact ⟨z, n, ns, s _ _ hd, s _ _ hl, r⟩
theorem Deal.nt {H : Hp} {d l p : Addr} {xs : List V} (D : Deal H d l) (h : H p = some (.tup xs)) : p ≠ d ∧ p ≠ l := by
  obtain ⟨z, n, ns, hd, hl, r⟩ := D.ex
  exact ⟨ne_of h hd (by intro z; cases z), ne_of h hl (by intro z; cases z)⟩
theorem Deal.ni {H : Hp} {d l p C dx : Addr} {fs : List (Str × V)} (D : Deal H d l) (h : H p = some (.ins C dx fs)) : p ≠ d ∧ p ≠ l := by
  obtain ⟨z, n, ns, hd, hl, r⟩ := D.ex
  exact ⟨ne_of h hd (by intro z; cases z), ne_of h hl (by intro z; cases z)⟩
theorem Kept.new {d l p : Addr} {H H1 : Hp} {o : HO} (a : Kept d l H H1) (h : H p = none) : Kept d l H (upd H1 p o) := fun c u e h1 h2 => by rw [upd_ne (ne_of_none e h)]; exact a c u e h1 h2
theorem Kept.of {d l : Addr} {H H' : Hp} (s : Same H H') : Kept d l H H' := fun b o e _ _ => s b o e
theorem Kept.free {d l p : Addr} {H H1 : Hp} (k : Kept d l H H1) (D : Deal H1 d l) (h : H1 p = none) : H p = none := by
  obtain ⟨n1, n2⟩ := D.free h
  cases e : H p with
  | none => rfl
  | some o => rw [k p o e n1 n2] at h; cases h
theorem new_same {H : Hp} {p : Addr} {o : HO} (h : H p = none) : Same H (upd H p o) := fun b q e => by rw [upd_ne (ne_of_none e h)]; exact e
theorem Same.tr {H H1 H2 : Hp} (a : Same H H1) (b : Same H1 H2) : Same H H2 := fun c o e => b c o (a c o e)
theorem same_free {H H1 : Hp} {p : Addr} (s : Same H H1) (h : H1 p = none) : H p = none := by
  cases e : H p with
  | none => rfl
  | some o => rw [s p o e] at h; cases h

/-! ### rows of code -/
structure Rw where
  w : Str
  xs : List Int
def Rw.vs (r : Rw) : List V := .str r.w :: r.xs.map V.int
def forms : List (Str × Str) := [("set", "WI"), ("copy", "WR"), ("add", "WRR"), ("sub", "WRR"), ("mul", "WRR"), ("left", "WR"), ("right", "WR"), ("load", "WS"), ("store", "SR"), ("skip", "RMCN")]
def mods : List Int := [1, 2, 4, 8, 16, 32, 64]
/-- a number that may stand behind a letter -/
def itOk (c : Nat) (z : Int) : Prop :=
  (c = 73 ∧ -18446744073709551616 < z ∧ z < 18446744073709551616) ∨ ((c = 87 ∨ c = 82) ∧ 0 ≤ z ∧ z ≤ 7) ∨ (c = 83 ∧ 0 ≤ z ∧ z ≤ 999) ∨ (c = 77 ∧ z ∈ mods) ∨ ((c = 67 ∨ c = 78) ∧ 0 ≤ z ∧ z ≤ 1000)
/-- a row that may stand -/
def Rw.ok (r : Rw) : Prop := (∃ f, (r.w, f) ∈ forms ∧ r.xs.length = f.cps.size ∧ ∀ (i c : Nat) (z : Int), f.cps[i]? = some c → r.xs[i]? = some z → itOk c z) ∧
  (r.w = ("skip" : Str) → ∃ a m c n : Int, r.xs = [a, m, c, n] ∧ c < m)
/-- it skips no rows that are not there: left rows stand behind it -/
def Rw.fits (r : Rw) (left : Int) : Prop := r.w = ("skip" : Str) → ∃ a m c n : Int, r.xs = [a, m, c, n] ∧ n ≤ left
def RowAt (H : Hp) (r : Rw) (p : Addr) : Prop := H p = some (.tup r.vs)
theorem RowAt.same {H H' : Hp} {r : Rw} {p : Addr} (h : RowAt H r p) (s : Same H H') : RowAt H' r p := s _ _ h
theorem RowAt.kept {H H' : Hp} {r : Rw} {p d l : Addr} (h : RowAt H r p) (D : Deal H d l) (k : Kept d l H H') : RowAt H' r p := k _ _ h (D.nt h).1 (D.nt h).2
/-- the tables of the program -/
structure Tabs (w : World) (K : PySem.W.Frag) (mg : Str → Option Value) : Prop where
  limit : ∃ t, mg "LIMIT" = some (.int 18446744073709551616 t)
  rows : ∃ t, mg "MOST_ROWS" = some (.int 1000 t)
  regs : ∃ t, mg "MOST_REGISTERS" = some (.int 8 t)
  slots : ∃ t, mg "SLOTS" = some (.int 1000 t)
  moduli : ∃ a, mg "MODULI" = some (.ref a) ∧ ∀ H, SqT K H a (mods.map V.int)
  forms : ∃ a, mg "FORMS" = some (.ref a) ∧ (∃ es n, KDict K w a es n) ∧ ∀ x f, (x, f) ∈ forms → KDct K w a x (.str f)
def sg (c : Nat) : Str := ⟨#[c]⟩
theorem sg_inj {a b : Nat} : sg a = sg b ↔ a = b := by
  constructor
  · intro h
    have h1 : (sg a).cps = (sg b).cps := congrArg Str.cps h
    have h2 : (#[a] : Array Nat) = #[b] := h1
    simpa using h2
  · intro h; rw [h]
theorem sg_eq (c b : Nat) (x : Str) (hx : x = sg b) : decide (V.str (sg c) = V.str x) = decide (c = b) := by
  subst hx
  refine decide_eq_decide.mpr ⟨fun h => ?_, fun h => by rw [h]⟩
  exact sg_inj.mp (V.str.inj h)
theorem sg_I : ("I" : Str) = sg 73 := by decide +kernel
theorem sg_S : ("S" : Str) = sg 83 := by decide +kernel
theorem sg_M : ("M" : Str) = sg 77 := by decide +kernel
theorem wr_cps : ("WR" : Str).cps.toList = [87, 82] := by decide +kernel

def spInt : Sp := fun vs H Q _ => ∃ i : Int, vs = [.int i] ∧ Q (.bl true) H
def spBtw : Sp := fun vs H Q _ => ∃ i lo hi : Int, vs = [.int i, .int lo, .int hi] ∧ lo ≤ i ∧ i ≤ hi ∧ Q (.bl true) H
def spSmall : Sp := fun vs H Q _ => ∃ i : Int, vs = [.int i] ∧ -18446744073709551616 < i ∧ i < 18446744073709551616 ∧ Q (.bl true) H
def spItem : Sp := fun vs H Q _ => ∃ (c : Nat) (z : Int), vs = [.str (sg c), .int z] ∧ itOk c z ∧ Q (.bl true) H
def spRow : Sp := fun vs H Q _ => ∃ (p : Addr) (r : Rw), vs = [.ref p] ∧ RowAt H r p ∧ r.ok ∧ ∀ H', Same H H' → Q (.bl true) H'
/-- a row as it stands when one row is gone -/
def Rw.short (r : Rw) (at_ gone : Int) : Rw := match r.xs with
  | [a, m, c, n] => if r.w = ("skip" : Str) ∧ at_ < gone ∧ gone ≤ at_ + n then ⟨r.w, [a, m, c, n - 1]⟩ else r
  | _ => r
def spShort : Sp := fun vs H Q _ => ∃ (p : Addr) (r : Rw) (i g : Int), vs = [.ref p, .int i, .int g] ∧ RowAt H r p ∧ r.ok ∧ ∀ (q : Addr) H', Same H H' → RowAt H' (r.short i g) q → Q (.ref q) H'
section
variable {P : Program} {w : World} {K : PySem.W.Frag} {mg : Str → Option Value} {base : Heap}
abbrev s_is_integer : Stmt := top 7
abbrev N_is_integer : List Str := ["value"]
theorem sc_is_integer : FnScope N_is_integer ["value"] (defScope s_is_integer) := ⟨rfl, rfl, rfl, by decide +kernel, rfl, by decide +kernel, by decide +kernel⟩
theorem ok_is_integer {f : Addr} {fd : FuncData} (F : Fun K "is_integer" "is_integer" s_is_integer f fd) (T : Glob mg) : FnOk P w K mg base CX0 1 f fd ["value"] spInt := by
  refine F.ok sc_is_integer (fun vs H Q E h => ?_) (fun cdv A outer s H vs Q E hr h => ?_)
  · obtain ⟨i, rfl, _⟩ := h
    rfl
  · obtain ⟨i, rfl, k⟩ := h
    refine ⟨_, (pss_one (ps_ret (pe_and (pe_callB call_isi (by rfl) T.g_isinstance (by decide +kernel) (pa_cons (pv 0) (pa_cons (pe_bltn (v := .ty "int") (by rfl) T.g_int (by decide +kernel) rfl) pa_nil))) (pe_one (pe_not (pe_callB call_isi (by rfl) T.g_isinstance (by decide +kernel) (pa_cons (pv 0) (pa_cons (pe_bltn (v := .ty "bool") (by rfl) T.g_bool (by decide +kernel) rfl) pa_nil)))))))), ?_⟩
    refine ⟨_, rfl, _, _, _, _, true, rfl, .ty "int", .base (.int i), kit_ty (a := "int") (b := "int") (r := true) (by decide +kernel), _, rfl, ?_⟩
    exact ⟨_, rfl, _, _, _, _, false, rfl, .ty "bool", .base (.int i), kit_ty (a := "int") (b := "bool") (r := false) (by decide +kernel), _, rfl, k⟩
abbrev s_is_between : Stmt := top 8
abbrev N_is_between : List Str := ["value", "least", "most"]
theorem sc_is_between : FnScope N_is_between ["value", "least", "most"] (defScope s_is_between) := ⟨rfl, rfl, rfl, by decide +kernel, rfl, by decide +kernel, by decide +kernel⟩
theorem ok_is_between {f : Addr} {fd : FuncData} (F : Fun K "is_between" "is_between" s_is_between f fd) (D_is_integer : Df P w K mg base 1 "is_integer" ["value"] spInt) : FnOk P w K mg base CX0 2 f fd ["value", "least", "most"] spBtw := by
  refine F.ok sc_is_between (fun vs H Q E h => ?_) (fun cdv A outer s H vs Q E hr h => ?_)
  · obtain ⟨v, lo, hi, rfl, _⟩ := h
    rfl
  · obtain ⟨i, lo, hi, rfl, h1, h2, k⟩ := h
    refine ⟨_, (pss_one (ps_ret (pe_and (pe_call D_is_integer.ok (hr.mono (by decide)) (by rfl) D_is_integer.g D_is_integer.kp D_is_integer.b .nil pass0 (pa_cons (pv 0) pa_nil)) (pe_one (pe_chain op_le op_le (pv 1) (pv 0) (pv 2)))))), ?_⟩
    refine ⟨_, rfl, i, rfl, _, rfl, ?_⟩
    refine ⟨_, rfl, _, rfl, _, _, rfl, rfl, _, rfl, ?_⟩
    rw [decide_eq_true h1]
    refine ⟨_, rfl, _, _, rfl, rfl, ?_⟩
    show Q (.bl (decide (i ≤ hi))) H
    rw [decide_eq_true h2]
    exact k
abbrev s_is_small : Stmt := top 9
abbrev N_is_small : List Str := ["value"]
theorem sc_is_small : FnScope N_is_small ["value"] (defScope s_is_small) := ⟨rfl, rfl, rfl, by decide +kernel, rfl, by decide +kernel, by decide +kernel⟩
theorem ok_is_small {f : Addr} {fd : FuncData} (F : Fun K "is_small" "is_small" s_is_small f fd) (T2 : Tabs w K mg) (D_is_integer : Df P w K mg base 1 "is_integer" ["value"] spInt) : FnOk P w K mg base CX0 2 f fd ["value"] spSmall := by
  obtain ⟨tL, hL⟩ := T2.limit
  refine F.ok sc_is_small (fun vs H Q E h => ?_) (fun cdv A outer s H vs Q E hr h => ?_)
  · obtain ⟨v, rfl, _⟩ := h
    rfl
  · obtain ⟨i, rfl, h1, h2, k⟩ := h
    refine ⟨_, (pss_one (ps_ret (pe_and (pe_call D_is_integer.ok (hr.mono (by decide)) (by rfl) D_is_integer.g D_is_integer.kp D_is_integer.b .nil pass0 (pa_cons (pv 0) pa_nil)) (pe_one (pe_chain op_lt op_lt (pe_un un_neg (pe_glob (v := .int 18446744073709551616) rfl hL ⟨_, rfl⟩)) (pv 0) (pe_glob (v := .int 18446744073709551616) rfl hL ⟨_, rfl⟩)))))), ?_⟩
    refine ⟨_, rfl, i, rfl, _, rfl, ?_⟩
    refine ⟨_, rfl, _, rfl, _, _, rfl, rfl, _, rfl, ?_⟩
    rw [decide_eq_true (show -18446744073709551616 < i by omega)]
    refine ⟨_, _, rfl, rfl, ?_⟩
    show Q (.bl (decide (i < 18446744073709551616))) H
    rw [decide_eq_true h2]
    exact k
abbrev s_is_item : Stmt := top 18
abbrev N_is_item : List Str := ["letter", "value"]
theorem sc_is_item : FnScope N_is_item ["letter", "value"] (defScope s_is_item) := ⟨rfl, rfl, rfl, by decide +kernel, rfl, by decide +kernel, by decide +kernel⟩
theorem in_mods {z : Int} (h : z ∈ mods) : inV (.int z) (mods.map V.int) = true := by
  unfold inV
  rw [List.any_map]
  exact List.any_eq_true.mpr ⟨z, h, by show (z == z) = true; exact beq_self_eq_true z⟩
theorem mods_bound : ∀ z ∈ mods, (1 : Int) ≤ z ∧ z ≤ 64 := by decide
theorem mods_flat : (mods.map V.int).all flatV = true := by decide
theorem ok_is_item {f : Addr} {fd : FuncData} (F : Fun K "is_item" "is_item" s_is_item f fd) (T2 : Tabs w K mg) (D_is_between : Df P w K mg base 2 "is_between" ["value", "least", "most"] spBtw) (D_is_small : Df P w K mg base 2 "is_small" ["value"] spSmall) : FnOk P w K mg base CX0 3 f fd ["letter", "value"] spItem := by
  obtain ⟨tR, hMR⟩ := T2.rows
  obtain ⟨tG, hMG⟩ := T2.regs
  obtain ⟨tS, hSL⟩ := T2.slots
  obtain ⟨aM, hM, hMs⟩ := T2.moduli
  refine F.ok sc_is_item (fun vs H Q E h => ?_) (fun cdv A outer s H vs Q E hr h => ?_)
  · obtain ⟨c, z, rfl, _⟩ := h
    rfl
  · obtain ⟨c, z, rfl, hok, k⟩ := h
    refine ⟨_, (pss_cons (ps_if (pt_cmpR op_eq (pv 0) pe_str (nomark _))
    (pss_one (ps_ret (pe_call D_is_small.ok (hr.mono (by decide)) (by rfl) D_is_small.g D_is_small.kp D_is_small.b .nil pass0 (pa_cons (pv 1) pa_nil))))
    pss_nil)
    (pss_cons (ps_if (pt_cmpR op_in_sign (pv 0) pe_str (by rfl))
    (pss_one (ps_ret (pe_call D_is_between.ok (hr.mono (by decide)) (by rfl) D_is_between.g D_is_between.kp D_is_between.b .nil pass0 (pa_cons (pv 1) (pa_cons pe_int (pa_cons (pe_op op_sub (pe_glob (v := .int 8) rfl hMG ⟨_, rfl⟩) pe_int) pa_nil))))))
    pss_nil)
    (pss_cons (ps_if (pt_cmpR op_eq (pv 0) pe_str (nomark _))
    (pss_one (ps_ret (pe_call D_is_between.ok (hr.mono (by decide)) (by rfl) D_is_between.g D_is_between.kp D_is_between.b .nil pass0 (pa_cons (pv 1) (pa_cons pe_int (pa_cons (pe_op op_sub (pe_glob (v := .int 1000) rfl hSL ⟨_, rfl⟩) pe_int) pa_nil))))))
    pss_nil)
    (pss_cons (ps_if (pt_cmpR op_eq (pv 0) pe_str (nomark _))
    (pss_one (ps_ret (pe_and (pe_call D_is_between.ok (hr.mono (by decide)) (by rfl) D_is_between.g D_is_between.kp D_is_between.b .nil pass0 (pa_cons (pv 1) (pa_cons pe_int (pa_cons (pe_ix ix_tup (pe_glob (v := .ref aM) rfl hM rfl) (pe_un un_neg pe_int) (fun _ _ => rfl)) pa_nil)))) (pe_one (pe_cmpR op_in_seq (pv 1) (pe_glob (v := .ref aM) rfl hM rfl) (by rfl))))))
    pss_nil)
    (pss_one (ps_ret (pe_call D_is_between.ok (hr.mono (by decide)) (by rfl) D_is_between.g D_is_between.kp D_is_between.b .nil pass0 (pa_cons (pv 1) (pa_cons pe_int (pa_cons (pe_glob (v := .int 1000) rfl hMR ⟨_, rfl⟩) pa_nil)))))))))), ?_⟩
    refine ⟨_, rfl, rfl, _, rfl, ?_⟩
    rw [sg_eq c 73 _ sg_I]
    refine ite2 (fun h1 => ?_) (fun h1 => ?_)
    · have h1 := of_decide_eq_true h1
      subst h1
      refine ⟨_, rfl, z, rfl, ?_, ?_, k⟩ <;> (unfold itOk at hok; omega)
    have h1 : ¬ c = 73 := fun e => h1 (decide_eq_true e)
    refine ⟨_, rfl, c, _, rfl, rfl, _, rfl, ?_⟩
    rw [wr_cps]
    refine ite2 (fun h2 => ?_) (fun h2 => ?_)
    · have h2 := of_decide_eq_true h2
      have h2 : c = 87 ∨ c = 82 := by simpa using h2
      refine ⟨_, rfl, _, _, rfl, rfl, z, 0, 7, rfl, ?_, ?_, k⟩ <;> (unfold itOk at hok; omega)
    have h2 : ¬ (c = 87 ∨ c = 82) := fun e => h2 (decide_eq_true (by simpa using e))
    refine ⟨_, rfl, rfl, _, rfl, ?_⟩
    rw [sg_eq c 83 _ sg_S]
    refine ite2 (fun h3 => ?_) (fun h3 => ?_)
    · have h3 := of_decide_eq_true h3
      refine ⟨_, rfl, _, _, rfl, rfl, z, 0, 999, rfl, ?_, ?_, k⟩ <;> (unfold itOk at hok; omega)
    have h3 : ¬ c = 83 := fun e => h3 (decide_eq_true e)
    refine ⟨_, rfl, rfl, _, rfl, ?_⟩
    rw [sg_eq c 77 _ sg_M]
    refine ite2 (fun h4 => ?_) (fun h4 => ?_)
    · have h4 := of_decide_eq_true h4
      have hz : z ∈ mods := by
        rcases hok with h | h | h | h | h
        · omega
        · omega
        · omega
        · exact h.2
        · omega
      have hb := mods_bound z hz
      refine ⟨_, rfl, _, rfl, aM, _, _, .int 64, rfl, rfl, hMs _, by rfl, z, 1, 64, rfl, hb.1, hb.2, _, rfl, ?_⟩
      refine ⟨_, rfl, aM, _, rfl, .inr (hMs _), rfl, mods_flat, ?_⟩
      rw [in_mods hz]
      exact k
    have h4 : ¬ c = 77 := fun e => h4 (decide_eq_true e)
    refine ⟨_, rfl, z, 0, 1000, rfl, ?_, ?_, k⟩ <;> (unfold itOk at hok; omega)
end
end My

set_option Elab.async false
set_option linter.all false
set_option maxRecDepth 100000
set_option maxHeartbeats 1000000
namespace My
open PySem L2 MyR
theorem cut_tail (x : V) (ys : List V) : cutV (x :: ys) (some 1) none = ys := by
  unfold cutV
  have e1 : HT.sIx (x :: ys).length 0 (some 1) = 1 := by
    show (if (1 : Int) < 0 then ((1 : Int) + ((x :: ys).length : Int)).toNat else min (1 : Int).toNat (x :: ys).length) = 1
    rw [if_neg (by decide), List.length_cons]
    show min 1 (ys.length + 1) = 1
    omega
  have e2 : HT.sIx (x :: ys).length (x :: ys).length none = (x :: ys).length := rfl
  rw [e1, e2, List.length_cons]
  show (ys.take (ys.length + 1 - 1)) = ys
  rw [Nat.add_sub_cancel, List.take_length]
theorem not_whole_tail (x : V) (ys : List V) : ¬ (HT.sIx (x :: ys).length 0 (some 1) = 0 ∧ HT.sIx (x :: ys).length (x :: ys).length none = (x :: ys).length) := by
  rintro ⟨h, _⟩
  have e1 : HT.sIx (x :: ys).length 0 (some 1) = 1 := by
    show (if (1 : Int) < 0 then ((1 : Int) + ((x :: ys).length : Int)).toNat else min (1 : Int).toNat (x :: ys).length) = 1
    rw [if_neg (by decide), List.length_cons]
    show min 1 (ys.length + 1) = 1
    omega
  omega
theorem all_true (n : Nat) : (List.replicate n true).all id = true := by
  rw [List.all_eq_true]
  intro b hb
  rw [List.eq_of_mem_replicate hb]
  rfl
theorem form_small : ∀ p ∈ forms, p.2.cps.size ≤ 4 := by decide +kernel
theorem vs_len (r : Rw) : r.vs.length = r.xs.length + 1 := by
  unfold Rw.vs
  rw [List.length_cons, List.length_map]
theorem Rw.ok.small {r : Rw} (h : r.ok) : r.xs.length ≤ 4 := by
  obtain ⟨⟨f, hf, hl, _⟩, _⟩ := h
  rw [hl]
  exact form_small _ hf
section
variable {P : Program} {w : World} {K : PySem.W.Frag} {mg : Str → Option Value} {base : Heap}
abbrev s_is_row : Stmt := top 19
abbrev N_is_row : List Str := ["row", "form", "letter", "value"]
theorem sc_is_row : FnScope N_is_row ["row"] (defScope s_is_row) := ⟨rfl, rfl, rfl, by decide +kernel, rfl, by decide +kernel, by decide +kernel⟩
theorem ok_is_row {f : Addr} {fd : FuncData} (F : Fun K "is_row" "is_row" s_is_row f fd) (T : Glob mg) (T2 : Tabs w K mg) (D_is_item : Df P w K mg base 3 "is_item" ["letter", "value"] spItem) : FnOk P w K mg base CX0 4 f fd ["row"] spRow := by
  obtain ⟨aF, hF, ⟨es, n0, DF⟩, hFs⟩ := T2.forms
  refine F.ok sc_is_row (fun vs H Q E h => ?_) (fun cdv A outer s H vs Q E hr h => ?_)
  · obtain ⟨p, r, rfl, _⟩ := h
    rfl
  · obtain ⟨p, r, rfl, hp, hok, k⟩ := h
    have hu := hu_of hr
    have nd := sc_is_row.nd
    refine ⟨_, (pss_cons (ps_if (PW.pt (pw_or (pt_not (pt_val (pe_callB call_isi (by rfl) T.g_isinstance (by decide +kernel) (pa_cons (pv 0) (pa_cons (pe_bltn (v := .ty "tuple") (by rfl) T.g_tuple (by decide +kernel) rfl) pa_nil))))) (pw_or (pt_cmpR op_eq (pe_callB call_len_seq (by rfl) T.g_len PySem.boot_len (pa_cons (pv 0) pa_nil)) pe_int (nomark _)) (pw_or (pt_not (pt_val (pe_callB call_isi (by rfl) T.g_isinstance (by decide +kernel) (pa_cons (pe_ix ix_tup (pv 0) pe_int (fun _ _ => rfl)) (pa_cons (pe_bltn (v := .ty "str") (by rfl) T.g_str (by decide +kernel) rfl) pa_nil))))) (pw_or1 (pt_cmpR (op_notIn_kd DF) (pe_ix ix_tup (pv 0) pe_int (fun _ _ => rfl)) (pe_glob (v := .ref aF) rfl hF rfl) (by rfl)))))))
    (pss_one (ps_ret pe_bl))
    pss_nil)
    (pss_cons (ps_set (i := 1) nd rfl (Or.inl rfl) (pe_ix ix_kdict (pe_glob (v := .ref aF) rfl hF rfl) (pe_ix ix_tup (pv 0) pe_int (fun _ _ => rfl)) (fun _ _ => rfl)))
    (pss_cons (ps_if (PW.pt (pw_or (pt_cmpR op_ne (pe_callB call_len_seq (by rfl) T.g_len PySem.boot_len (pa_cons (pv 0) pa_nil)) (pe_op op_add (pe_callB call_len_str (by rfl) T.g_len PySem.boot_len (pa_cons (pv 1) pa_nil)) pe_int) (nomark _)) (pw_or1 (pt_not (pt_val (pe_callB (cr_all rfl) (by rfl) T.g_all (by decide +kernel) (pa_cons (pe_lc (own := [("letter", 2), ("value", 3)]) (g := gTup K 2 (gCons (gName 2) (gCons (gName 3) gNil))) (tt := tYes) rfl nd (pi_zipST (by rfl) T.g_zip (pa_cons (pv 1) (pa_cons (pe_slice sl_tup (pv 0) (po_some pe_int) po_none) pa_nil))) (blkOk_by (N := N_is_row) (sc := defScope s_is_row) (by decide +kernel)) (fun _ _ _ _ _ => pg_tup (by rfl) (pgs_cons (pg_name (i := 2) nd rfl (Or.inl rfl)) (pgs_cons (pg_name (i := 3) nd rfl (Or.inl rfl)) pgs_nil))) (fun _ _ _ _ _ => pts_nil) (fun _ _ _ _ _ => (pe_call D_is_item.ok (hr.mono (by decide)) (by rfl) D_is_item.g D_is_item.kp D_is_item.b .nil pass0 (pa_cons (pv 2) (pa_cons (pv 3) pa_nil))))) pa_nil)))))))
    (pss_one (ps_ret pe_bl))
    pss_nil)
    (pss_one (ps_ret (pe_or (pe_cmpR op_ne (pe_ix ix_tup (pv 0) pe_int (fun _ _ => rfl)) pe_str (nomark _)) (pe_one (pe_cmpR op_lt (pe_ix ix_tup (pv 0) pe_int (fun _ _ => rfl)) (pe_ix ix_tup (pv 0) pe_int (fun _ _ => rfl)) (nomark _))))))))), ?_⟩
    obtain ⟨⟨fm, hfm, hlen, hit⟩, hskip⟩ := id hok
    obtain ⟨es', n', u, hl', _, hu', ru⟩ := hFs _ _ hfm
    have hsq : ∀ H', Same H H' → SqT K H' p r.vs := fun H' sm => SqT.of (sm _ _ hp)
    have sq0 := hsq H (Same.refl H)
    have h4 := hok.small
    have hvl := vs_len r
    -- the tests
    refine ⟨_, rfl, _, _, _, _, true, rfl, .ty "tuple", .base (.tup hp), kit_ty (a := "tuple") (b := "tuple") (r := true) (by decide +kernel), _, rfl, ?_⟩
    refine ⟨_, rfl, p, _, rfl, .inr sq0, rfl, _, rfl, ?_⟩
    refine ite2 (fun h0 => ?_) (fun _ => ?_)
    · have h0 := V.int.inj (of_decide_eq_true h0)
      omega
    refine ⟨_, rfl, p, _, _, .str r.w, rfl, rfl, sq0, atI_nat (j := 0) rfl, ?_⟩
    refine ⟨_, _, _, _, true, rfl, .ty "str", .base (.str r.w), kit_ty (a := "str") (b := "str") (r := true) (by decide +kernel), _, rfl, ?_⟩
    refine ⟨_, rfl, p, _, _, .str r.w, rfl, rfl, sq0, atI_nat (j := 0) rfl, ?_⟩
    refine ⟨r.w, some u, rfl, rfl, hu', _, rfl, ?_⟩
    -- the form
    refine ⟨_, rfl, p, _, _, .str r.w, rfl, rfl, sq0, atI_nat (j := 0) rfl, aF, r.w, .str fm, rfl, rfl, hFs _ _ hfm, ?_⟩
    have hfl : fm.length = fm.cps.size := rfl
    refine ⟨_, rfl, p, _, rfl, .inr sq0, _, rfl, fm, rfl, Nat.le_of_lt (small1000 (by rw [hfl, ← hlen]; omega)), _, _, rfl, rfl, rfl, _, rfl, ?_⟩
    refine iteNS (by rw [hfl, ← hlen, hvl]; simp) ?_
    -- the items
    refine ⟨_, rfl, _, rfl, _, rfl, p, _, rfl, sq0, not_whole_tail _ _, fun q hq => ?_⟩
    rw [show cutV r.vs (some 1) none = r.xs.map V.int from cut_tail _ _]
    refine ⟨fm, q, _, rfl, SqT.of upd_same, fun D hD => ?_⟩
    have hqH : H q = none := hq
    have hDq : q ≠ D := fun e => by rw [e, upd_same] at hD; cases hD
    have hDH : H D = none := by rw [← upd_ne (H := H) (Ne.symm hDq)]; exact hD
    refine lc_it (walk_zipST (by rw [List.length_map, hlen])) (fun i H1 => Same H H1 ∧ H1 q = some (.tup (r.xs.map V.int)) ∧ H1 D = some (.lst ((List.replicate i true).map V.bl))) ⟨fun b o e => by rw [upd_ne (ne_of_none e hDH), upd_ne (ne_of_none e hqH)]; exact e, by rw [upd_ne hDq, upd_same], upd_same⟩ (fun i H1 _ h1 => SqT.of h1.2.1) ?_ ?_
    · rintro i v H1 H2 hi ⟨sm, h1, h2⟩ ⟨Tt, x, y, rfl, hT, rfl, hx, hy⟩
      rw [List.length_map] at hi
      replace hx : (fm.cps[i]?).map (fun c => V.str ⟨#[c]⟩) = some x := hx
      replace hy : (r.xs.map V.int)[i]? = some y := hy
      obtain ⟨c, hc, rfl⟩ : ∃ c, fm.cps[i]? = some c ∧ x = V.str (sg c) := by
        cases e : fm.cps[i]? with
        | none => rw [e] at hx; cases hx
        | some c => rw [e] at hx; exact ⟨c, rfl, (Option.some.inj hx).symm⟩
      obtain ⟨z, hz, rfl⟩ : ∃ z, r.xs[i]? = some z ∧ y = V.int z := by
        rw [List.getElem?_map] at hy
        cases e : r.xs[i]? with
        | none => rw [e] at hy; cases hy
        | some z => rw [e] at hy; exact ⟨z, rfl, (Option.some.inj hy).symm⟩
      have nqT : q ≠ Tt := ne_of_none h1 hT
      have nDT : D ≠ Tt := ne_of_none h2 hT
      refine ⟨Tt, _, rfl, SqT.of upd_same, rfl, _, _, rfl, _, _, rfl, rfl, rfl, ?_⟩
      refine ⟨_, rfl, _, rfl, c, z, rfl, hit i c z hc hz, ?_⟩
      refine ⟨(List.replicate i true).map V.bl, by rw [upd_ne nDT]; exact h2, by rw [List.length_map, List.length_replicate]; exact small1000 (by omega), fun b o e => ?_, ?_, ?_⟩
      · rw [upd_ne (ne_of_none e hDH), upd_ne (ne_of_none (sm _ _ e) hT)]
        exact sm _ _ e
      · rw [upd_ne hDq, upd_ne nqT]
        exact h1
      · rw [upd_same, List.replicate_succ', List.map_append]
        rfl
    · rintro H1 ⟨sm, h1, h2⟩
      refine ⟨D, List.replicate _ true, rfl, SqL.of h2, ?_⟩
      rw [all_true]
      refine ⟨_, rfl, ?_⟩
      -- what is returned
      have sq1 := hsq H1 sm
      refine ⟨_, rfl, p, _, _, .str r.w, rfl, rfl, sq1, atI_nat (j := 0) rfl, rfl, _, rfl, ?_⟩
      by_cases hs : r.w = ("skip" : Str)
      · obtain ⟨a, m, c, n, ex, hcm⟩ := hskip hs
        have evs : r.vs = [.str r.w, .int a, .int m, .int c, .int n] := by unfold Rw.vs; rw [ex]; rfl
        rw [decide_eq_true (show V.str r.w = V.str "skip" by rw [hs])]
        rw [evs] at sq1
        refine ⟨_, rfl, p, _, _, .int c, rfl, rfl, sq1, atI_nat (j := 3) rfl, _, rfl, p, _, _, .int m, rfl, rfl, sq1, atI_nat (j := 2) rfl, _, _, rfl, rfl, ?_⟩
        show Q (.bl (decide (c < m))) H1
        rw [decide_eq_true hcm]
        exact k H1 sm
      · rw [decide_eq_false (show ¬ V.str r.w = V.str "skip" from fun e => hs (V.str.inj e))]
        exact k H1 sm
abbrev s_shortened : Stmt := top 21
abbrev N_shortened : List Str := ["row", "at", "gone"]
theorem sc_shortened : FnScope N_shortened ["row", "at", "gone"] (defScope s_shortened) := ⟨rfl, rfl, rfl, by decide +kernel, rfl, by decide +kernel, by decide +kernel⟩
theorem short_other {r : Rw} {i g : Int} (h : ¬ r.w = ("skip" : Str)) : r.short i g = r := by
  unfold Rw.short
  split
  · rw [if_neg (fun z => h z.1)]
  · rfl
theorem short_skip {r : Rw} {i g a m c n : Int} (hx : r.xs = [a, m, c, n]) (h : r.w = ("skip" : Str)) (h1 : i < g) (h2 : g ≤ i + n) : r.short i g = ⟨r.w, [a, m, c, n - 1]⟩ := by
  unfold Rw.short
  rw [hx]
  exact if_pos ⟨h, h1, h2⟩
theorem short_far {r : Rw} {i g a m c n : Int} (hx : r.xs = [a, m, c, n]) (h : ¬ (i < g ∧ g ≤ i + n)) : r.short i g = r := by
  unfold Rw.short
  rw [hx]
  exact if_neg (fun z => h z.2)
theorem ok_shortened {f : Addr} {fd : FuncData} (F : Fun K "shortened" "shortened" s_shortened f fd) : FnOk P w K mg base CX0 1 f fd ["row", "at", "gone"] spShort := by
  refine F.ok sc_shortened (fun vs H Q E h => ?_) (fun cdv A outer s H vs Q E hr h => ?_)
  · obtain ⟨p, r, i, g, rfl, _⟩ := h
    rfl
  · obtain ⟨p, r, i, g, rfl, hp, hok, k⟩ := h
    refine ⟨_, (pss_cons (ps_if (PW.pt (pw_and (pt_cmpR op_eq (pe_ix ix_tup (pv 0) pe_int (fun _ _ => rfl)) pe_str (nomark _)) (pw_and1 (pt_chain op_lt op_le (pv 1) (pv 2) (pe_op op_add (pv 1) (pe_ix ix_tup (pv 0) pe_int (fun _ _ => rfl)))))))
    (pss_one (ps_ret (pe_tup (pa_cons pe_str (pa_cons (pe_ix ix_tup (pv 0) pe_int (fun _ _ => rfl)) (pa_cons (pe_ix ix_tup (pv 0) pe_int (fun _ _ => rfl)) (pa_cons (pe_ix ix_tup (pv 0) pe_int (fun _ _ => rfl)) (pa_cons (pe_op op_sub (pe_ix ix_tup (pv 0) pe_int (fun _ _ => rfl)) pe_int) pa_nil))))))))
    pss_nil)
    (pss_one (ps_ret (pv 0)))), ?_⟩
    have sq0 : SqT K H p r.vs := SqT.of hp
    refine ⟨_, rfl, p, _, _, .str r.w, rfl, rfl, sq0, atI_nat (j := 0) rfl, rfl, _, rfl, ?_⟩
    refine ite2 (fun hs => ?_) (fun hs => ?_)
    · have hs := V.str.inj (of_decide_eq_true hs)
      obtain ⟨a, m, c, n, ex, hcm⟩ := hok.2 hs
      have evs : r.vs = [.str r.w, .int a, .int m, .int c, .int n] := by unfold Rw.vs; rw [ex]; rfl
      rw [evs] at sq0
      refine ⟨_, rfl, _, rfl, _, _, rfl, rfl, _, rfl, ?_⟩
      refine ite2 (fun h1 => ?_) (fun h1 => ?_)
      · have h1 := of_decide_eq_true h1
        refine ⟨_, rfl, _, rfl, p, _, _, .int n, rfl, rfl, sq0, atI_nat (j := 4) rfl, _, _, rfl, rfl, _, _, rfl, rfl, _, rfl, ?_⟩
        refine ite2 (fun h2 => ?_) (fun h2 => ?_)
        · have h2 := of_decide_eq_true h2
          refine ⟨_, rfl, p, _, _, .int a, rfl, rfl, sq0, atI_nat (j := 1) rfl, ?_⟩
          refine ⟨_, rfl, p, _, _, .int m, rfl, rfl, sq0, atI_nat (j := 2) rfl, ?_⟩
          refine ⟨_, rfl, p, _, _, .int c, rfl, rfl, sq0, atI_nat (j := 3) rfl, ?_⟩
          refine ⟨_, rfl, p, _, _, .int n, rfl, rfl, sq0, atI_nat (j := 4) rfl, _, _, rfl, rfl, ?_⟩
          refine ⟨(by show 5 ≤ sizeLine; decide), fun q hq => k q _ (new_same hq) ?_⟩
          rw [short_skip ex hs h1 h2]
          show upd H q _ q = some (.tup (Rw.vs ⟨r.w, [a, m, c, n - 1]⟩))
          rw [upd_same, hs]
          rfl
        · refine ⟨_, rfl, k p H (Same.refl H) ?_⟩
          rw [short_far ex (fun z => h2 (decide_eq_true z.2))]
          exact hp
      · refine ⟨_, rfl, ?_⟩
        refine ⟨_, rfl, k p H (Same.refl H) ?_⟩
        rw [short_far ex (fun z => h1 (decide_eq_true z.1))]
        exact hp
    · refine ⟨_, rfl, k p H (Same.refl H) ?_⟩
      rw [short_other (fun e => hs (decide_eq_true (by rw [e])))]
      exact hp
end
end My

set_option Elab.async false
set_option linter.all false
set_option maxRecDepth 100000
set_option maxHeartbeats 1000000
namespace My
open PySem L2 MyR
/-! ### rows in the heap -/
structure RowsAt (H : Hp) (rs : List Rw) (as : List Addr) : Prop where
  len : as.length = rs.length
  at_ : ∀ (i : Nat) r, rs[i]? = some r → ∃ p, as[i]? = some p ∧ RowAt H r p
theorem RowsAt.nil {H : Hp} : RowsAt H [] [] := ⟨rfl, fun i r h => by simp at h⟩
theorem RowsAt.same {H H' : Hp} {rs : List Rw} {as : List Addr} (h : RowsAt H rs as) (s : Same H H') : RowsAt H' rs as := ⟨h.len, fun i r e => let ⟨p, e1, e2⟩ := h.at_ i r e; ⟨p, e1, e2.same s⟩⟩
theorem RowsAt.kept {H H' : Hp} {rs : List Rw} {as : List Addr} {d l : Addr} (h : RowsAt H rs as) (D : Deal H d l) (k : Kept d l H H') : RowsAt H' rs as := ⟨h.len, fun i r e => let ⟨p, e1, e2⟩ := h.at_ i r e; ⟨p, e1, e2.kept D k⟩⟩
theorem RowsAt.upd {H : Hp} {rs : List Rw} {as : List Addr} {D : Addr} {xs : List V} {o : HO} (h : RowsAt H rs as) (hD : H D = some (.lst xs)) : RowsAt (upd H D o) rs as :=
  ⟨h.len, fun i r e => let ⟨p, e1, e2⟩ := h.at_ i r e; ⟨p, e1, by unfold RowAt; rw [upd_ne (ne_of e2 hD (by intro z; cases z))]; exact e2⟩⟩
theorem RowsAt.updN {H : Hp} {rs : List Rw} {as : List Addr} {D : Addr} {o : HO} (h : RowsAt H rs as) (hD : H D = none) : RowsAt (L2.upd H D o) rs as := h.same (new_same hD)
theorem RowsAt.snoc {H : Hp} {rs : List Rw} {as : List Addr} {r : Rw} {p : Addr} (h : RowsAt H rs as) (hp : RowAt H r p) : RowsAt H (rs ++ [r]) (as ++ [p]) := by
  refine ⟨by rw [List.length_append, List.length_append, h.len]; rfl, fun i r' e => ?_⟩
  by_cases hi : i < rs.length
  · rw [List.getElem?_append_left hi] at e
    obtain ⟨q, e1, e2⟩ := h.at_ i r' e
    exact ⟨q, by rw [List.getElem?_append_left (by rw [h.len]; exact hi)]; exact e1, e2⟩
  · rw [List.getElem?_append_right (by omega)] at e
    have h0 : i - rs.length = 0 := by
      by_cases h1 : i - rs.length = 0
      · exact h1
      · rw [List.getElem?_eq_none (by simp only [List.length_cons, List.length_nil]; omega)] at e
        cases e
    rw [h0] at e
    have e' : r = r' := Option.some.inj e
    refine ⟨p, ?_, by rw [← e']; exact hp⟩
    rw [List.getElem?_append_right (by rw [h.len]; omega), h.len, h0]
    rfl
def refs (as : List Addr) : List V := as.map V.ref
theorem refs_len (as : List Addr) : (refs as).length = as.length := List.length_map ..
theorem refs_at {as : List Addr} {i : Nat} {p : Addr} (h : as[i]? = some p) : (refs as)[i]? = some (.ref p) := by unfold refs; rw [List.getElem?_map, h]; rfl
/-- rows that a Code may have -/
def RsOk (rs : List Rw) : Prop := ∀ (i : Nat) r, rs[i]? = some r → r.ok ∧ r.fits ((rs.length : Int) - 1 - (i : Int))
/-- a code with these rows -/
def CodeAt (C : Addr) (H : Hp) (rs : List Rw) (c : Addr) : Prop := ∃ (dx t : Addr) (as : List Addr), H c = some (.ins C dx [("rows", .ref t)]) ∧ H t = some (.tup (refs as)) ∧ RowsAt H rs as
def LstAt (H : Hp) (rs : List Rw) (a : Addr) : Prop := ∃ as : List Addr, H a = some (.lst (refs as)) ∧ RowsAt H rs as
theorem CodeAt.same {C : Addr} {H H' : Hp} {rs : List Rw} {c : Addr} (h : CodeAt C H rs c) (s : Same H H') : CodeAt C H' rs c := let ⟨dx, t, as, e1, e2, e3⟩ := h; ⟨dx, t, as, s _ _ e1, s _ _ e2, e3.same s⟩
theorem CodeAt.kept {C : Addr} {H H' : Hp} {rs : List Rw} {c d l : Addr} (h : CodeAt C H rs c) (D : Deal H d l) (k : Kept d l H H') : CodeAt C H' rs c :=
  let ⟨dx, t, as, e1, e2, e3⟩ := h; ⟨dx, t, as, k _ _ e1 (D.ni e1).1 (D.ni e1).2, k _ _ e2 (D.nt e2).1 (D.nt e2).2, e3.kept D k⟩
theorem LstAt.same {H H' : Hp} {rs : List Rw} {a : Addr} (h : LstAt H rs a) (s : Same H H') : LstAt H' rs a := let ⟨as, e1, e2⟩ := h; ⟨as, s _ _ e1, e2.same s⟩
/-! ### rows without one of them -/
def outAt (rs : List Rw) (g : Nat) (j : Nat) : Rw := let i := if j < g then j else j + 1; (rs.getD i ⟨"", []⟩).short (i : Int) (g : Int)
def outTo (rs : List Rw) (g i : Nat) : List Rw := (List.range (if i ≤ g then i else i - 1)).map (outAt rs g)
theorem outTo_gone (rs : List Rw) (g : Nat) : outTo rs g (g + 1) = outTo rs g g := by
  unfold outTo
  rw [if_neg (by omega), if_pos (Nat.le_refl _)]
  rfl
theorem outTo_step {rs : List Rw} {g i : Nat} {r : Rw} (h : i ≠ g) (hr : rs[i]? = some r) : outTo rs g (i + 1) = outTo rs g i ++ [r.short (i : Int) (g : Int)] := by
  unfold outTo
  have hg : ∀ j, rs.getD j ⟨"", []⟩ = (rs[j]?).getD ⟨"", []⟩ := fun j => List.getD_eq_getElem?_getD ..
  by_cases hi : i < g
  · rw [if_pos (by omega), if_pos (by omega), List.range_succ, List.map_append]
    congr 1
    show [outAt rs g i] = _
    unfold outAt
    simp only [if_pos hi]
    rw [hg, hr]
    rfl
  · rw [if_neg (by omega), if_neg (by omega)]
    have e : i + 1 - 1 = (i - 1) + 1 := by omega
    rw [e, List.range_succ, List.map_append]
    congr 1
    show [outAt rs g (i - 1)] = _
    unfold outAt
    have e2 : i - 1 + 1 = i := by omega
    simp only [if_neg (show ¬ i - 1 < g by omega), e2]
    rw [hg, hr]
    rfl
def out (rs : List Rw) (g : Nat) : List Rw := outTo rs g rs.length
theorem out_len {rs : List Rw} {g : Nat} (h : g < rs.length) : (out rs g).length = rs.length - 1 := by
  unfold out outTo
  rw [List.length_map, List.length_range, if_neg (by omega)]
theorem out_at {rs : List Rw} {g j : Nat} (h : g < rs.length) (hj : j < rs.length - 1) : ∃ i r, rs[i]? = some r ∧ i ≠ g ∧ i = (if j < g then j else j + 1) ∧ (out rs g)[j]? = some (r.short (i : Int) (g : Int)) := by
  have hi : (if j < g then j else j + 1) < rs.length := by split <;> omega
  refine ⟨if j < g then j else j + 1, rs[if j < g then j else j + 1], List.getElem?_eq_getElem hi, by split <;> omega, rfl, ?_⟩
  unfold out outTo
  rw [if_neg (by omega), List.getElem?_map, List.getElem?_range hj]
  show some (outAt rs g j) = _
  unfold outAt
  simp only [List.getD_eq_getElem?_getD, List.getElem?_eq_getElem hi]
  rfl
theorem skip_form : ∀ f, (("skip" : Str), f) ∈ forms → f = ("RMCN" : Str) := by
  intro f h
  have q : ∀ p ∈ forms, p.1 = ("skip" : Str) → p.2 = ("RMCN" : Str) := by decide +kernel
  exact q _ h rfl
theorem rmcn (i c : Nat) (h : ("RMCN" : Str).cps[i]? = some c) : i < 4 := by
  have : ("RMCN" : Str).cps.size = 4 := by decide +kernel
  have := (Array.getElem?_eq_some_iff.mp h).1
  omega
theorem short_ok {r : Rw} {i g : Int} (h : r.ok) : (r.short i g).ok := by
  by_cases hs : r.w = ("skip" : Str)
  · obtain ⟨a, m, c, n, ex, hcm⟩ := h.2 hs
    by_cases h1 : i < g ∧ g ≤ i + n
    · rw [short_skip ex hs h1.1 h1.2]
      obtain ⟨⟨f, hf, hl, hit⟩, _⟩ := h
      refine ⟨⟨f, hf, ?_, fun j cc z hc hz => ?_⟩, fun _ => ⟨a, m, c, n - 1, rfl, hcm⟩⟩
      · rw [← hl, ex]
        rfl
      · rw [ex] at hit
        rw [hs] at hf
        have ef := skip_form f hf
        subst ef
        have hj := rmcn j cc hc
        have hj' : j = 0 ∨ j = 1 ∨ j = 2 ∨ j = 3 := by omega
        rcases hj' with rfl | rfl | rfl | rfl
        · exact hit 0 cc z hc hz
        · exact hit 1 cc z hc hz
        · exact hit 2 cc z hc hz
        · have q := hit 3 cc n hc rfl
          have ec : cc = 78 := by
            have e0 : ("RMCN" : Str).cps[3]? = some 78 := by decide +kernel
            rw [e0] at hc
            exact (Option.some.inj hc).symm
          have ez : n - 1 = z := Option.some.inj hz
          subst ez
          unfold itOk at q ⊢
          omega
    · rw [short_far ex h1]
      exact h
  · rw [short_other hs]
    exact h
theorem short_fits {r : Rw} {i g left : Int} (h : r.ok) (hf : r.fits left) (hn : i < g → g ≤ i + left) (hi : i ≠ g) : (r.short i g).fits (if i < g then left - 1 else left) := by
  intro hs
  have hs' : r.w = ("skip" : Str) := by
    by_cases e : r.w = ("skip" : Str)
    · exact e
    · rw [short_other e] at hs
      exact hs
  obtain ⟨a, m, c, n, ex, hl⟩ := hf hs'
  by_cases h1 : i < g ∧ g ≤ i + n
  · rw [short_skip ex hs' h1.1 h1.2]
    refine ⟨a, m, c, n - 1, rfl, ?_⟩
    rw [if_pos h1.1]
    omega
  · rw [short_far ex h1]
    refine ⟨a, m, c, n, ex, ?_⟩
    by_cases h2 : i < g
    · rw [if_pos h2]
      have := hn h2
      omega
    · rw [if_neg h2]
      exact hl
theorem out_ok {rs : List Rw} {g : Nat} (h : RsOk rs) (hg : g < rs.length) : RsOk (out rs g) := by
  intro j r' hj
  have hlen := out_len hg
  have hjl : j < rs.length - 1 := by
    have := (List.getElem?_eq_some_iff.mp hj).1
    omega
  obtain ⟨i, r, hr, hig, hi, ho⟩ := out_at hg hjl
  rw [hj] at ho
  obtain rfl := Option.some.inj ho
  obtain ⟨h1, h2⟩ := h i r hr
  refine ⟨short_ok h1, ?_⟩
  have q := short_fits (left := (rs.length : Int) - 1 - (i : Int)) h1 h2 (g := (g : Int)) (fun _ => by omega) (fun e => hig (Int.ofNat_inj.mp e))
  rw [hlen]
  have e : ((rs.length - 1 : Nat) : Int) - 1 - (j : Int) = if (i : Int) < (g : Int) then (rs.length : Int) - 1 - (i : Int) - 1 else (rs.length : Int) - 1 - (i : Int) := by
    by_cases hjg : j < g
    · rw [if_pos hjg] at hi
      rw [if_pos (by omega)]
      omega
    · rw [if_neg hjg] at hi
      rw [if_neg (by omega)]
      omega
  rw [e]
  exact q
/-! ### the class Code -/
/-- the new object at p gets its rows -/
def IniC (H : Hp) (p C dx t : Addr) (H' : Hp) : Prop := H' p = some (.ins C dx [("rows", .ref t)]) ∧ ∀ b o, H b = some o → b ≠ p → H' b = some o
def spCode (C : Addr) : Sp := fun vs H Q _ => ∃ (p dx a : Addr) (as : List Addr) (rs : List Rw), vs = [.ref p, .ref a] ∧ H p = some (.ins C dx []) ∧ (H a = some (.lst (refs as)) ∨ H a = some (.tup (refs as))) ∧ RowsAt H rs as ∧ RsOk rs ∧ rs.length ≤ 900 ∧
  ∀ (t : Addr) H', IniC H p C dx t H' → H' t = some (.tup (refs as)) → Q .non H'
def spLenC (C : Addr) : Sp := fun vs H Q _ => ∃ (c : Addr) (rs : List Rw), vs = [.ref c] ∧ CodeAt C H rs c ∧ Q (.int rs.length) H
def spOut (C : Addr) : Sp := fun vs H Q _ => ∃ (c : Addr) (rs : List Rw) (g : Nat), vs = [.ref c, .int (g : Int)] ∧ CodeAt C H rs c ∧ RsOk rs ∧ rs.length ≤ 900 ∧ g < rs.length ∧ ∀ (x : Addr) H', Same H H' → CodeAt C H' (out rs g) x → Q (.ref x) H'
def rowD (r : Rw) : PyData := .tuple (.str r.w :: r.xs.map .int)
def spEqC (C : Addr) : Sp := fun vs H Q _ => ∃ (a b : Addr) (rs : List Rw), vs = [.ref a, .ref b] ∧ CodeAt C H rs a ∧ CodeAt C H rs b ∧ RsOk rs ∧ Q (.bl true) H
end My

set_option Elab.async false
set_option linter.all false
set_option maxRecDepth 100000
set_option maxHeartbeats 1000000
namespace My
open PySem L2 MyR
theorem forms_ok : ∀ p ∈ forms, PyData.strOk p.1 = true := by decide +kernel
theorem ints_lay : ∀ xs : List Int, PyData.canLayAll0 (xs.map PyData.int) = true
  | [] => by simp [PyData.canLayAll0]
  | x :: xs => by
    rw [List.map_cons, PyData.canLayAll0, PyData.canLay0, ints_lay xs]
    rfl
theorem ints_depth : ∀ xs : List Int, PyData.depthAll (xs.map PyData.int) = 0
  | [] => by simp [PyData.depthAll]
  | x :: xs => by
    rw [List.map_cons, PyData.depthAll, PyData.depth, ints_depth xs]
    rfl
theorem rowD_lay {r : Rw} (h : r.ok) : (rowD r).canLay0 = true := by
  obtain ⟨⟨f, hf, _⟩, _⟩ := h
  unfold rowD
  rw [PyData.canLay0, PyData.canLayAll0, PyData.canLay0, ints_lay, forms_ok _ hf]
  rfl
theorem rowD_depth (r : Rw) : (rowD r).depth = 1 := by
  unfold rowD
  rw [PyData.depth, PyData.depthAll, PyData.depth, ints_depth]
  rfl
theorem rowsD_lay : ∀ {rs : List Rw}, (∀ r ∈ rs, r.ok) → PyData.canLayAll0 (rs.map rowD) = true
  | [], _ => by simp [PyData.canLayAll0]
  | r :: rs, h => by
    rw [List.map_cons, PyData.canLayAll0, rowD_lay (h r List.mem_cons_self), rowsD_lay fun x hx => h x (List.mem_cons_of_mem _ hx)]
    rfl
theorem rowsD_depth : ∀ rs : List Rw, PyData.depthAll (rs.map rowD) ≤ 1
  | [] => by simp [PyData.depthAll]
  | r :: rs => by
    rw [List.map_cons, PyData.depthAll, rowD_depth]
    have := rowsD_depth rs
    omega
theorem RsOk.all {rs : List Rw} (h : RsOk rs) : ∀ r ∈ rs, r.ok := fun r hr => by
  obtain ⟨i, hi⟩ := List.mem_iff_getElem?.mp hr
  exact (h i r hi).1
theorem tupD_lay {rs : List Rw} (h : RsOk rs) : (PyData.tuple (rs.map rowD)).canLay0 = true := by
  rw [PyData.canLay0]
  exact rowsD_lay h.all
theorem tupD_shaped {rs : List Rw} (h : RsOk rs) : SeqAt.shaped (.tuple (rs.map rowD)) = true := by
  unfold SeqAt.shaped
  rw [tupD_lay h, Bool.true_and]
  refine decide_eq_true ?_
  rw [PyData.depth]
  have := rowsD_depth rs
  omega
theorem lstD_shaped {rs : List Rw} (h : RsOk rs) : SeqAt.shaped (.list (rs.map rowD)) = true := by
  unfold SeqAt.shaped
  rw [show (PyData.list (rs.map rowD)).canLay0 = true from by rw [PyData.canLay0]; exact rowsD_lay h.all, Bool.true_and]
  refine decide_eq_true ?_
  rw [PyData.depth]
  have := rowsD_depth rs
  omega
theorem ints_dp {K : PySem.W.Frag} {H : Hp} : ∀ xs : List Int, DpAll K H (xs.map V.int) (xs.map PyData.int)
  | [] => .nil
  | x :: xs => .cons (.int x) (ints_dp xs)
theorem row_dp {K : PySem.W.Frag} {H : Hp} {r : Rw} {p : Addr} (h : RowAt H r p) : Dp K H (.ref p) (rowD r) := .tup (SqT.of h) (.cons (.str r.w) (ints_dp r.xs))
theorem rows_dp {K : PySem.W.Frag} {H : Hp} : ∀ {rs : List Rw} {as : List Addr}, RowsAt H rs as → DpAll K H (refs as) (rs.map rowD)
  | [], [], _ => .nil
  | [], a :: as, h => absurd h.len (by simp)
  | r :: rs, [], h => absurd h.len (by simp)
  | r :: rs, a :: as, h => by
    obtain ⟨p, e1, e2⟩ := h.at_ 0 r rfl
    obtain rfl := Option.some.inj e1
    exact .cons (row_dp e2) (rows_dp ⟨by have := h.len; simpa using this, fun i r' e => h.at_ (i + 1) r' e⟩)
theorem tup_dp {K : PySem.W.Frag} {H : Hp} {rs : List Rw} {as : List Addr} {t : Addr} (h : RowsAt H rs as) (ht : H t = some (.tup (refs as))) : Dp K H (.ref t) (.tuple (rs.map rowD)) := .tup (SqT.of ht) (rows_dp h)
theorem tup_eqv {rs : List Rw} (h : RsOk rs) : PyData.eqv (.tuple (rs.map rowD)) (.tuple (rs.map rowD)) = true := SeqAt.eqv_refl _ (tupD_lay h)
section
variable {P : Program} {w : World} {K : PySem.W.Frag} {mg : Str → Option Value} {base : Heap}
abbrev s_Code_init : Stmt := inClass (top 22) 0
abbrev N_Code_init : List Str := ["self", "rows", "at", "row"]
theorem sc_Code_init : FnScope N_Code_init ["self", "rows"] (defScope s_Code_init) := ⟨rfl, rfl, rfl, by decide +kernel, rfl, by decide +kernel, by decide +kernel⟩
theorem ok_Code_init {f C : Addr} {fd : FuncData} (F : Fun K "__init__" "Code.__init__" s_Code_init f fd) (T : Glob mg) (T2 : Tabs w K mg) (cl : Cls K C) (n1 : NoAttr K C "rows") (D_is_row : Df P w K mg base 4 "is_row" ["row"] spRow) : FnOk P w K mg base CX0 5 f fd ["self", "rows"] (spCode C) := by
  obtain ⟨tR, hMR⟩ := T2.rows
  refine F.ok sc_Code_init (fun vs H Q E h => ?_) (fun cdv A outer s H vs Q E hr h => ?_)
  · obtain ⟨p, dx, a, as, rs, rfl, _⟩ := h
    rfl
  · obtain ⟨p, dx, a, as, rs, rfl, hp, ha, hrs, hok, hlen, k⟩ := h
    have nd := sc_Code_init.nd
    have hu := hu_of hr
    refine ⟨_, (pss_cons (ps_if (pt_cmpR op_gt (pe_callB call_len_seq (by rfl) T.g_len PySem.boot_len (pa_cons (pv 1) pa_nil)) (pe_glob (v := .int 1000) rfl hMR ⟨_, rfl⟩) (nomark _))
    (pss_one ps_never)
    pss_nil)
    (pss_cons (ps_fld (pv 0) (pe_callTy call_tuple_of (by rfl) T.g_tuple (by decide +kernel) (pa_cons (pv 1) pa_nil)) rfl)
    (pss_one (ps_for PassesOwn.never rfl (pi_enumT (by rfl) T.g_enumerate (pa_cons (pe_fld (pv 0) rfl) pa_nil)) (pg_tup (by rfl) (pgs_cons (pg_name (i := 2) nd rfl (Or.inl rfl)) (pgs_cons (pg_name (i := 3) nd rfl (Or.inl rfl)) pgs_nil)))
    (pss_cons (ps_if (pt_not (pt_val (pe_call D_is_row.ok (hr.mono (by decide)) (by rfl) D_is_row.g D_is_row.kp D_is_row.b .nil pass0 (pa_cons (pv 3) pa_nil))))
    (pss_one ps_never)
    pss_nil)
    (pss_one (ps_if (PW.pt (pw_and (pt_cmpR op_eq (pe_ix ix_tup (pv 3) pe_int (fun _ _ => rfl)) pe_str (nomark _)) (pw_and1 (pt_cmpR op_gt (pe_op op_add (pe_op op_add (pv 2) pe_int) (pe_ix ix_tup (pv 3) pe_int (fun _ _ => rfl))) (pe_callB call_len_seq (by rfl) T.g_len PySem.boot_len (pa_cons (pe_fld (pv 0) rfl) pa_nil)) (nomark _)))))
    (pss_one ps_never)
    pss_nil))))))), ?_⟩
    have hrl : (refs as).length = rs.length := by rw [refs_len]; exact hrs.len
    have hsq : SqL K H a (refs as) ∨ SqT K H a (refs as) := by
      rcases ha with h | h
      · exact .inl (SqL.of h)
      · exact .inr (SqT.of h)
    refine seq_by (fun σ H1 => σ = [some (.ref p), some (.ref a), none, none] ∧ H = H1) (fun D' hD' => ?_) ?_
    · refine ⟨_, rfl, a, _, rfl, hsq, _, _, rfl, rfl, _, rfl, ?_⟩
      refine ite2 (fun h0 => ?_) (fun _ => hD' _ _ ⟨rfl, rfl⟩)
      have h0 := of_decide_eq_true h0
      omega
    rintro σ0 H0 ⟨rfl, rfl⟩
    refine seq_by (fun σ H1 => ∃ t, σ = [some (.ref p), some (.ref a), none, none] ∧ IniC H p C dx t H1 ∧ H1 t = some (.tup (refs as)) ∧ RowsAt H1 rs as) (fun D' hD' => ?_) ?_
    · have fin : ∀ (t : Addr) (H1 : Hp), H1 p = some (.ins C dx []) → Same H H1 → H1 t = some (.tup (refs as)) → RowsAt H1 rs as → t ≠ p → D'.nx [some (.ref p), some (.ref a), none, none] (upd H1 p (.ins C dx [("rows", .ref t)])) := fun t H1 h1 sm h2 h3 ne => by
        refine hD' _ _ ⟨t, rfl, ⟨upd_same, fun b o e hb => by rw [upd_ne hb]; exact sm b o e⟩, by rw [upd_ne ne]; exact h2, h3.len, fun i r e => ?_⟩
        obtain ⟨q, e1, e2⟩ := h3.at_ i r e
        refine ⟨q, e1, ?_⟩
        unfold RowAt
        rw [upd_ne (ne_of e2 h1 (by intro z; cases z))]
        exact e2
      rcases ha with ha | ha
      · refine ⟨_, rfl, a, _, rfl, .inl ⟨SqL.of ha, fun t ht => ?_⟩⟩
        have np : p ≠ t := ne_of_none hp ht
        refine ⟨_, rfl, p, C, dx, _, rfl, by rw [upd_ne np]; exact hp, cl, n1, (by show 0 < 1000; decide), ?_⟩
        exact fin t _ (by rw [upd_ne np]; exact hp) (new_same ht) upd_same (hrs.updN ht) (Ne.symm np)
      · refine ⟨_, rfl, a, _, rfl, .inr ⟨SqT.of ha, ?_⟩⟩
        refine ⟨_, rfl, p, C, dx, _, rfl, hp, cl, n1, (by show 0 < 1000; decide), ?_⟩
        exact fin a H hp (Same.refl H) ha hrs (ne_of ha hp (by intro z; cases z))
    · rintro σ H1 ⟨t, rfl, ini, ht, hr1⟩
      refine ⟨_, rfl, p, C, dx, _, _, rfl, ini.1, cl, n1, rfl, t, _, rfl, SqT.of ht, ?_⟩
      refine for_it walk_enumT (fun i σ H2 => ∃ b c : Option V, σ = [some (.ref p), some (.ref a), b, c] ∧ Same H1 H2) ⟨none, none, rfl, Same.refl _⟩ (fun i σ H2 _ ⟨_, _, _, sm⟩ => SqT.of (sm _ _ ht)) ?_ ?_
      · rintro i x σ H2 H3 hi ⟨b, c, rfl, sm⟩ ⟨Tt, y, z, rfl, hT, rfl, hy, hz⟩
        have ey := Option.some.inj hy
        subst ey
        have hil : i < rs.length := by rw [← hrl]; exact hi
        obtain ⟨q, e1, e2⟩ := hr1.at_ i rs[i] (List.getElem?_eq_getElem hil)
        have ez : z = .ref q := by
          have := refs_at e1
          have hz' : (refs as)[i]? = some z := hz
          rw [this] at hz'
          exact (Option.some.inj hz').symm
        subst ez
        obtain ⟨hok1, hfit⟩ := hok i rs[i] (List.getElem?_eq_getElem hil)
        have sm3 : Same H1 (upd H2 Tt (.tup [.int (i : Nat), .ref q])) := sm.trans (new_same hT)
        have hq3 : RowAt (upd H2 Tt (.tup [.int (i : Nat), .ref q])) rs[i] q := e2.same sm3
        refine ⟨Tt, _, rfl, SqT.of upd_same, rfl, _, _, rfl, _, _, rfl, rfl, ?_⟩
        refine ⟨_, rfl, q, rs[i], rfl, hq3, hok1, fun H4 sm4 => ?_⟩
        have hq4 : RowAt H4 rs[i] q := hq3.same sm4
        refine ⟨_, rfl, ?_⟩
        refine ⟨_, rfl, q, _, _, .str rs[i].w, rfl, rfl, SqT.of hq4, atI_nat (j := 0) rfl, rfl, _, rfl, ?_⟩
        refine ite2 (fun hs => ?_) (fun hs => ?_)
        · have hs := V.str.inj (of_decide_eq_true hs)
          obtain ⟨a1, m, c1, n, ex, hn⟩ := hfit hs
          have evs : rs[i].vs = [.str rs[i].w, .int a1, .int m, .int c1, .int n] := by unfold Rw.vs; rw [ex]; rfl
          have sq4 : SqT K H4 q rs[i].vs := SqT.of hq4
          rw [evs] at sq4
          have hp4 : H4 p = some (.ins C dx [("rows", .ref t)]) := (sm3.trans sm4) _ _ ini.1
          refine ⟨_, rfl, _, _, rfl, rfl, _, rfl, q, _, _, .int n, rfl, rfl, sq4, atI_nat (j := 4) rfl, _, _, rfl, rfl, ?_⟩
          refine ⟨_, rfl, p, C, dx, _, _, rfl, hp4, cl, n1, rfl, t, _, rfl, .inr (SqT.of ((sm3.trans sm4) _ _ ht)), _, _, rfl, rfl, _, rfl, ?_⟩
          refine ite2 (fun h0 => ?_) (fun _ => ?_)
          · have h0 := of_decide_eq_true h0
            rw [hrl] at h0
            omega
          · exact ⟨_, _, rfl, sm3.trans sm4⟩
        · refine iteF ?_
          exact ⟨_, _, rfl, sm3.trans sm4⟩
      · rintro σ H2 ⟨b, c, rfl, sm⟩
        exact k t H2 ⟨sm _ _ ini.1, fun b o e hb => sm _ _ (ini.2 b o e hb)⟩ (sm _ _ ht)
end
end My

set_option Elab.async false
set_option linter.all false
set_option maxRecDepth 100000
set_option maxHeartbeats 1000000
namespace My
open PySem L2 MyR
theorem made_same {H : Hp} {x dx C : Addr} (hx : H x = none) (hd : H dx = none) : Same H (upd (upd H dx (.own x)) x (.ins C dx [])) := fun b o e => by
  rw [upd_ne (ne_of_none e hx), upd_ne (ne_of_none e hd)]
  exact e
theorem ini_same {H H2 : Hp} {x dx C t : Addr} (hx : H x = none) (hd : H dx = none) (ini : IniC (upd (upd H dx (.own x)) x (.ins C dx [])) x C dx t H2) : Same H H2 := fun b o e => ini.2 b o (made_same hx hd b o e) (ne_of_none e hx)
/-- the class Code as its users know it -/
structure CodeOk (P : Program) (w : World) (K : PySem.W.Frag) (mg : Str → Option Value) (base : Heap) (C : Addr) where
  f : Addr
  fd : FuncData
  m : Mk K C f
  ok : FnOk P w K mg base CX0 5 f fd ["self", "rows"] (spCode C)
  g : mg "Code" = some (.ref C)
  b : Binds K fd ["self", "rows"] []
  cl : Cls K C
  n_rows : NoAttr K C "rows"
/-- a code is made of a list or a tuple -/
theorem make_code {K : PySem.W.Frag} {C a : Addr} {H : Hp} {as : List Addr} {rs : List Rw} {E : XK} {Q : V → Hp → Prop} (ha : H a = some (.lst (refs as)) ∨ H a = some (.tup (refs as))) (hr : RowsAt H rs as) (ok : RsOk rs) (hl : rs.length ≤ 900)
    (k : ∀ (x : Addr) H', H x = none → Same H H' → CodeAt C H' rs x → Q (.ref x) H') : ∀ x dx, H x = none → H dx = none → dx ≠ x → spCode C (.ref x :: [.ref a]) (upd (upd H dx (.own x)) x (.ins C dx [])) (fun v H2 => v = .non ∧ Q (.ref x) H2) E := fun x dx hx hd _ => by
  have sm := made_same (C := C) hx hd
  refine ⟨x, dx, a, as, rs, rfl, upd_same, ?_, hr.same sm, ok, hl, fun t H' ini ht => ⟨rfl, k x H' hx (ini_same hx hd ini) ⟨dx, t, as, ini.1, ht, hr.same (ini_same hx hd ini)⟩⟩⟩
  rcases ha with h | h
  · exact .inl (sm _ _ h)
  · exact .inr (sm _ _ h)
section
variable {P : Program} {w : World} {K : PySem.W.Frag} {mg : Str → Option Value} {base : Heap}
abbrev s_Code_without : Stmt := inClass (top 22) 2
abbrev N_Code_without : List Str := ["self", "at", "index", "row"]
theorem sc_Code_without : FnScope N_Code_without ["self", "at"] (defScope s_Code_without) := ⟨rfl, rfl, rfl, by decide +kernel, rfl, by decide +kernel, by decide +kernel⟩
theorem ok_Code_without {f C : Addr} {fd : FuncData} (F : Fun K "without" "Code.without" s_Code_without f fd) (T : Glob mg) (M : CodeOk P w K mg base C) (D_shortened : Df P w K mg base 1 "shortened" ["row", "at", "gone"] spShort) : FnOk P w K mg base CX0 7 f fd ["self", "at"] (spOut C) := by
  refine F.ok sc_Code_without (fun vs H Q E h => ?_) (fun cdv A outer s H vs Q E hr h => ?_)
  · obtain ⟨c, rs, g, rfl, _⟩ := h
    rfl
  · obtain ⟨c, rs, g, rfl, hc, hok, hlen, hg, k⟩ := h
    have nd := sc_Code_without.nd
    have hu := hu_of hr
    refine ⟨_, (pss_one (ps_ret (pe_make M.m M.ok (hr.mono (by decide)) (by rfl) M.g M.b .nil pass0 (pa_cons (pe_lc (own := [("index", 2), ("row", 3)]) (g := gTup K 2 (gCons (gName 2) (gCons (gName 3) gNil))) rfl nd (pi_enumT (by rfl) T.g_enumerate (pa_cons (pe_fld (pv 0) rfl) pa_nil)) (blkOk_by (N := N_Code_without) (sc := defScope s_Code_without) (by decide +kernel)) (fun _ _ _ _ _ => pg_tup (by rfl) (pgs_cons (pg_name (i := 2) nd rfl (Or.inl rfl)) (pgs_cons (pg_name (i := 3) nd rfl (Or.inl rfl)) pgs_nil))) (fun _ _ _ _ _ => pts_one (pt_cmpR op_ne (pv 2) (pv 1) (nomark _))) (fun _ _ _ _ _ => (pe_call D_shortened.ok (hr.mono (by decide)) (by rfl) D_shortened.g D_shortened.kp D_shortened.b .nil pass0 (pa_cons (pv 3) (pa_cons (pv 2) (pa_cons (pv 1) pa_nil)))))) pa_nil)))), ?_⟩
    obtain ⟨dx, t, as, h1, h2, hr1⟩ := id hc
    have hrl : (refs as).length = rs.length := by rw [refs_len]; exact hr1.len
    refine ⟨_, rfl, c, C, dx, _, _, rfl, h1, M.cl, M.n_rows, rfl, t, _, rfl, SqT.of h2, fun D hD => ?_⟩
    refine lc_it walk_enumT (fun i H1 => Same H H1 ∧ ∃ bs, H1 D = some (.lst (refs bs)) ∧ RowsAt H1 (outTo rs g i) bs) ⟨new_same hD, [], upd_same, ?_⟩ (fun i H1 _ h => SqT.of (h.1 _ _ h2)) ?_ ?_
    · unfold outTo
      rw [if_pos (Nat.zero_le _)]
      exact RowsAt.nil
    · rintro i x H1 H2 hi ⟨sm, bs, hb, hrb⟩ ⟨Tt, y, z, rfl, hT, rfl, hy, hz⟩
      have ey := Option.some.inj hy
      subst ey
      have hil : i < rs.length := by rw [← hrl]; exact hi
      have hri : rs[i]? = some rs[i] := List.getElem?_eq_getElem hil
      obtain ⟨q, e1, e2⟩ := hr1.at_ i rs[i] hri
      have ez : z = .ref q := by
        have := refs_at e1
        have hz' : (refs as)[i]? = some z := hz
        rw [this] at hz'
        exact (Option.some.inj hz').symm
      subst ez
      have nDT : D ≠ Tt := ne_of_none hb hT
      have sm3 : Same H (upd H1 Tt (.tup [.int (i : Nat), .ref q])) := sm.trans (new_same hT)
      refine ⟨Tt, _, rfl, SqT.of upd_same, rfl, _, _, rfl, _, _, rfl, rfl, rfl, ?_⟩
      refine ⟨_, rfl, _, rfl, rfl, _, rfl, ?_⟩
      refine ite2 (fun hn => ?_) (fun hn => ?_)
      · have hig : i ≠ g := by
          intro e
          subst e
          rw [decide_eq_true rfl] at hn
          cases hn
        refine ⟨_, rfl, _, rfl, _, rfl, q, rs[i], (i : Int), (g : Int), rfl, e2.same sm3, (hok i _ hri).1, fun u H4 sm4 hu4 => ?_⟩
        have hb4 : H4 D = some (.lst (refs bs)) := sm4 _ _ (by rw [upd_ne nDT]; exact hb)
        have hrb4 : RowsAt H4 (outTo rs g i) bs := (hrb.updN hT).same sm4
        refine ⟨_, hb4, ?_, ?_, bs ++ [u], ?_, ?_⟩
        · rw [refs_len, hrb4.len]
          unfold outTo
          rw [List.length_map, List.length_range]
          refine small1000 ?_
          split <;> omega
        · intro b o e
          rw [upd_ne (ne_of_none e hD)]
          exact sm4 _ _ (sm3 _ _ e)
        · rw [upd_same]
          unfold refs
          rw [List.map_append]
          rfl
        · rw [outTo_step hig hri]
          exact (hrb4.snoc hu4).upd hb4
      · have hig : i = g := by
          by_cases e : i = g
          · exact e
          · exact absurd (by rw [decide_eq_false (fun z => e (Int.ofNat_inj.mp (V.int.inj z)))]; rfl) hn
        subst hig
        refine ⟨sm3, bs, by rw [upd_ne nDT]; exact hb, ?_⟩
        rw [outTo_gone]
        exact hrb.updN hT
    · rintro H1 ⟨sm, bs, hb, hrb⟩
      rw [hrl] at hrb
      exact make_code (K := K) (.inl hb) hrb (out_ok hok hg) (by rw [show (outTo rs g rs.length).length = rs.length - 1 from out_len hg]; omega) (fun x H' _ sm' hx => k x H' (sm.trans sm') hx)
abbrev s_Code_len : Stmt := inClass (top 22) 3
abbrev N_Code_len : List Str := ["self"]
theorem sc_Code_len : FnScope N_Code_len ["self"] (defScope s_Code_len) := ⟨rfl, rfl, rfl, by decide +kernel, rfl, by decide +kernel, by decide +kernel⟩
theorem ok_Code_len {f C : Addr} {fd : FuncData} (F : Fun K "__len__" "Code.__len__" s_Code_len f fd) (T : Glob mg) (cl : Cls K C) (n1 : NoAttr K C "rows") : FnOk P w K mg base CX0 1 f fd ["self"] (spLenC C) := by
  refine F.ok sc_Code_len (fun vs H Q E h => ?_) (fun cdv A outer s H vs Q E hr h => ?_)
  · obtain ⟨c, rs, rfl, _⟩ := h
    rfl
  · obtain ⟨c, rs, rfl, hc, k⟩ := h
    refine ⟨_, (pss_one (ps_ret (pe_callB call_len_seq (by rfl) T.g_len PySem.boot_len (pa_cons (pe_fld (pv 0) rfl) pa_nil)))), ?_⟩
    obtain ⟨dx, t, as, h1, h2, hr1⟩ := id hc
    refine ⟨_, rfl, c, C, dx, _, _, rfl, h1, cl, n1, rfl, t, _, rfl, .inr (SqT.of h2), ?_⟩
    rw [refs_len, hr1.len]
    exact k
abbrev s_Code_eq : Stmt := inClass (top 22) 4
abbrev N_Code_eq : List Str := ["self", "other"]
theorem sc_Code_eq : FnScope N_Code_eq ["self", "other"] (defScope s_Code_eq) := ⟨rfl, rfl, rfl, by decide +kernel, rfl, by decide +kernel, by decide +kernel⟩
/-- how the class of an object is told -/
structure ClsN (K : PySem.W.Frag) (C : Addr) : Prop where
  ca : PySem.W.findIn K (.ref C) "__class__" = some (some (.builtin "object.__class__"))
  cn : PySem.W.specialIn K (.builtin "object.__class__") "__get__" = some (some (.builtin "getset_descriptor.__get__"))
  ct : PySem.W.takesIn K (.builtin "object.__class__") = some true
  cm : PySem.W.mroIn K C (.type "object") = some true
  kit : PySem.W.kitOne K (.ref C) (.ref C) = some true
theorem ok_Code_eq {f C : Addr} {fd : FuncData} (F : Fun K "__eq__" "Code.__eq__" s_Code_eq f fd) (T : Glob mg) (cl : Cls K C) (nm : ClsN K C) (n1 : NoAttr K C "rows") (hC : mg "Code" = some (.ref C)) : FnOk P w K mg base CX0 1 f fd ["self", "other"] (spEqC C) := by
  refine F.ok sc_Code_eq (fun vs H Q E h => ?_) (fun cdv A outer s H vs Q E hr h => ?_)
  · obtain ⟨a, b, rs, rfl, _⟩ := h
    rfl
  · obtain ⟨a, b, rs, rfl, hA, hB, hok, k⟩ := h
    refine ⟨_, (pss_one (ps_ret (pe_and (pe_callB call_isi (by rfl) T.g_isinstance (by decide +kernel) (pa_cons (pv 1) (pa_cons (pe_glob (v := .ref C) rfl hC rfl) pa_nil))) (pe_one (pe_cmpR (op_eqD hr.units) (pe_fld (pv 0) rfl) (pe_fld (pv 1) rfl) (nomark _)))))), ?_⟩
    obtain ⟨dx, t, as, h1, h2, hr1⟩ := id hA
    obtain ⟨dy, u, bs, g1, g2, hr2⟩ := id hB
    refine ⟨_, rfl, _, _, _, _, true, rfl, .own C, .base (.ins g1 cl nm.ca nm.cn nm.ct nm.cm), nm.kit, ?_⟩
    refine ⟨true, rfl, ?_⟩
    refine ⟨_, rfl, a, C, dx, _, _, rfl, h1, cl, n1, rfl, _, rfl, b, C, dy, _, _, rfl, g1, cl, n1, rfl, ?_⟩
    refine ⟨_, _, tup_dp hr1 h2, tup_dp hr2 g2, tupD_shaped hok, tupD_shaped hok, ?_⟩
    rw [tup_eqv hok]
    exact k
end
end My

set_option Elab.async false
set_option linter.all false
set_option maxRecDepth 100000
set_option maxHeartbeats 1000000
namespace My
open PySem L2 MyR
theorem atI_in {xs : List V} {i : Int} (h0 : 0 ≤ i) (h1 : i < xs.length) : ∃ v, v ∈ xs ∧ atI xs i = some v := by
  obtain ⟨j, rfl⟩ : ∃ j : Nat, i = (j : Int) := ⟨i.toNat, by omega⟩
  have hj : j < xs.length := by omega
  exact ⟨xs[j], List.getElem_mem hj, atI_nat (List.getElem?_eq_getElem hj)⟩
theorem ix_draw {K : PySem.W.Frag} {H : Hp} {L : Addr} {xs : List V} {r : Int} {Q : VK} (h : H L = some (.lst xs)) (h0 : 0 ≤ r) (h1 : r < xs.length) (k : ∀ v ∈ xs, Q v H) : rIxL K (.ref L) (.int r) H Q := by
  obtain ⟨v, hv, e⟩ := atI_in h0 h1
  exact ⟨L, xs, r, v, rfl, rfl, SqL.of h, e, k v hv⟩
theorem pow_le {j : Nat} (h : j < 64) : (1 : Int) ≤ 2 ^ j ∧ (2 : Int) ^ j ≤ 9223372036854775808 := by
  have q : ∀ j < 64, (1 : Int) ≤ 2 ^ j ∧ (2 : Int) ^ j ≤ 9223372036854775808 := by decide +kernel
  exact q j h
theorem pow_mods {j : Nat} (h : j < 7) : (1 : Int) * 2 ^ j ∈ mods := by
  have q : ∀ j < 7, (1 : Int) * 2 ^ j ∈ mods := by decide +kernel
  exact q j h
/-! ### rows by their forms -/
theorem ok_of {w f : Str} {xs : List Int} {cs : List Nat} (hm : (w, f) ∈ forms) (hf : f.cps = cs.toArray) (hl : xs.length = cs.length) (hit : ∀ (i c : Nat) (z : Int), cs[i]? = some c → xs[i]? = some z → itOk c z) (ns : w = ("skip" : Str) → ∃ a m c n : Int, xs = [a, m, c, n] ∧ c < m) : Rw.ok ⟨w, xs⟩ :=
  ⟨⟨f, hm, by rw [hf]; simpa using hl, fun i c z hc hz => hit i c z (by rw [hf] at hc; simpa using hc) hz⟩, ns⟩
theorem ok2 {w f : Str} {a b : Int} {c0 c1 : Nat} (hm : (w, f) ∈ forms) (hf : f.cps = #[c0, c1]) (ns : w ≠ ("skip" : Str)) (h0 : itOk c0 a) (h1 : itOk c1 b) : Rw.ok ⟨w, [a, b]⟩ :=
  ok_of (cs := [c0, c1]) hm hf rfl (fun i c z hc hz => by
    match i, hc, hz with
    | 0, hc, hz => cases hc; cases hz; exact h0
    | 1, hc, hz => cases hc; cases hz; exact h1
    | i + 2, hc, hz => simp at hc) (fun e => absurd e ns)
theorem ok3 {w f : Str} {a b c : Int} {c0 c1 c2 : Nat} (hm : (w, f) ∈ forms) (hf : f.cps = #[c0, c1, c2]) (ns : w ≠ ("skip" : Str)) (h0 : itOk c0 a) (h1 : itOk c1 b) (h2 : itOk c2 c) : Rw.ok ⟨w, [a, b, c]⟩ :=
  ok_of (cs := [c0, c1, c2]) hm hf rfl (fun i c z hc hz => by
    match i, hc, hz with
    | 0, hc, hz => cases hc; cases hz; exact h0
    | 1, hc, hz => cases hc; cases hz; exact h1
    | 2, hc, hz => cases hc; cases hz; exact h2
    | i + 3, hc, hz => simp at hc) (fun e => absurd e ns)
theorem ok4 {a m c n : Int} (h0 : 0 ≤ a) (h0' : a ≤ 7) (h1 : m ∈ mods) (h2 : 0 ≤ c) (h2' : c < m) (h3 : 0 ≤ n) (h3' : n ≤ 1000) : Rw.ok ⟨"skip", [a, m, c, n]⟩ :=
  ok_of (f := "RMCN") (cs := [82, 77, 67, 78]) (by decide +kernel) (by decide +kernel) rfl (fun i cc z hc hz => by
    have hb := mods_bound m h1
    match i, hc, hz with
    | 0, hc, hz => cases hc; cases hz; unfold itOk; omega
    | 1, hc, hz => cases hc; cases hz; exact .inr (.inr (.inr (.inl ⟨rfl, h1⟩)))
    | 2, hc, hz => cases hc; cases hz; unfold itOk; omega
    | 3, hc, hz => cases hc; cases hz; unfold itOk; omega
    | i + 4, hc, hz => simp at hc) (fun _ => ⟨a, m, c, n, rfl, h2'⟩)
theorem itW {c : Nat} {z : Int} (h : c = 87 ∨ c = 82) (h0 : 0 ≤ z) (h1 : z ≤ 7) : itOk c z := .inr (.inl ⟨h, h0, h1⟩)
theorem itS {z : Int} (h0 : 0 ≤ z) (h1 : z ≤ 999) : itOk 83 z := .inr (.inr (.inl ⟨rfl, h0, h1⟩))
def spNum : Sp := fun vs H Q _ => ∃ (d l : Addr), vs = [.ref d] ∧ Deal H d l ∧
  ∀ (z : Int) (H' : Hp), -18446744073709551616 < z → z < 18446744073709551616 → Deal H' d l → Kept d l H H' → Q (.int z) H'
/-- a row that may stand at a place behind which `left` rows stand -/
def spRowL : Sp := fun vs H Q _ => ∃ (d l : Addr) (m left : Int), vs = [.ref d, .int m, .int left] ∧ Deal H d l ∧ 1 ≤ m ∧ m ≤ 8 ∧ 0 ≤ left ∧ left ≤ 900 ∧
  ∀ (q : Addr) (r : Rw) (H' : Hp), Deal H' d l → Kept d l H H' → RowAt H' r q → r.ok → r.fits left → Q (.ref q) H'
section
variable {P : Program} {w : World} {K : PySem.W.Frag} {mg : Str → Option Value} {base : Heap}
abbrev s_law_number : Stmt := top 26
abbrev N_law_number : List Str := ["_law_deal_here", "_law_form", "_law_number_here"]
theorem sc_law_number : FnScope N_law_number ["_law_deal_here"] (defScope s_law_number) := ⟨rfl, rfl, rfl, by decide +kernel, rfl, by decide +kernel, by decide +kernel⟩
theorem ok_law_number {f : Addr} {fd : FuncData} (F : Fun K "_law_number" "_law_number" s_law_number f fd) (T : Glob mg) (D_law_draw : Df P w K mg base 1 "_law_draw" ["_law_deal_here", "_law_many"] spDraw) :
    FnOk P w K mg base CX0 2 f fd ["_law_deal_here"] spNum := by
  refine F.ok sc_law_number (fun vs H Q E h => ?_) (fun cdv A outer s H vs Q E hr h => ?_)
  · obtain ⟨d, l, rfl, _⟩ := h
    rfl
  · obtain ⟨d, l, rfl, D, k⟩ := h
    have hu := hu_of hr
    have nd := sc_law_number.nd
    refine ⟨_, (pss_cons (ps_set (i := 1) nd rfl (Or.inl rfl) (pe_call D_law_draw.ok (hr.mono (by decide)) (by rfl) D_law_draw.g D_law_draw.kp D_law_draw.b .nil pass0 (pa_cons (pv 0) (pa_cons pe_int pa_nil))))
    (pss_cons (ps_set (i := 2) nd rfl (Or.inl rfl) (pe_call D_law_draw.ok (hr.mono (by decide)) (by rfl) D_law_draw.g D_law_draw.kp D_law_draw.b .nil pass0 (pa_cons (pv 0) (pa_cons pe_int pa_nil))))
    (pss_cons (ps_if (pt_cmpR op_eq (pv 1) pe_int (nomark _))
    (pss_one (ps_set (i := 2) nd rfl (Or.inl rfl) (pe_op op_sub (pe_op op_shl pe_int (pe_call D_law_draw.ok (hr.mono (by decide)) (by rfl) D_law_draw.g D_law_draw.kp D_law_draw.b .nil pass0 (pa_cons (pv 0) (pa_cons pe_int pa_nil)))) (pe_call D_law_draw.ok (hr.mono (by decide)) (by rfl) D_law_draw.g D_law_draw.kp D_law_draw.b .nil pass0 (pa_cons (pv 0) (pa_cons pe_int pa_nil))))))
    pss_nil)
    (pss_cons (ps_if (pt_cmpR op_eq (pv 1) pe_int (nomark _))
    (pss_one (ps_set (i := 2) nd rfl (Or.inl rfl) (pe_call D_law_draw.ok (hr.mono (by decide)) (by rfl) D_law_draw.g D_law_draw.kp D_law_draw.b .nil pass0 (pa_cons (pv 0) (pa_cons (pe_op op_shl pe_int pe_int) pa_nil)))))
    pss_nil)
    (pss_one (ps_ret (pe_ix ix_list (pe_lst (pa_cons (pv 2) (pa_cons (pe_op op_sub pe_int (pv 2)) pa_nil))) (pe_call D_law_draw.ok (hr.mono (by decide)) (by rfl) D_law_draw.g D_law_draw.kp D_law_draw.b .nil pass0 (pa_cons (pv 0) (pa_cons pe_int pa_nil))) (fun _ _ => rfl)))))))), ?_⟩
    refine ⟨_, rfl, d, l, _, rfl, D, by decide, by decide, fun fo H1 fo0 fo1 D1 kp1 => ?_⟩
    refine ⟨_, rfl, d, l, _, rfl, D1, by decide, by decide, fun a H2 a0 a1 D2 kp2 => ?_⟩
    dsimp only
    refine seq_by (fun σ H3 => ∃ z : Int, σ = [some (.ref d), some (.int fo), some (.int z)] ∧ 0 ≤ z ∧ z < 18446744073709551616 ∧ Deal H3 d l ∧ Kept d l H H3) (fun D' hD' => ?_) ?_
    · refine ⟨_, rfl, rfl, _, rfl, ?_⟩
      refine ite2 (fun _ => ?_) (fun _ => hD' _ _ ⟨a, rfl, a0, by omega, D2, kp1.trans kp2⟩)
      refine ⟨_, rfl, d, l, _, rfl, D2, by decide, by decide, fun b H3 b0 b1 D3 kp3 => ?_⟩
      refine ⟨_, _, rfl, rfl, ⟨by omega, by omega, by decide⟩, ?_⟩
      refine ⟨_, rfl, d, l, _, rfl, D3, by decide, by decide, fun e H4 e0 e1 D4 kp4 => ?_⟩
      have hb := pow_le (j := b.toNat) (by omega)
      exact ⟨_, _, rfl, rfl, hD' _ _ ⟨_, rfl, by omega, by omega, D4, ((kp1.trans kp2).trans kp3).trans kp4⟩⟩
    rintro σ H3 ⟨z, rfl, z0, z1, D3, kp3⟩
    refine seq_by (fun σ H4 => ∃ z : Int, σ = [some (.ref d), some (.int fo), some (.int z)] ∧ 0 ≤ z ∧ z < 18446744073709551616 ∧ Deal H4 d l ∧ Kept d l H H4) (fun D' hD' => ?_) ?_
    · refine ⟨_, rfl, rfl, _, rfl, ?_⟩
      refine ite2 (fun _ => ?_) (fun _ => hD' _ _ ⟨z, rfl, z0, z1, D3, kp3⟩)
      refine ⟨_, rfl, _, _, rfl, rfl, ⟨by decide, by decide, by decide⟩, d, l, _, rfl, D3, by decide, by decide, fun b H4 b0 b1 D4 kp4 => ?_⟩
      have e64 : (1 : Int) * 2 ^ (64 : Int).toNat = 18446744073709551616 := by decide +kernel
      rw [e64] at b1
      exact hD' _ _ ⟨b, rfl, b0, b1, D4, kp3.trans kp4⟩
    rintro σ H4 ⟨y, rfl, y0, y1, D4, kp4⟩
    refine ⟨_, rfl, _, rfl, _, _, rfl, rfl, (by show 2 ≤ sizeLine; decide), fun t ht => ?_⟩
    obtain ⟨ntd, ntl⟩ := D4.free ht
    have D5 := D4.new (o := .lst [V.int y, V.int (0 - y)]) ht
    refine ⟨_, rfl, d, l, _, rfl, D5, by decide, by decide, fun j H6 j0 j1 D6 kp6 => ?_⟩
    have h6 : H6 t = some (.lst [V.int y, V.int (0 - y)]) := kp6 _ _ upd_same ntd ntl
    have kp : Kept d l H H6 := (kp4.new (kp4.free D4 ht)).trans kp6
    refine ix_draw h6 j0 j1 (fun v hv => ?_)
    have hv' : v = V.int y ∨ v = V.int (0 - y) := by simpa using hv
    rcases hv' with rfl | rfl
    · exact k y H6 (by omega) (by omega) D6 kp
    · exact k (0 - y) H6 (by omega) (by omega) D6 kp
abbrev s_law_row : Stmt := top 27
abbrev N_law_row : List Str := ["_law_deal_here", "_law_registers", "_law_left", "_law_words", "_law_word", "_law_r", "_law_a", "_law_b", "_law_turn", "_law_modulus"]
theorem sc_law_row : FnScope N_law_row ["_law_deal_here", "_law_registers", "_law_left"] (defScope s_law_row) := ⟨rfl, rfl, rfl, by decide +kernel, rfl, by decide +kernel, by decide +kernel⟩
def wordsL : List Str := ["set", "copy", "add", "sub", "mul", "add", "mul", "left", "right", "right", "load", "store", "skip"]
theorem word_cases : ∀ z ∈ wordsL, z = ("set" : Str) ∨ (z = ("copy" : Str) ∨ z = ("left" : Str) ∨ z = ("right" : Str)) ∨ z = ("load" : Str) ∨ z = ("store" : Str) ∨ z = ("skip" : Str) ∨ (z = ("add" : Str) ∨ z = ("sub" : Str) ∨ z = ("mul" : Str)) := by decide +kernel
def two : List Str := ["copy", "left", "right"]
theorem inV_strs (z : Str) (zs : List Str) : inV (.str z) (zs.map V.str) = true ↔ z ∈ zs := by
  unfold inV
  rw [List.any_map, List.any_eq_true]
  constructor
  · rintro ⟨y, hy, e⟩
    have e' : (y == z) = true := e
    rw [← beq_iff_eq.mp e']
    exact hy
  · intro h
    exact ⟨z, h, by show (z == z) = true; exact beq_self_eq_true z⟩
theorem ok_law_row {f : Addr} {fd : FuncData} (F : Fun K "_law_row" "_law_row" s_law_row f fd) (T : Glob mg) (D_law_draw : Df P w K mg base 1 "_law_draw" ["_law_deal_here", "_law_many"] spDraw) (D_law_number : Df P w K mg base 2 "_law_number" ["_law_deal_here"] spNum) :
    FnOk P w K mg base CX0 3 f fd ["_law_deal_here", "_law_registers", "_law_left"] spRowL := by
  refine F.ok sc_law_row (fun vs H Q E h => ?_) (fun cdv A outer s H vs Q E hr h => ?_)
  · obtain ⟨d, l, m, left, rfl, _⟩ := h
    rfl
  · obtain ⟨d, l, m, left, rfl, D, m1, m8, l0, l9, k⟩ := h
    have hu := hu_of hr
    have nd := sc_law_row.nd
    refine ⟨_, (pss_cons (ps_set (i := 3) nd rfl (Or.inl rfl) (pe_tup (pa_cons pe_str (pa_cons pe_str (pa_cons pe_str (pa_cons pe_str (pa_cons pe_str (pa_cons pe_str (pa_cons pe_str (pa_cons pe_str (pa_cons pe_str (pa_cons pe_str (pa_cons pe_str (pa_cons pe_str (pa_cons pe_str pa_nil)))))))))))))))
    (pss_cons (ps_set (i := 4) nd rfl (Or.inl rfl) (pe_ix ix_tup (pv 3) (pe_call D_law_draw.ok (hr.mono (by decide)) (by rfl) D_law_draw.g D_law_draw.kp D_law_draw.b .nil pass0 (pa_cons (pv 0) (pa_cons pe_int pa_nil))) (fun _ _ => rfl)))
    (pss_cons (ps_asg (pe_lc (own := [("_law_turn", 8)]) (g := gName 8) (tt := tYes) rfl nd (pi_range1 (by rfl) T.g_range (pa_cons pe_int pa_nil)) (blkOk_by (N := N_law_row) (sc := defScope s_law_row) (by decide +kernel)) (fun _ _ _ _ _ => pg_name (i := 8) nd rfl (Or.inl rfl)) (fun _ _ _ _ _ => pts_nil) (fun _ _ _ _ _ => (pe_call D_law_draw.ok (hr.mono (by decide)) (by rfl) D_law_draw.g D_law_draw.kp D_law_draw.b .nil pass0 (pa_cons (pv 0) (pa_cons (pv 1) pa_nil))))) (pg_unl (by rfl) (pgs_cons (pg_name (i := 5) nd rfl (Or.inl rfl)) (pgs_cons (pg_name (i := 6) nd rfl (Or.inl rfl)) (pgs_cons (pg_name (i := 7) nd rfl (Or.inl rfl)) pgs_nil)))))
    (pss_cons (ps_if (pt_cmpR op_eq (pv 4) pe_str (nomark _))
    (pss_one (ps_ret (pe_tup (pa_cons (pv 4) (pa_cons (pv 5) (pa_cons (pe_call D_law_number.ok (hr.mono (by decide)) (by rfl) D_law_number.g D_law_number.kp D_law_number.b .nil pass0 (pa_cons (pv 0) pa_nil)) pa_nil))))))
    pss_nil)
    (pss_cons (ps_if (pt_cmpR op_in_seq (pv 4) (pe_tup (pa_cons pe_str (pa_cons pe_str (pa_cons pe_str pa_nil)))) (by rfl))
    (pss_one (ps_ret (pe_tup (pa_cons (pv 4) (pa_cons (pv 5) (pa_cons (pv 6) pa_nil))))))
    pss_nil)
    (pss_cons (ps_if (pt_cmpR op_eq (pv 4) pe_str (nomark _))
    (pss_one (ps_ret (pe_tup (pa_cons (pv 4) (pa_cons (pv 5) (pa_cons (pe_ix ix_list (pe_lst (pa_cons pe_int (pa_cons pe_int (pa_cons pe_int pa_nil)))) (pe_call D_law_draw.ok (hr.mono (by decide)) (by rfl) D_law_draw.g D_law_draw.kp D_law_draw.b .nil pass0 (pa_cons (pv 0) (pa_cons pe_int pa_nil))) (fun _ _ => rfl)) pa_nil))))))
    pss_nil)
    (pss_cons (ps_if (pt_cmpR op_eq (pv 4) pe_str (nomark _))
    (pss_one (ps_ret (pe_tup (pa_cons (pv 4) (pa_cons (pe_ix ix_list (pe_lst (pa_cons pe_int (pa_cons pe_int (pa_cons pe_int pa_nil)))) (pe_call D_law_draw.ok (hr.mono (by decide)) (by rfl) D_law_draw.g D_law_draw.kp D_law_draw.b .nil pass0 (pa_cons (pv 0) (pa_cons pe_int pa_nil))) (fun _ _ => rfl)) (pa_cons (pv 6) pa_nil))))))
    pss_nil)
    (pss_cons (ps_if (pt_cmpR op_eq (pv 4) pe_str (nomark _))
    (pss_cons (ps_set (i := 9) nd rfl (Or.inl rfl) (pe_op op_shl pe_int (pe_call D_law_draw.ok (hr.mono (by decide)) (by rfl) D_law_draw.g D_law_draw.kp D_law_draw.b .nil pass0 (pa_cons (pv 0) (pa_cons pe_int pa_nil)))))
    (pss_one (ps_ret (pe_tup (pa_cons (pv 4) (pa_cons (pv 6) (pa_cons (pv 9) (pa_cons (pe_call D_law_draw.ok (hr.mono (by decide)) (by rfl) D_law_draw.g D_law_draw.kp D_law_draw.b .nil pass0 (pa_cons (pv 0) (pa_cons (pv 9) pa_nil))) (pa_cons (pe_call D_law_draw.ok (hr.mono (by decide)) (by rfl) D_law_draw.g D_law_draw.kp D_law_draw.b .nil pass0 (pa_cons (pv 0) (pa_cons (pe_op op_add (pv 2) pe_int) pa_nil))) pa_nil)))))))))
    pss_nil)
    (pss_one (ps_ret (pe_tup (pa_cons (pv 4) (pa_cons (pv 5) (pa_cons (pv 6) (pa_cons (pv 7) pa_nil))))))))))))))), ?_⟩
    refine ⟨(by show 13 ≤ sizeLine; decide), fun t ht => ?_⟩
    obtain ⟨ntd, ntl⟩ := D.free ht
    have D1 := D.new (o := .tup (wordsL.map V.str)) ht
    refine ⟨_, rfl, _, rfl, d, l, _, rfl, D1, by decide, by decide, fun wi H1 w0 w1 D2 kp2 => ?_⟩
    have ht1 : H1 t = some (.tup (wordsL.map V.str)) := kp2 _ _ upd_same ntd ntl
    have kpA : Kept d l H H1 := (Kept.refl.new ht).trans kp2
    obtain ⟨v, hv, hat⟩ := atI_in (xs := wordsL.map V.str) w0 (by show wi < (13 : Int); exact w1)
    obtain ⟨z, hz, rfl⟩ := List.mem_map.mp hv
    have hz := word_cases z hz
    refine ⟨t, _, _, _, rfl, rfl, SqT.of ht1, hat, ?_⟩
    -- three registers
    refine ⟨3, rfl, by decide, by decide, fun L hL => ?_⟩
    obtain ⟨nLd, nLl⟩ := D2.free hL
    refine lc_range (lo := 0) (n := 3) (fun i H2 => ∃ rs : List Int, H2 L = some (.lst (rs.map V.int)) ∧ rs.length = i ∧ (∀ r ∈ rs, 0 ≤ r ∧ r ≤ 7) ∧ Deal H2 d l ∧ Kept d l H H2) ⟨[], upd_same, rfl, fun r h => (nomatch h), D2.new hL, kpA.new (kpA.free D2 hL)⟩ ?_ ?_
    · rintro i H2 hi ⟨rs, h2, hl2, hrs, D3, kp3⟩
      refine ⟨rfl, ?_⟩
      refine ⟨_, rfl, _, rfl, d, l, _, rfl, D3, by omega, by omega, fun x H3 x0 x1 D4 kp4 => ?_⟩
      refine ⟨rs.map V.int, kp4 _ _ h2 nLd nLl, by rw [List.length_map]; exact small1000 (by omega), rs ++ [x], ?_, by rw [List.length_append, hl2]; rfl, fun r hr => ?_, D4.other nLd nLl, (kp3.trans kp4).new (kpA.free D2 hL)⟩
      · rw [upd_same, List.map_append]
        rfl
      · rcases List.mem_append.mp hr with h | h
        · exact hrs r h
        · rw [List.mem_singleton.mp h]
          omega
    rintro H2 ⟨rs, h2, hl2, hrs, D3, kp3⟩
    obtain ⟨x, a, b, rfl⟩ : ∃ x a b, rs = [x, a, b] := by
      match rs, hl2 with
      | [x, a, b], _ => exact ⟨x, a, b, rfl⟩
    have hx := hrs x (by simp)
    have ha := hrs a (by simp)
    have hb := hrs b (by simp)
    refine ⟨L, _, rfl, SqL.of h2, rfl, _, _, rfl, _, _, rfl, _, _, rfl, rfl, ?_⟩
    -- a new row
    have fin : ∀ (H3 : Hp) (r : Rw), Deal H3 d l → Kept d l H H3 → r.ok → r.fits left → ∀ q, H3 q = none → Q (.ref q) (upd H3 q (.tup r.vs)) := fun H3 r D4 kp4 ok hf q hq => k q r _ (D4.new hq) (kp4.new (kp4.free D4 hq)) upd_same ok hf
    have nofit : ∀ {w : Str} {xs : List Int}, w ≠ ("skip" : Str) → Rw.fits ⟨w, xs⟩ left := fun h e => absurd e h
    refine ⟨_, rfl, rfl, _, rfl, ?_⟩
    refine ite2 (fun h => ?_) (fun n1 => ?_)
    · obtain rfl := V.str.inj (of_decide_eq_true h)
      refine ⟨_, rfl, _, rfl, _, rfl, d, l, rfl, D3, fun n H3 n0 n1 D4 kp4 => ?_⟩
      refine ⟨(by show 3 ≤ sizeLine; decide), fin H3 ⟨"set", [x, n]⟩ D4 (kp3.trans kp4) (ok2 (f := "WI") (c0 := 87) (c1 := 73) (by decide +kernel) (by decide +kernel) (by decide +kernel) (itW (.inl rfl) hx.1 hx.2) (.inl ⟨rfl, n0, n1⟩)) (nofit (by decide +kernel))⟩
    have n1 : ¬ z = ("set" : Str) := fun e => n1 (decide_eq_true (by rw [e]))
    refine ⟨_, rfl, (by show 3 ≤ sizeLine; decide), fun u hu0 => ?_⟩
    have D4 := D3.new (o := .tup (two.map V.str)) hu0
    have kp4 : Kept d l H (upd H2 u (.tup (two.map V.str))) := kp3.new (kp3.free D3 hu0)
    refine ⟨u, _, rfl, .inr (SqT.of upd_same), rfl, by rfl, _, rfl, ?_⟩
    refine ite2 (fun h => ?_) (fun n2 => ?_)
    · have h := (inV_strs z two).mp h
      have h : z = ("copy" : Str) ∨ z = ("left" : Str) ∨ z = ("right" : Str) := by simpa [two] using h
      refine ⟨_, rfl, _, rfl, _, rfl, (by show 3 ≤ sizeLine; decide), ?_⟩
      have go : ∀ w : Str, (w, ("WR" : Str)) ∈ forms → w ≠ ("skip" : Str) → ∀ q, upd H2 u (.tup (two.map V.str)) q = none → Q (.ref q) (upd (upd H2 u (.tup (two.map V.str))) q (.tup (Rw.vs ⟨w, [x, a]⟩))) := fun w hm ns =>
        fin _ ⟨w, [x, a]⟩ D4 kp4 (ok2 (f := "WR") (c0 := 87) (c1 := 82) hm (by decide +kernel) ns (itW (.inl rfl) hx.1 hx.2) (itW (.inr rfl) ha.1 ha.2)) (nofit ns)
      rcases h with rfl | rfl | rfl
      · exact go "copy" (by decide +kernel) (by decide +kernel)
      · exact go "left" (by decide +kernel) (by decide +kernel)
      · exact go "right" (by decide +kernel) (by decide +kernel)
    have n2 : ¬ (z = ("copy" : Str) ∨ z = ("left" : Str) ∨ z = ("right" : Str)) := fun e => n2 ((inV_strs z two).mpr (by simpa [two] using e))
    refine ⟨_, rfl, rfl, _, rfl, ?_⟩
    refine ite2 (fun h => ?_) (fun n3 => ?_)
    · obtain rfl := V.str.inj (of_decide_eq_true h)
      refine ⟨_, rfl, _, rfl, (by show 3 ≤ sizeLine; decide), fun t2 ht2 => ?_⟩
      obtain ⟨nad, nal⟩ := D4.free ht2
      have D5 := D4.new (o := .lst ([0, 7, 999].map V.int)) ht2
      have kp5 := kp4.new (o := .lst ([0, 7, 999].map V.int)) (kp4.free D4 ht2)
      refine ⟨_, rfl, d, l, _, rfl, D5, by decide, by decide, fun j H6 j0 j1 D6 kp6 => ?_⟩
      refine ix_draw (xs := [0, 7, 999].map V.int) (kp6 _ _ upd_same nad nal) j0 j1 (fun v hv => ?_)
      obtain ⟨s0, hs0, rfl⟩ := List.mem_map.mp hv
      have hs : 0 ≤ s0 ∧ s0 ≤ 999 := by
        have q : ∀ s ∈ ([0, 7, 999] : List Int), 0 ≤ s ∧ s ≤ 999 := by decide
        exact q s0 hs0
      exact ⟨(by show 3 ≤ sizeLine; decide), fin H6 ⟨"load", [x, s0]⟩ D6 (kp5.trans kp6) (ok2 (f := "WS") (c0 := 87) (c1 := 83) (by decide +kernel) (by decide +kernel) (by decide +kernel) (itW (.inl rfl) hx.1 hx.2) (itS hs.1 hs.2)) (nofit (by decide +kernel))⟩
    have n3 : ¬ z = ("load" : Str) := fun e => n3 (decide_eq_true (by rw [e]))
    refine ⟨_, rfl, rfl, _, rfl, ?_⟩
    refine ite2 (fun h => ?_) (fun n4 => ?_)
    · obtain rfl := V.str.inj (of_decide_eq_true h)
      refine ⟨_, rfl, (by show 3 ≤ sizeLine; decide), fun t2 ht2 => ?_⟩
      obtain ⟨nad, nal⟩ := D4.free ht2
      have D5 := D4.new (o := .lst ([0, 7, 999].map V.int)) ht2
      have kp5 := kp4.new (o := .lst ([0, 7, 999].map V.int)) (kp4.free D4 ht2)
      refine ⟨_, rfl, d, l, _, rfl, D5, by decide, by decide, fun j H6 j0 j1 D6 kp6 => ?_⟩
      refine ix_draw (xs := [0, 7, 999].map V.int) (kp6 _ _ upd_same nad nal) j0 j1 (fun v hv => ?_)
      obtain ⟨s0, hs0, rfl⟩ := List.mem_map.mp hv
      have hs : 0 ≤ s0 ∧ s0 ≤ 999 := by
        have q : ∀ s ∈ ([0, 7, 999] : List Int), 0 ≤ s ∧ s ≤ 999 := by decide
        exact q s0 hs0
      exact ⟨_, rfl, (by show 3 ≤ sizeLine; decide), fin H6 ⟨"store", [s0, a]⟩ D6 (kp5.trans kp6) (ok2 (f := "SR") (c0 := 83) (c1 := 82) (by decide +kernel) (by decide +kernel) (by decide +kernel) (itS hs.1 hs.2) (itW (.inr rfl) ha.1 ha.2)) (nofit (by decide +kernel))⟩
    have n4 : ¬ z = ("store" : Str) := fun e => n4 (decide_eq_true (by rw [e]))
    refine ⟨_, rfl, rfl, _, rfl, ?_⟩
    refine ite2 (fun h => ?_) (fun n5 => ?_)
    · obtain rfl := V.str.inj (of_decide_eq_true h)
      refine ⟨_, rfl, d, l, _, rfl, D4, by decide, by decide, fun j H5 j0 j1 D5 kp5 => ?_⟩
      refine ⟨_, _, rfl, rfl, ⟨by omega, by omega, by decide⟩, ?_⟩
      have hm := pow_mods (j := j.toNat) (by omega)
      have hmb := mods_bound _ hm
      refine ⟨_, rfl, _, rfl, _, rfl, _, rfl, _, rfl, d, l, _, rfl, D5, by omega, by omega, fun c H6 c0 c1 D6 kp6 => ?_⟩
      refine ⟨_, rfl, _, rfl, _, _, rfl, rfl, d, l, _, rfl, D6, by omega, by omega, fun n H7 n0 n1 D7 kp7 => ?_⟩
      exact ⟨(by show 5 ≤ sizeLine; decide), fin H7 ⟨"skip", [a, 1 * 2 ^ j.toNat, c, n]⟩ D7 (((kp4.trans kp5).trans kp6).trans kp7) (ok4 ha.1 ha.2 hm c0 c1 n0 (by omega)) (fun _ => ⟨_, _, _, n, rfl, by omega⟩)⟩
    have n5 : ¬ z = ("skip" : Str) := fun e => n5 (decide_eq_true (by rw [e]))
    refine ⟨_, rfl, _, rfl, _, rfl, _, rfl, (by show 4 ≤ sizeLine; decide), ?_⟩
    have go : ∀ w : Str, (w, ("WRR" : Str)) ∈ forms → w ≠ ("skip" : Str) → ∀ q, upd H2 u (.tup (two.map V.str)) q = none → Q (.ref q) (upd (upd H2 u (.tup (two.map V.str))) q (.tup (Rw.vs ⟨w, [x, a, b]⟩))) := fun w hm ns =>
      fin _ ⟨w, [x, a, b]⟩ D4 kp4 (ok3 (f := "WRR") (c0 := 87) (c1 := 82) (c2 := 82) hm (by decide +kernel) ns (itW (.inl rfl) hx.1 hx.2) (itW (.inr rfl) ha.1 ha.2) (itW (.inr rfl) hb.1 hb.2)) (nofit ns)
    rcases hz with h | h | h | h | h | h | h | h
    · exact absurd h n1
    · exact absurd h n2
    · exact absurd h n3
    · exact absurd h n4
    · exact absurd h n5
    · subst h; exact go "add" (by decide +kernel) (by decide +kernel)
    · subst h; exact go "sub" (by decide +kernel) (by decide +kernel)
    · subst h; exact go "mul" (by decide +kernel) (by decide +kernel)
end
end My

set_option Elab.async false
set_option linter.all false
set_option maxRecDepth 100000
set_option maxHeartbeats 1000000
namespace My
open PySem L2 MyR
theorem cut_front (a b : List V) (k : Nat) (hk : a.length = k) : cutV (a ++ b) none (some (k : Int)) = a := by
  unfold cutV
  rw [HT.sIx_nat]
  show ((a ++ b).drop 0).take (min k (a ++ b).length - 0) = a
  rw [List.drop_zero, List.length_append, Nat.sub_zero, show min k (a.length + b.length) = a.length by omega, List.take_left]
theorem not_whole_front (a b : List V) (k : Nat) (hk : a.length = k) (hb : b ≠ []) : ¬ (HT.sIx (a ++ b).length 0 none = 0 ∧ HT.sIx (a ++ b).length (a ++ b).length (some (k : Int)) = (a ++ b).length) := by
  rintro ⟨_, h⟩
  rw [HT.sIx_nat, List.length_append] at h
  have : 0 < b.length := List.length_pos_iff.mpr hb
  omega
/-- the rows without one, a new list -/
def spLeft : Sp := fun vs H Q _ => ∃ (L : Addr) (rs : List Rw) (g : Nat), vs = [.ref L, .int (g : Int)] ∧ LstAt H rs L ∧ RsOk rs ∧ rs.length ≤ 900 ∧ ∀ (q : Addr) H', H q = none → Same H H' → LstAt H' (out rs g) q → Q (.ref q) H'
section
variable {P : Program} {w : World} {K : PySem.W.Frag} {mg : Str → Option Value} {base : Heap}
abbrev s_law_left_out : Stmt := top 28
abbrev N_law_left_out : List Str := ["_law_rows", "_law_at", "_law_found", "_law_place", "_law_row_here"]
theorem sc_law_left_out : FnScope N_law_left_out ["_law_rows", "_law_at"] (defScope s_law_left_out) := ⟨rfl, rfl, rfl, by decide +kernel, rfl, by decide +kernel, by decide +kernel⟩
theorem ok_law_left_out {f : Addr} {fd : FuncData} (F : Fun K "_law_left_out" "_law_left_out" s_law_left_out f fd) (T : Glob mg) : FnOk P w K mg base CX0 1 f fd ["_law_rows", "_law_at"] spLeft := by
  refine F.ok sc_law_left_out (fun vs H Q E h => ?_) (fun cdv A outer s H vs Q E hr h => ?_)
  · obtain ⟨L, rs, g, rfl, _⟩ := h
    rfl
  · obtain ⟨L, rs, g, rfl, ⟨as, hL, hr1⟩, hok, hlen, k⟩ := h
    have hu := hu_of hr
    have nd := sc_law_left_out.nd
    refine ⟨_, (pss_cons (ps_set (i := 2) nd rfl (Or.inl rfl) (pe_lst pa_nil))
    (pss_cons (ps_for PassesOwn.never rfl (pi_range1 (by rfl) T.g_range (pa_cons (pe_callB call_len_seq (by rfl) T.g_len PySem.boot_len (pa_cons (pv 0) pa_nil)) pa_nil)) (pg_name (i := 3) nd rfl (Or.inl rfl))
    (pss_cons (ps_set (i := 4) nd rfl (Or.inl rfl) (pe_ix ix_list (pv 0) (pv 3) (fun _ _ => rfl)))
    (pss_cons (ps_if (PW.pt (pw_and (pt_cmpR op_eq (pe_ix ix_tup (pv 4) pe_int (fun _ _ => rfl)) pe_str (nomark _)) (pw_and1 (pt_chain op_lt op_le (pv 3) (pv 1) (pe_op op_add (pv 3) (pe_ix ix_tup (pv 4) pe_int (fun _ _ => rfl)))))))
    (pss_one (ps_set (i := 4) nd rfl (Or.inl rfl) (pe_op op_catT (pe_slice sl_tup (pv 4) po_none (po_some pe_int)) (pe_tup (pa_cons (pe_op op_sub (pe_ix ix_tup (pv 4) pe_int (fun _ _ => rfl)) pe_int) pa_nil)))))
    pss_nil)
    (pss_one (ps_if (pt_cmpR op_ne (pv 3) (pv 1) (nomark _))
    (pss_one (ps_expr (pe_bm PySem.F.plainAttrs_list PySem.F.slot_list_append PySem.F.type_list_append mt_append (pv 2) (pa_cons (pv 4) pa_nil))))
    pss_nil)))))
    (pss_one (ps_ret (pv 2))))), ?_⟩
    have hrl : (refs as).length = rs.length := by rw [refs_len]; exact hr1.len
    refine ⟨by show 0 ≤ sizeLine; decide, fun D hD => ?_⟩
    have nLD : L ≠ D := ne_of_none hL hD
    refine ⟨_, rfl, L, _, rfl, .inl (SqL.of (by rw [upd_ne nLD]; exact hL)), (rs.length : Int), by rw [hrl], by omega, by omega, ?_⟩
    rw [Int.toNat_natCast]
    refine for_range (lo := 0) (n := rs.length) (fun i σ H1 => ∃ b c : Option V, σ = [some (.ref L), some (.int (g : Int)), some (.ref D), b, c] ∧ Same H H1 ∧ ∃ bs, H1 D = some (.lst (refs bs)) ∧ RowsAt H1 (outTo rs g i) bs)
      ⟨none, none, rfl, new_same hD, [], upd_same, by unfold outTo; rw [if_pos (Nat.zero_le _)]; exact RowsAt.nil⟩ ?_ ?_
    · rintro i σ H1 hi ⟨b, c, rfl, sm, bs, hb, hrb⟩
      have hri : rs[i]? = some rs[i] := List.getElem?_eq_getElem hi
      obtain ⟨q, e1, e2⟩ := hr1.at_ i rs[i] hri
      have e2 := e2.same sm
      have h0i : (0 : Int) + (i : Int) = (i : Int) := by omega
      rw [h0i]
      refine ⟨_, rfl, _, rfl, L, _, _, .ref q, rfl, rfl, SqL.of (sm _ _ hL), atI_nat (refs_at e1), ?_⟩
      have oki := (hok i _ hri).1
      have sq0 : SqT K H1 q rs[i].vs := SqT.of e2
      dsimp only
      refine seq_by (fun σ H2 => ∃ q2, σ = [some (.ref L), some (.int (g : Int)), some (.ref D), some (.int (i : Int)), some (.ref q2)] ∧ Same H H2 ∧ H2 D = some (.lst (refs bs)) ∧ RowsAt H2 (outTo rs g i) bs ∧ RowAt H2 (rs[i].short (i : Int) (g : Int)) q2) (fun D' hD' => ?_) ?_
      · refine ⟨_, rfl, q, _, _, .str rs[i].w, rfl, rfl, sq0, atI_nat (j := 0) rfl, rfl, _, rfl, ?_⟩
        refine ite2 (fun hs => ?_) (fun hs => ?_)
        · have hs := V.str.inj (of_decide_eq_true hs)
          obtain ⟨a, m, cc, n, ex, hcm⟩ := oki.2 hs
          have evs : rs[i].vs = [.str rs[i].w, .int a, .int m, .int cc, .int n] := by unfold Rw.vs; rw [ex]; rfl
          rw [evs] at sq0
          refine ⟨_, rfl, _, rfl, _, _, rfl, rfl, _, rfl, ?_⟩
          refine ite2 (fun h1 => ?_) (fun h1 => ?_)
          · have h1 := of_decide_eq_true h1
            refine ⟨_, rfl, _, rfl, q, _, _, .int n, rfl, rfl, sq0, atI_nat (j := 4) rfl, _, _, rfl, rfl, _, _, rfl, rfl, _, rfl, ?_⟩
            refine ite2 (fun h2 => ?_) (fun h2 => ?_)
            · have h2 := of_decide_eq_true h2
              refine ⟨_, rfl, _, rfl, q, _, rfl, sq0, not_whole_front [.str rs[i].w, .int a, .int m, .int cc] [.int n] 4 rfl (by simp), fun u hu0 => ?_⟩
              rw [show cutV [V.str rs[i].w, .int a, .int m, .int cc, .int n] none (some 4) = [.str rs[i].w, .int a, .int m, .int cc] from cut_front [.str rs[i].w, .int a, .int m, .int cc] [.int n] 4 rfl]
              have s1 := new_same (o := .tup [.str rs[i].w, .int a, .int m, .int cc]) hu0
              have sq1 : SqT K (upd H1 u (.tup [.str rs[i].w, .int a, .int m, .int cc])) q [.str rs[i].w, .int a, .int m, .int cc, .int n] := SqT.of (s1 _ _ (by rw [← evs]; exact e2))
              refine ⟨_, rfl, q, _, _, .int n, rfl, rfl, sq1, atI_nat (j := 4) rfl, _, _, rfl, rfl, (by show 1 ≤ sizeLine; decide), fun u2 hu2 => ?_⟩
              have s2 := new_same (o := .tup [.int (n - 1)]) hu2
              refine ⟨u, u2, _, _, rfl, rfl, SqT.of (s2 _ _ upd_same), SqT.of upd_same, by simp, (by show 4 + 1 ≤ sizeLine; decide), fun e => absurd e (by simp), fun _ u3 hu3 => ?_⟩
              have s3 := new_same (o := .tup ([.str rs[i].w, .int a, .int m, .int cc] ++ [.int (n - 1)])) hu3
              have sA := (s1.trans s2).trans s3
              refine hD' _ _ ⟨u3, rfl, sm.trans sA, sA _ _ hb, hrb.same sA, ?_⟩
              rw [short_skip ex hs h1 h2]
              exact upd_same
            · refine hD' _ _ ⟨q, rfl, sm, hb, hrb, ?_⟩
              rw [short_far ex (fun z => h2 (decide_eq_true z.2))]
              exact e2
          · refine ⟨_, rfl, ?_⟩
            refine hD' _ _ ⟨q, rfl, sm, hb, hrb, ?_⟩
            rw [short_far ex (fun z => h1 (decide_eq_true z.1))]
            exact e2
        · refine iteF ?_
          refine hD' _ _ ⟨q, rfl, sm, hb, hrb, ?_⟩
          rw [short_other (fun e => hs (decide_eq_true (by rw [e])))]
          exact e2
      · rintro σ H2 ⟨q2, rfl, sm2, hb2, hrb2, hq2⟩
        refine ⟨_, rfl, _, rfl, rfl, _, rfl, ?_⟩
        refine ite2 (fun hn => ?_) (fun hn => ?_)
        · have hig : i ≠ g := by
            intro e
            subst e
            rw [decide_eq_true rfl] at hn
            cases hn
          refine ⟨_, rfl, .inl ⟨rfl, _, SqL.of hb2⟩, _, rfl, D, _, _, rfl, rfl, hb2, ?_, ?_⟩
          · rw [refs_len, hrb2.len]
            unfold outTo
            rw [List.length_map, List.length_range]
            refine small1000 ?_
            split <;> omega
          · refine ⟨_, _, rfl, fun b' o e => ?_, bs ++ [q2], ?_, ?_⟩
            · rw [upd_ne (ne_of_none e hD)]
              exact sm2 _ _ e
            · rw [upd_same]
              unfold refs
              rw [List.map_append]
              rfl
            · rw [outTo_step hig hri]
              exact (hrb2.snoc hq2).upd hb2
        · have hig : i = g := by
            by_cases e : i = g
            · exact e
            · exact absurd (by rw [decide_eq_false (fun z => e (Int.ofNat_inj.mp (V.int.inj z)))]; rfl) hn
          subst hig
          refine ⟨_, _, rfl, sm2, bs, hb2, ?_⟩
          rw [outTo_gone]
          exact hrb2
    · rintro σ H1 ⟨b, c, rfl, sm, bs, hb, hrb⟩
      exact ⟨_, rfl, k D H1 hD sm ⟨bs, hb, hrb⟩⟩
end
end My

set_option Elab.async false
set_option linter.all false
set_option maxRecDepth 100000
set_option maxHeartbeats 1000000
namespace My
open PySem L2 MyR
theorem form_of : ∀ p ∈ forms, (p.1 = ("load" : Str) → p.2.cps = #[87, 83]) ∧ (p.1 = ("store" : Str) → p.2.cps = #[83, 82]) ∧ (p.1 = ("skip" : Str) → p.2.cps = #[82, 77, 67, 78]) := by decide +kernel
theorem load_xs {r : Rw} (h : r.ok) (hw : r.w = ("load" : Str)) : ∃ a s, r.xs = [a, s] ∧ itOk 87 a := by
  obtain ⟨⟨f, hf, hl, hit⟩, _⟩ := h
  have hc := (form_of _ hf).1 hw
  have e : f.cps = #[87, 83] := hc
  rw [e] at hl hit
  match hx : r.xs, hl with
  | [a, s], _ => exact ⟨a, s, rfl, hit 0 87 a rfl (by rw [hx]; rfl)⟩
theorem store_xs {r : Rw} (h : r.ok) (hw : r.w = ("store" : Str)) : ∃ s a, r.xs = [s, a] ∧ itOk 82 a := by
  obtain ⟨⟨f, hf, hl, hit⟩, _⟩ := h
  have e : f.cps = #[83, 82] := (form_of _ hf).2.1 hw
  rw [e] at hl hit
  match hx : r.xs, hl with
  | [s, a], _ => exact ⟨s, a, rfl, hit 1 82 a rfl (by rw [hx]; rfl)⟩
theorem skip_xs {r : Rw} (h : r.ok) (hw : r.w = ("skip" : Str)) : ∃ a m c n, r.xs = [a, m, c, n] ∧ itOk 82 a ∧ itOk 78 n := by
  obtain ⟨⟨f, hf, hl, hit⟩, _⟩ := h
  have e : f.cps = #[82, 77, 67, 78] := (form_of _ hf).2.2 hw
  rw [e] at hl hit
  match hx : r.xs, hl with
  | [a, m, c, n], _ => exact ⟨a, m, c, n, rfl, hit 0 82 a rfl (by rw [hx]; rfl), hit 3 78 n rfl (by rw [hx]; rfl)⟩
/-- drawn rows, a new list -/
def spRows : Sp := fun vs H Q _ => ∃ (d l : Addr) (n : Nat), vs = [.ref d, .int 8, .int (n : Int)] ∧ Deal H d l ∧ n ≤ 900 ∧
  ∀ (q : Addr) (rs : List Rw) (H' : Hp), H q = none → Deal H' d l → Kept d l H H' → LstAt H' rs q → RsOk rs → rs.length = n → Q (.ref q) H'
section
variable {P : Program} {w : World} {K : PySem.W.Frag} {mg : Str → Option Value} {base : Heap}
abbrev s_law_far_row : Stmt := top 29
abbrev N_law_far_row : List Str := ["_law_deal_here", "_law_registers", "_law_left", "_law_row_here", "_law_modulus"]
theorem sc_law_far_row : FnScope N_law_far_row ["_law_deal_here", "_law_registers", "_law_left"] (defScope s_law_far_row) := ⟨rfl, rfl, rfl, by decide +kernel, rfl, by decide +kernel, by decide +kernel⟩
theorem ok_law_far_row {f : Addr} {fd : FuncData} (F : Fun K "_law_far_row" "_law_far_row" s_law_far_row f fd) (T : Glob mg) (D_law_draw : Df P w K mg base 1 "_law_draw" ["_law_deal_here", "_law_many"] spDraw)
    (D_law_row : Df P w K mg base 3 "_law_row" ["_law_deal_here", "_law_registers", "_law_left"] spRowL) : FnOk P w K mg base CX0 4 f fd ["_law_deal_here", "_law_registers", "_law_left"] spRowL := by
  refine F.ok sc_law_far_row (fun vs H Q E h => ?_) (fun cdv A outer s H vs Q E hr h => ?_)
  · obtain ⟨d, l, m, left, rfl, _⟩ := h
    rfl
  · obtain ⟨d, l, m, left, rfl, D, m1, m8, l0, l9, k⟩ := h
    have hu := hu_of hr
    have nd := sc_law_far_row.nd
    refine ⟨_, (pss_cons (ps_set (i := 3) nd rfl (Or.inl rfl) (pe_call D_law_row.ok (hr.mono (by decide)) (by rfl) D_law_row.g D_law_row.kp D_law_row.b .nil pass0 (pa_cons (pv 0) (pa_cons (pv 1) (pa_cons (pv 2) pa_nil)))))
    (pss_cons (ps_if (pt_cmpR op_eq (pe_ix ix_tup (pv 3) pe_int (fun _ _ => rfl)) pe_str (nomark _))
    (pss_one (ps_ret (pe_op op_catT (pe_slice sl_tup (pv 3) po_none (po_some pe_int)) (pe_tup (pa_cons (pe_call D_law_draw.ok (hr.mono (by decide)) (by rfl) D_law_draw.g D_law_draw.kp D_law_draw.b .nil pass0 (pa_cons (pv 0) (pa_cons pe_int pa_nil))) pa_nil)))))
    pss_nil)
    (pss_cons (ps_if (pt_cmpR op_eq (pe_ix ix_tup (pv 3) pe_int (fun _ _ => rfl)) pe_str (nomark _))
    (pss_one (ps_ret (pe_tup (pa_cons (pe_ix ix_tup (pv 3) pe_int (fun _ _ => rfl)) (pa_cons (pe_call D_law_draw.ok (hr.mono (by decide)) (by rfl) D_law_draw.g D_law_draw.kp D_law_draw.b .nil pass0 (pa_cons (pv 0) (pa_cons pe_int pa_nil))) (pa_cons (pe_ix ix_tup (pv 3) pe_int (fun _ _ => rfl)) pa_nil))))))
    pss_nil)
    (pss_cons (ps_if (pt_cmpR op_eq (pe_ix ix_tup (pv 3) pe_int (fun _ _ => rfl)) pe_str (nomark _))
    (pss_cons (ps_set (i := 4) nd rfl (Or.inl rfl) (pe_op op_shl pe_int (pe_call D_law_draw.ok (hr.mono (by decide)) (by rfl) D_law_draw.g D_law_draw.kp D_law_draw.b .nil pass0 (pa_cons (pv 0) (pa_cons pe_int pa_nil)))))
    (pss_one (ps_ret (pe_op op_catT (pe_slice sl_tup (pv 3) po_none (po_some pe_int)) (pe_tup (pa_cons (pv 4) (pa_cons (pe_call D_law_draw.ok (hr.mono (by decide)) (by rfl) D_law_draw.g D_law_draw.kp D_law_draw.b .nil pass0 (pa_cons (pv 0) (pa_cons (pv 4) pa_nil))) (pa_cons (pe_ix ix_tup (pv 3) pe_int (fun _ _ => rfl)) pa_nil))))))))
    pss_nil)
    (pss_one (ps_ret (pv 3))))))), ?_⟩
    refine ⟨_, rfl, _, rfl, _, rfl, d, l, m, left, rfl, D, m1, m8, l0, l9, fun q r H1 D1 kp1 hq hok hfit => ?_⟩
    have sq1 : SqT K H1 q r.vs := SqT.of hq
    have nofit : ∀ {w : Str} {xs : List Int}, w ≠ ("skip" : Str) → Rw.fits ⟨w, xs⟩ left := fun h e => absurd e h
    obtain ⟨nqd, nql⟩ := D1.nt hq
    refine ⟨_, rfl, q, _, _, .str r.w, rfl, rfl, sq1, atI_nat (j := 0) rfl, rfl, _, rfl, ?_⟩
    refine ite2 (fun h => ?_) (fun n1 => ?_)
    · have hw := V.str.inj (of_decide_eq_true h)
      obtain ⟨a, s0, ex, ha⟩ := load_xs hok hw
      have evs : r.vs = [.str "load", .int a] ++ [.int s0] := by unfold Rw.vs; rw [ex, hw]; rfl
      rw [evs] at sq1
      refine ⟨_, rfl, _, rfl, q, _, rfl, sq1, not_whole_front _ _ 2 rfl (by simp), fun u hu0 => ?_⟩
      rw [show cutV ([V.str "load", V.int a] ++ [V.int s0]) none (some 2) = [.str "load", .int a] from cut_front _ _ 2 rfl]
      obtain ⟨nud, nul⟩ := D1.free hu0
      have D2 := D1.new (o := .tup [.str "load", .int a]) hu0
      have kp2 := kp1.new (o := .tup [.str "load", .int a]) (kp1.free D1 hu0)
      refine ⟨_, rfl, d, l, _, rfl, D2, by decide, by decide, fun s1 H3 s10 s11 D3 kp3 => ?_⟩
      refine ⟨(by show 1 ≤ sizeLine; decide), fun u2 hu2 => ?_⟩
      have D4 := D3.new (o := .tup [.int s1]) hu2
      have kp4 := (kp2.trans kp3).new (o := .tup [.int s1]) ((kp2.trans kp3).free D3 hu2)
      have hu3 : H3 u = some (.tup [.str "load", .int a]) := kp3 _ _ upd_same nud nul
      refine ⟨u, u2, _, _, rfl, rfl, SqT.of (by rw [upd_ne (ne_of_none hu3 hu2)]; exact hu3), SqT.of upd_same, by simp, (by show 2 + 1 ≤ sizeLine; decide), fun e => absurd e (by simp), fun _ u3 hu4 => ?_⟩
      have ha7 : 0 ≤ a ∧ a ≤ 7 := by unfold itOk at ha; omega
      exact k u3 ⟨"load", [a, s1]⟩ _ (D4.new hu4) (kp4.new (kp4.free D4 hu4)) upd_same (ok2 (f := "WS") (c0 := 87) (c1 := 83) (by decide +kernel) (by decide +kernel) (by decide +kernel) ha (itS s10 (by omega))) (nofit (by decide +kernel))
    refine ⟨_, rfl, q, _, _, .str r.w, rfl, rfl, sq1, atI_nat (j := 0) rfl, rfl, _, rfl, ?_⟩
    refine ite2 (fun h => ?_) (fun n2 => ?_)
    · have hw := V.str.inj (of_decide_eq_true h)
      obtain ⟨s0, a, ex, ha⟩ := store_xs hok hw
      have evs : r.vs = [.str "store", .int s0, .int a] := by unfold Rw.vs; rw [ex, hw]; rfl
      have hq' : H1 q = some (.tup [.str "store", .int s0, .int a]) := by rw [← evs]; exact hq
      refine ⟨_, rfl, q, _, _, .str "store", rfl, rfl, SqT.of hq', atI_nat (j := 0) rfl, ?_⟩
      refine ⟨_, rfl, d, l, _, rfl, D1, by decide, by decide, fun s1 H3 s10 s11 D3 kp3 => ?_⟩
      refine ⟨_, rfl, q, _, _, .int a, rfl, rfl, SqT.of (kp3 _ _ hq' nqd nql), atI_nat (j := 2) rfl, ?_⟩
      refine ⟨(by show 3 ≤ sizeLine; decide), fun u2 hu2 => ?_⟩
      exact k u2 ⟨"store", [s1, a]⟩ _ (D3.new hu2) ((kp1.trans kp3).new ((kp1.trans kp3).free D3 hu2)) upd_same (ok2 (f := "SR") (c0 := 83) (c1 := 82) (by decide +kernel) (by decide +kernel) (by decide +kernel) (itS s10 (by omega)) ha) (nofit (by decide +kernel))
    refine ⟨_, rfl, q, _, _, .str r.w, rfl, rfl, sq1, atI_nat (j := 0) rfl, rfl, _, rfl, ?_⟩
    refine ite2 (fun h => ?_) (fun n3 => ?_)
    · have hw := V.str.inj (of_decide_eq_true h)
      obtain ⟨a, m0, c0, n, ex, ha, hn⟩ := skip_xs hok hw
      have evs : r.vs = [.str "skip", .int a] ++ [.int m0, .int c0, .int n] := by unfold Rw.vs; rw [ex, hw]; rfl
      have hq' : H1 q = some (.tup ([.str "skip", .int a] ++ [.int m0, .int c0, .int n])) := by rw [← evs]; exact hq
      have hnl : n ≤ left := by
        obtain ⟨a', m', c', n', ex', hl'⟩ := hfit hw
        rw [ex] at ex'
        injection ex' with _ ex'
        injection ex' with _ ex'
        injection ex' with _ ex'
        injection ex' with e4 _
        omega
      refine ⟨_, rfl, d, l, _, rfl, D1, by decide, by decide, fun j H2 j0 j1 D2 kp2 => ?_⟩
      refine ⟨_, _, rfl, rfl, ⟨by omega, by omega, by decide⟩, ?_⟩
      have hm := pow_mods (j := j.toNat) (by omega)
      have hmb := mods_bound _ hm
      have hq2 := kp2 _ _ hq' nqd nql
      refine ⟨_, rfl, _, rfl, q, _, rfl, SqT.of hq2, not_whole_front _ _ 2 rfl (by simp), fun u hu0 => ?_⟩
      rw [show cutV ([V.str "skip", V.int a] ++ [V.int m0, V.int c0, V.int n]) none (some 2) = [.str "skip", .int a] from cut_front _ _ 2 rfl]
      obtain ⟨nud, nul⟩ := D2.free hu0
      have D3 := D2.new (o := .tup [.str "skip", .int a]) hu0
      have kp3 := (kp1.trans kp2).new (o := .tup [.str "skip", .int a]) ((kp1.trans kp2).free D2 hu0)
      have hq3 : (upd H2 u (.tup [.str "skip", .int a])) q = some (.tup ([.str "skip", .int a] ++ [.int m0, .int c0, .int n])) := by rw [upd_ne (ne_of_none hq2 hu0)]; exact hq2
      refine ⟨_, rfl, _, rfl, _, rfl, d, l, _, rfl, D3, by omega, by omega, fun c H4 c00 c01 D4 kp4 => ?_⟩
      have hq4 := kp4 _ _ hq3 nqd nql
      have hu4 : H4 u = some (.tup [.str "skip", .int a]) := kp4 _ _ upd_same nud nul
      refine ⟨_, rfl, q, _, _, .int n, rfl, rfl, SqT.of hq4, atI_nat (j := 4) rfl, ?_⟩
      refine ⟨(by show 3 ≤ sizeLine; decide), fun u2 hu2 => ?_⟩
      have D5 := D4.new (o := .tup [.int (1 * 2 ^ j.toNat), .int c, .int n]) hu2
      have kp5 := (kp3.trans kp4).new (o := .tup [.int (1 * 2 ^ j.toNat), .int c, .int n]) ((kp3.trans kp4).free D4 hu2)
      refine ⟨u, u2, _, _, rfl, rfl, SqT.of (by rw [upd_ne (ne_of_none hu4 hu2)]; exact hu4), SqT.of upd_same, by simp, (by show 2 + 3 ≤ sizeLine; decide), fun e => absurd e (by simp), fun _ u3 hu5 => ?_⟩
      have ha7 : 0 ≤ a ∧ a ≤ 7 := by unfold itOk at ha; omega
      have hn7 : 0 ≤ n ∧ n ≤ 1000 := by unfold itOk at hn; omega
      exact k u3 ⟨"skip", [a, 1 * 2 ^ j.toNat, c, n]⟩ _ (D5.new hu5) (kp5.new (kp5.free D5 hu5)) upd_same (ok4 ha7.1 ha7.2 hm c00 c01 hn7.1 hn7.2) (fun _ => ⟨_, _, _, n, rfl, hnl⟩)
    exact ⟨_, rfl, k q r H1 D1 kp1 hq hok hfit⟩
abbrev s_law_far_rows : Stmt := top 30
abbrev N_law_far_rows : List Str := ["_law_deal_here", "_law_registers", "_law_many", "_law_at"]
theorem sc_law_far_rows : FnScope N_law_far_rows ["_law_deal_here", "_law_registers", "_law_many"] (defScope s_law_far_rows) := ⟨rfl, rfl, rfl, by decide +kernel, rfl, by decide +kernel, by decide +kernel⟩
theorem ok_law_far_rows {f : Addr} {fd : FuncData} (F : Fun K "_law_far_rows" "_law_far_rows" s_law_far_rows f fd) (T : Glob mg) (D_law_far_row : Df P w K mg base 4 "_law_far_row" ["_law_deal_here", "_law_registers", "_law_left"] spRowL) : FnOk P w K mg base CX0 5 f fd ["_law_deal_here", "_law_registers", "_law_many"] spRows := by
  refine F.ok sc_law_far_rows (fun vs H Q E h => ?_) (fun cdv A outer s H vs Q E hr h => ?_)
  · obtain ⟨d, l, n, rfl, _⟩ := h
    rfl
  · obtain ⟨d, l, n, rfl, D, hn, k⟩ := h
    have nd := sc_law_far_rows.nd
    refine ⟨_, (pss_one (ps_ret (pe_lc (own := [("_law_at", 3)]) (g := gName 3) (tt := tYes) rfl nd (pi_range1 (by rfl) T.g_range (pa_cons (pv 2) pa_nil)) (blkOk_by (N := N_law_far_rows) (sc := defScope s_law_far_rows) (by decide +kernel)) (fun _ _ _ _ _ => pg_name (i := 3) nd rfl (Or.inl rfl)) (fun _ _ _ _ _ => pts_nil) (fun _ _ _ _ _ => (pe_call D_law_far_row.ok (hr.mono (by decide)) (by rfl) D_law_far_row.g D_law_far_row.kp D_law_far_row.b .nil pass0 (pa_cons (pv 0) (pa_cons (pv 1) (pa_cons (pe_op op_sub (pe_op op_sub (pv 2) (pv 3)) pe_int) pa_nil)))))))), ?_⟩
    refine ⟨_, rfl, (n : Int), rfl, by omega, by omega, fun L hL => ?_⟩
    obtain ⟨nLd, nLl⟩ := D.free hL
    rw [Int.toNat_natCast]
    refine lc_range (lo := 0) (n := n) (fun i H1 => ∃ as rs, H1 L = some (.lst (refs as)) ∧ RowsAt H1 rs as ∧ rs.length = i ∧ (∀ (j : Nat) r, rs[j]? = some r → r.ok ∧ r.fits ((n : Int) - 1 - (j : Int))) ∧ Deal H1 d l ∧ Kept d l H H1) ⟨[], [], upd_same, RowsAt.nil, rfl, fun j r h => by simp at h, D.new hL, Kept.refl.new hL⟩ ?_ ?_
    · rintro i H1 hi ⟨as, rs, h1, hr1, hl1, hok, D1, kp1⟩
      refine ⟨rfl, ?_⟩
      refine ⟨_, rfl, _, rfl, _, rfl, _, rfl, _, _, rfl, rfl, _, _, rfl, rfl, d, l, 8, (n : Int) - (0 + (i : Int)) - 1, rfl, D1, by decide, by decide, by omega, by omega, fun q r H2 D2 kp2 hq ok1 fit1 => ?_⟩
      have h2 : H2 L = some (.lst (refs as)) := kp2 _ _ h1 nLd nLl
      refine ⟨_, h2, by rw [refs_len, hr1.len, hl1]; exact small1000 (by omega), as ++ [q], rs ++ [r], ?_, ((hr1.kept D1 kp2).snoc hq).upd h2, by rw [List.length_append, hl1]; rfl, fun j r' e => ?_, D2.other nLd nLl, (kp1.trans kp2).new hL⟩
      · rw [upd_same]
        unfold refs
        rw [List.map_append]
        rfl
      · by_cases hj : j < rs.length
        · rw [List.getElem?_append_left hj] at e
          exact hok j r' e
        · rw [List.getElem?_append_right (by omega)] at e
          have h0 : j - rs.length = 0 := by
            by_cases h1 : j - rs.length = 0
            · exact h1
            · rw [List.getElem?_eq_none (by simp only [List.length_cons, List.length_nil]; omega)] at e
              cases e
          rw [h0] at e
          have e' : r = r' := Option.some.inj e
          subst e'
          have ej : (n : Int) - 1 - (j : Int) = (n : Int) - (0 + (i : Int)) - 1 := by omega
          rw [ej]
          exact ⟨ok1, fit1⟩
    · rintro H1 ⟨as, rs, h1, hr1, hl1, hok, D1, kp1⟩
      exact k L rs H1 hL D1 kp1 ⟨as, h1, hr1⟩ (by intro j r e; rw [hl1]; exact hok j r e) hl1
end
end My

set_option Elab.async false
set_option linter.all false
set_option maxRecDepth 100000
set_option maxHeartbeats 1000000
namespace My
open PySem L2 MyR
theorem ixN_nt {n j : Nat} (hj : j < n) : ixN n (j : Int) = some j := by
  unfold ixN
  rw [if_pos (by omega), if_pos (by omega)]
  simp
def spSkip : Sp := fun vs H Q _ => ∃ (d l : Addr) (n : Nat), vs = [.ref d, .int (n : Int)] ∧ Deal H d l ∧ n ≤ 900 ∧
  ∀ (q : Addr) (rs : List Rw) (H' : Hp), H q = none → Deal H' d l → Kept d l H H' → LstAt H' rs q → RsOk rs → rs.length = n → Q (.ref q) H'
theorem set_ok {rs : List Rw} {r : Rw} {i : Nat} (h : RsOk rs) (h1 : r.ok) (h2 : r.fits ((rs.length : Int) - 1 - (i : Int))) : RsOk (rs.set i r) := by
  intro j r' e
  rw [List.length_set]
  rw [List.getElem?_set] at e
  by_cases hij : i = j
  · subst hij
    rw [if_pos rfl] at e
    by_cases hl : i < rs.length
    · rw [if_pos hl] at e
      rw [← Option.some.inj e]
      exact ⟨h1, h2⟩
    · rw [if_neg hl] at e
      cases e
  · rw [if_neg hij] at e
    exact h j r' e
theorem RowsAt.set {H : Hp} {rs : List Rw} {as : List Addr} {r : Rw} {u : Addr} {i : Nat} (h : RowsAt H rs as) (hu : RowAt H r u) : RowsAt H (rs.set i r) (as.set i u) := by
  refine ⟨by rw [List.length_set, List.length_set, h.len], fun j r' e => ?_⟩
  rw [List.getElem?_set] at e
  by_cases hij : i = j
  · subst hij
    rw [if_pos rfl] at e
    by_cases hl : i < rs.length
    · rw [if_pos hl] at e
      refine ⟨u, ?_, by rw [← Option.some.inj e]; exact hu⟩
      rw [List.getElem?_set, if_pos rfl, if_pos (by rw [h.len]; exact hl)]
    · rw [if_neg hl] at e
      cases e
  · rw [if_neg hij] at e
    obtain ⟨p, e1, e2⟩ := h.at_ j r' e
    exact ⟨p, by rw [List.getElem?_set, if_neg hij]; exact e1, e2⟩
section
variable {P : Program} {w : World} {K : PySem.W.Frag} {mg : Str → Option Value} {base : Heap}
abbrev s_law_skipping : Stmt := top 31
abbrev N_law_skipping : List Str := ["_law_deal_here", "_law_many", "_law_found", "_law_at", "_law_modulus", "_law_length"]
theorem sc_law_skipping : FnScope N_law_skipping ["_law_deal_here", "_law_many"] (defScope s_law_skipping) := ⟨rfl, rfl, rfl, by decide +kernel, rfl, by decide +kernel, by decide +kernel⟩
theorem ok_law_skipping {f : Addr} {fd : FuncData} (F : Fun K "_law_skipping" "_law_skipping" s_law_skipping f fd) (T : Glob mg) (D_law_draw : Df P w K mg base 1 "_law_draw" ["_law_deal_here", "_law_many"] spDraw)
    (D_law_far_rows : Df P w K mg base 5 "_law_far_rows" ["_law_deal_here", "_law_registers", "_law_many"] spRows) : FnOk P w K mg base CX0 6 f fd ["_law_deal_here", "_law_many"] spSkip := by
  refine F.ok sc_law_skipping (fun vs H Q E h => ?_) (fun cdv A outer s H vs Q E hr h => ?_)
  · obtain ⟨d, l, n, rfl, _⟩ := h
    rfl
  · obtain ⟨d, l, n, rfl, D, hn, k⟩ := h
    have hu := hu_of hr
    have nd := sc_law_skipping.nd
    refine ⟨_, (pss_cons (ps_set (i := 2) nd rfl (Or.inl rfl) (pe_call D_law_far_rows.ok (hr.mono (by decide)) (by rfl) D_law_far_rows.g D_law_far_rows.kp D_law_far_rows.b .nil pass0 (pa_cons (pv 0) (pa_cons pe_int (pa_cons (pv 1) pa_nil)))))
    (pss_cons (ps_for PassesOwn.never rfl (pi_range1 (by rfl) T.g_range (pa_cons (pv 1) pa_nil)) (pg_name (i := 3) nd rfl (Or.inl rfl))
    (pss_one (ps_if (pt_cmpR op_eq (pe_call D_law_draw.ok (hr.mono (by decide)) (by rfl) D_law_draw.g D_law_draw.kp D_law_draw.b .nil pass0 (pa_cons (pv 0) (pa_cons pe_int pa_nil))) pe_int (nomark _))
    (pss_cons (ps_set (i := 4) nd rfl (Or.inl rfl) (pe_op op_shl pe_int (pe_call D_law_draw.ok (hr.mono (by decide)) (by rfl) D_law_draw.g D_law_draw.kp D_law_draw.b .nil pass0 (pa_cons (pv 0) (pa_cons pe_int pa_nil)))))
    (pss_cons (ps_set (i := 5) nd rfl (Or.inl rfl) (pe_ix ix_list (pe_lst (pa_cons (pe_op op_sub (pe_op op_sub (pv 1) (pv 3)) pe_int) (pa_cons (pe_call D_law_draw.ok (hr.mono (by decide)) (by rfl) D_law_draw.g D_law_draw.kp D_law_draw.b .nil pass0 (pa_cons (pv 0) (pa_cons (pe_op op_sub (pv 1) (pv 3)) pa_nil))) pa_nil))) (pe_call D_law_draw.ok (hr.mono (by decide)) (by rfl) D_law_draw.g D_law_draw.kp D_law_draw.b .nil pass0 (pa_cons (pv 0) (pa_cons pe_int pa_nil))) (fun _ _ => rfl)))
    (pss_one (ps_asg (pe_tup (pa_cons pe_str (pa_cons (pe_call D_law_draw.ok (hr.mono (by decide)) (by rfl) D_law_draw.g D_law_draw.kp D_law_draw.b .nil pass0 (pa_cons (pv 0) (pa_cons pe_int pa_nil))) (pa_cons (pv 4) (pa_cons (pe_call D_law_draw.ok (hr.mono (by decide)) (by rfl) D_law_draw.g D_law_draw.kp D_law_draw.b .nil pass0 (pa_cons (pv 0) (pa_cons (pv 4) pa_nil))) (pa_cons (pv 5) pa_nil)))))) (pg_sub (pv 2) (pv 3) set_list)))))
    pss_nil)))
    (pss_one (ps_ret (pv 2))))), ?_⟩
    refine ⟨_, rfl, _, rfl, d, l, n, rfl, D, hn, fun L rs0 H1 hL0 D1 kp1 hl0 hok0 hlen0 => ?_⟩
    obtain ⟨as0, h10, hr0⟩ := hl0
    have nLd : L ≠ d := by intro e; subst e; obtain ⟨s, m, ns, hd, _⟩ := D.ex; rw [hd] at hL0; cases hL0
    have nLl : L ≠ l := by intro e; subst e; obtain ⟨s, m, ns, _, hl, _⟩ := D.ex; rw [hl] at hL0; cases hL0
    refine ⟨_, rfl, (n : Int), rfl, by omega, by omega, ?_⟩
    rw [Int.toNat_natCast]
    refine for_range (lo := 0) (n := n) (fun i σ H2 => ∃ b c e : Option V, σ = [some (.ref d), some (.int (n : Int)), some (.ref L), b, c, e] ∧ Deal H2 d l ∧ Kept d l H H2 ∧ ∃ as rs, H2 L = some (.lst (refs as)) ∧ RowsAt H2 rs as ∧ RsOk rs ∧ rs.length = n)
      ⟨none, none, none, rfl, D1, kp1, as0, rs0, h10, hr0, hok0, hlen0⟩ ?_ ?_
    · rintro i σ H2 hi ⟨b, c, e, rfl, D2, kp2, as, rs, h2, hr2, hok2, hlen2⟩
      rw [show (0 : Int) + (i : Int) = (i : Int) from by omega]
      refine ⟨_, rfl, d, l, _, rfl, D2, by decide, by decide, fun x H3 x0 x1 D3 kp3 => ?_⟩
      have h3 := kp3 _ _ h2 nLd nLl
      have hr3 := hr2.kept D2 kp3
      refine ⟨rfl, _, rfl, ?_⟩
      refine ite2 (fun _ => ?_) (fun _ => ⟨_, _, _, rfl, D3, kp2.trans kp3, as, rs, h3, hr3, hok2, hlen2⟩)
      refine ⟨_, rfl, d, l, _, rfl, D3, by decide, by decide, fun j H4 j0 j1 D4 kp4 => ?_⟩
      refine ⟨_, _, rfl, rfl, ⟨by omega, by omega, by decide⟩, ?_⟩
      have hm := pow_mods (j := j.toNat) (by omega)
      have hmb := mods_bound _ hm
      have h4 := kp4 _ _ h3 nLd nLl
      have hr4 := hr3.kept D3 kp4
      dsimp only [List.set_cons_succ, List.set_cons_zero]
      refine ⟨_, rfl, _, rfl, _, _, rfl, rfl, _, _, rfl, rfl, ?_⟩
      refine ⟨_, rfl, _, rfl, _, rfl, _, _, rfl, rfl, d, l, _, rfl, D4, by omega, by omega, fun y H5 y0 y1 D5 kp5 => ?_⟩
      refine ⟨by show 2 ≤ sizeLine; decide, fun t ht => ?_⟩
      obtain ⟨ntd, ntl⟩ := D5.free ht
      have D6 := D5.new (o := .lst [V.int ((n : Int) - (i : Int) - 1), V.int y]) ht
      have h5 := kp5 _ _ h4 nLd nLl
      have hr5 := hr4.kept D4 kp5
      have s6 := new_same (o := .lst [V.int ((n : Int) - (i : Int) - 1), V.int y]) ht
      refine ⟨_, rfl, d, l, _, rfl, D6, by decide, by decide, fun z H7 z0 z1 D7 kp7 => ?_⟩
      have kpA : Kept d l H H7 := ((((kp2.trans kp3).trans kp4).trans kp5).trans (Kept.of s6)).trans kp7
      have h7 := kp7 _ _ (s6 _ _ h5) nLd nLl
      have hr7 := (hr5.same s6).kept D6 kp7
      refine ix_draw (xs := [V.int ((n : Int) - (i : Int) - 1), V.int y]) (kp7 _ _ upd_same ntd ntl) z0 z1 (fun v hv => ?_)
      have hv' : ∃ len : Int, v = V.int len ∧ 0 ≤ len ∧ len ≤ (n : Int) - 1 - (i : Int) := by
        have hv' : v = V.int ((n : Int) - (i : Int) - 1) ∨ v = V.int y := by simpa using hv
        rcases hv' with rfl | rfl
        · exact ⟨_, rfl, by omega, by omega⟩
        · exact ⟨_, rfl, by omega, by omega⟩
      obtain ⟨len, rfl, len0, len1⟩ := hv'
      dsimp only [List.set_cons_succ, List.set_cons_zero]
      refine ⟨_, rfl, d, l, _, rfl, D7, by decide, by decide, fun a H8 a0 a1 D8 kp8 => ?_⟩
      refine ⟨_, rfl, _, rfl, _, rfl, d, l, _, rfl, D8, by omega, by omega, fun cc H9 c0 c1 D9 kp9 => ?_⟩
      refine ⟨_, rfl, (by show 5 ≤ sizeLine; decide), fun u hu0 => ?_⟩
      obtain ⟨nud, nul⟩ := D9.free hu0
      have h9 := kp9 _ _ (kp8 _ _ h7 nLd nLl) nLd nLl
      have hr9 := (hr7.kept D7 kp8).kept D8 kp9
      have kpB : Kept d l H H9 := (kpA.trans kp8).trans kp9
      have nLu : L ≠ u := ne_of_none h9 hu0
      have hrow : RowAt (upd H9 u (.tup (Rw.vs ⟨"skip", [a, 1 * 2 ^ j.toNat, cc, len]⟩))) ⟨"skip", [a, 1 * 2 ^ j.toNat, cc, len]⟩ u := upd_same
      have hilen : i < (refs as).length := by rw [refs_len, hr9.len, hlen2]; exact hi
      refine ⟨_, rfl, _, rfl, L, _, _, i, rfl, rfl, by rw [upd_ne nLu]; exact h9, ixN_nt hilen, ?_⟩
      refine ⟨_, _, _, rfl, (D9.new hu0).other nLd nLl, (kpB.new (kpB.free D9 hu0)).new hL0, as.set i u, rs.set i ⟨"skip", [a, 1 * 2 ^ j.toNat, cc, len]⟩, ?_, ?_, ?_, by rw [List.length_set]; exact hlen2⟩
      · rw [upd_same]
        unfold refs
        rw [List.map_set]
      · exact ((hr9.updN hu0).set hrow).upd (xs := refs as) (by rw [upd_ne nLu]; exact h9)
      · exact set_ok hok2 (ok4 a0 (by omega) hm c0 c1 len0 (by omega)) (fun _ => ⟨_, _, _, len, rfl, by rw [hlen2]; exact len1⟩)
    · rintro σ H2 ⟨b, c, e, rfl, D2, kp2, as, rs, h2, hr2, hok2, hlen2⟩
      exact ⟨_, rfl, k L rs H2 hL0 D2 kp2 ⟨as, h2, hr2⟩ hok2 hlen2⟩
end
end My

set_option Elab.async false
set_option linter.all false
set_option maxRecDepth 100000
set_option maxHeartbeats 1000000
namespace My
open PySem L2 MyR
/-- the methods of Code as their users know them -/
structure CodeM (P : Program) (w : World) (K : PySem.W.Frag) (mg : Str → Option Value) (base : Heap) (C : Addr) where
  fw : Addr
  fdw : FuncData
  mw : Meth K C "without" fw
  okw : FnOk P w K mg base CX0 7 fw fdw ["self", "at"] (spOut C)
  bw : Binds K fdw ["self", "at"] []
  fl : Addr
  fdl : FuncData
  ml : PySem.W.findIn K (.ref C) "__len__" = some (some (.ref fl))
  il : PySem.W.isFn K (.ref fl) = true
  okl : FnOk P w K mg base CX0 1 fl fdl ["self"] (spLenC C)
  bl : Binds K fdl ["self"] []
  fe : Addr
  fde : FuncData
  me : EqC K C fe
  oke : FnOk P w K mg base CX0 1 fe fde ["self", "other"] (spEqC C)
  be : Binds K fde ["self", "other"] []
theorem make_codeR {C a x dx : Addr} {H : Hp} {as : List Addr} {rs : List Rw} {E : XK} {R : V → Hp → Prop} (hx : H x = none) (hd : H dx = none) (ha : H a = some (.lst (refs as)) ∨ H a = some (.tup (refs as))) (hr : RowsAt H rs as) (ok : RsOk rs) (hl : rs.length ≤ 900)
    (k : ∀ H', Same H H' → CodeAt C H' rs x → R .non H') : spCode C [.ref x, .ref a] (upd (upd H dx (.own x)) x (.ins C dx [])) R E := by
  have sm := made_same (C := C) hx hd
  refine ⟨x, dx, a, as, rs, rfl, upd_same, ?_, hr.same sm, ok, hl, fun t H' ini ht => k H' (ini_same hx hd ini) ⟨dx, t, as, ini.1, ht, hr.same (ini_same hx hd ini)⟩⟩
  rcases ha with h | h
  · exact .inl (sm _ _ h)
  · exact .inr (sm _ _ h)
def spLaw (K : PySem.W.Frag) : Sp := fun vs H Q _ => ∃ (a : Addr) (ns : List Int), vs = [.ref a] ∧ SqL K H a (ns.map V.int) ∧ ns.length ≤ 63 ∧ ∀ H', Q (.bl true) H'
theorem eqv_nil {rs : List Rw} : PyData.eqv (.list (rs.map rowD)) (.list []) = rs.isEmpty := by
  cases rs <;> simp [PyData.eqv, PyData.eqvAll]
theorem RsOk.nil : RsOk [] := fun i r h => by simp at h
section
variable {P : Program} {w : World} {K : PySem.W.Frag} {mg : Str → Option Value} {base : Heap}
abbrev s_law : Stmt := top 32
abbrev N_law : List Str := ["_law_script", "_law_deal_here", "_law_turn", "_law_rows", "_law_code", "_law_at", "_law_less", "_law_left"]
theorem sc_law : FnScope N_law ["_law_script"] (defScope s_law) := ⟨rfl, rfl, rfl, by decide +kernel, rfl, by decide +kernel, by decide +kernel⟩
theorem ok_law {f : Addr} {fd : FuncData} (F : Fun K "law" "law" s_law f fd) (T : Glob mg) {C : Addr} (M : CodeOk P w K mg base C) (MM : CodeM P w K mg base C)
    (D_law_deal : Df P w K mg base 1 "_law_deal" ["_law_script", "_law_base"] (spDeal K)) (D_law_draw : Df P w K mg base 1 "_law_draw" ["_law_deal_here", "_law_many"] spDraw)
    (D_law_skipping : Df P w K mg base 6 "_law_skipping" ["_law_deal_here", "_law_many"] spSkip) (D_law_left_out : Df P w K mg base 1 "_law_left_out" ["_law_rows", "_law_at"] spLeft) : FnOk P w K mg base CX0 8 f fd ["_law_script"] (spLaw K) := by
  refine F.ok sc_law (fun vs H Q E h => ?_) (fun cdv A outer s H vs Q E hr h => ?_)
  · obtain ⟨a, ns, rfl, _⟩ := h
    rfl
  · obtain ⟨sA, ns, rfl, hS, hlen, k⟩ := h
    have hu := hu_of hr
    have nd := sc_law.nd
    refine ⟨_, (pss_cons (ps_set (i := 1) nd rfl (Or.inl rfl) (pe_call D_law_deal.ok (hr.mono (by decide)) (by rfl) D_law_deal.g D_law_deal.kp D_law_deal.b .nil pass0 (pa_cons (pv 0) (pa_cons pe_int pa_nil))))
    (pss_cons (ps_for PassesOwn.never rfl (pi_range1 (by rfl) T.g_range (pa_cons (pe_op op_add pe_int (pe_callB call_len_seq (by rfl) T.g_len PySem.boot_len (pa_cons (pe_slice sl_list (pv 0) po_none (po_some pe_int)) pa_nil))) pa_nil)) (pg_name (i := 2) nd rfl (Or.inl rfl))
    (pss_cons (ps_set (i := 3) nd rfl (Or.inl rfl) (pe_call D_law_skipping.ok (hr.mono (by decide)) (by rfl) D_law_skipping.g D_law_skipping.kp D_law_skipping.b .nil pass0 (pa_cons (pv 1) (pa_cons (pe_op op_add pe_int (pe_call D_law_draw.ok (hr.mono (by decide)) (by rfl) D_law_draw.g D_law_draw.kp D_law_draw.b .nil pass0 (pa_cons (pv 1) (pa_cons pe_int pa_nil)))) pa_nil))))
    (pss_cons (ps_set (i := 4) nd rfl (Or.inl rfl) (pe_make M.m M.ok (hr.mono (by decide)) (by rfl) M.g M.b .nil pass0 (pa_cons (pv 3) pa_nil)))
    (pss_cons (ps_for PassesOwn.never rfl (pi_range1 (by rfl) T.g_range (pa_cons (pe_callB call_len_seq (by rfl) T.g_len PySem.boot_len (pa_cons (pv 3) pa_nil)) pa_nil)) (pg_name (i := 5) nd rfl (Or.inl rfl))
    (pss_cons (ps_set (i := 6) nd rfl (Or.inl rfl) (pe_meth (pv 4) M.cl MM.mw MM.okw (hr.mono (by decide)) MM.bw .nil pass0 (pa_cons (pv 5) pa_nil)))
    (pss_cons (ps_if (PW.pt (pw_or (pt_cmpR (op_neD hr.units) (pe_fld (pv 6) rfl) (pe_callTy call_tuple_of (by rfl) T.g_tuple (by decide +kernel) (pa_cons (pe_call D_law_left_out.ok (hr.mono (by decide)) (by rfl) D_law_left_out.g D_law_left_out.kp D_law_left_out.b .nil pass0 (pa_cons (pv 3) (pa_cons (pv 5) pa_nil))) pa_nil)) (nomark _)) (pw_or (pt_cmpR op_ne (pe_callB call_lenF (by rfl) T.g_len PySem.boot_len (pa_cons (pv 6) pa_nil)) (pe_op op_sub (pe_callB call_len_seq (by rfl) T.g_len PySem.boot_len (pa_cons (pv 3) pa_nil)) pe_int) (nomark _)) (pw_or1 (pt_cmpR (op_neD hr.units) (pe_fld (pv 4) rfl) (pe_callTy call_tuple_of (by rfl) T.g_tuple (by decide +kernel) (pa_cons (pv 3) pa_nil)) (nomark _))))))
    (pss_one (ps_ret pe_bl))
    pss_nil)
    (pss_one (ps_if (pt_cmpR op_neF (pv 6) (pe_make M.m M.ok (hr.mono (by decide)) (by rfl) M.g M.b .nil pass0 (pa_cons (pe_call D_law_left_out.ok (hr.mono (by decide)) (by rfl) D_law_left_out.g D_law_left_out.kp D_law_left_out.b .nil pass0 (pa_cons (pv 3) (pa_cons (pv 5) pa_nil))) pa_nil)) (nomark _))
    (pss_one (ps_ret pe_bl))
    pss_nil)))))
    (pss_cons (ps_set (i := 7) nd rfl (Or.inl rfl) (pe_callTy call_list_of (by rfl) T.g_list (by decide +kernel) (pa_cons (pv 3) pa_nil)))
    (pss_one (ps_while PassesOwn.never (pt_cmpR (op_neD hr.units) (pv 7) (pe_lst pa_nil) (nomark _))
    (pss_cons (ps_set (i := 5) nd rfl (Or.inl rfl) (pe_call D_law_draw.ok (hr.mono (by decide)) (by rfl) D_law_draw.g D_law_draw.kp D_law_draw.b .nil pass0 (pa_cons (pv 1) (pa_cons (pe_callB call_len_seq (by rfl) T.g_len PySem.boot_len (pa_cons (pv 7) pa_nil)) pa_nil))))
    (pss_cons (ps_par (i := 4) (j := 7) rfl nd rfl rfl (by decide) rfl rfl (pa_cons (pe_meth (pv 4) M.cl MM.mw MM.okw (hr.mono (by decide)) MM.bw .nil pass0 (pa_cons (pv 5) pa_nil)) (pa_cons (pe_call D_law_left_out.ok (hr.mono (by decide)) (by rfl) D_law_left_out.g D_law_left_out.kp D_law_left_out.b .nil pass0 (pa_cons (pv 7) (pa_cons (pv 5) pa_nil))) pa_nil)) (by rfl))
    (pss_one (ps_if (PW.pt (pw_or (pt_cmpR (op_neD hr.units) (pe_fld (pv 4) rfl) (pe_callTy call_tuple_of (by rfl) T.g_tuple (by decide +kernel) (pa_cons (pv 7) pa_nil)) (nomark _)) (pw_or1 (pt_cmpR op_neF (pe_make M.m M.ok (hr.mono (by decide)) (by rfl) M.g M.b .nil pass0 (pa_cons (pe_fld (pv 4) rfl) pa_nil)) (pv 4) (nomark _)))))
    (pss_one (ps_ret pe_bl))
    pss_nil)))))))))))
    (pss_one (ps_ret (pe_and (pe_cmpR op_eq (pe_callB call_lenF (by rfl) T.g_len PySem.boot_len (pa_cons (pe_make M.m M.ok (hr.mono (by decide)) (by rfl) M.g M.b .nil pass0 (pa_cons (pe_lst pa_nil) pa_nil)) pa_nil)) pe_int (nomark _)) (pe_one (pe_cmpR (op_eqD hr.units) (pe_fld (pe_make M.m M.ok (hr.mono (by decide)) (by rfl) M.g M.b .nil pass0 (pa_cons (pe_tup pa_nil) pa_nil)) rfl) (pe_tup pa_nil) (nomark _)))))))), ?_⟩
    refine ⟨_, rfl, sA, ns, rfl, hS, hlen, fun d l H1 _ _ sm1 D1 => ?_⟩
    refine ⟨_, rfl, _, rfl, sA, _, rfl, Same.seq sm1 hS, fun p hp => ?_⟩
    obtain ⟨ms, em, hml⟩ := cut_ints ns none (some 2)
    rw [em]
    have hl2 : (ms.map V.int).length ≤ 63 := by rw [List.length_map]; omega
    have D1' := D1.new (o := .lst (ms.map V.int)) hp
    refine ⟨p, _, rfl, .inl (SqL.of upd_same), _, _, rfl, rfl, _, rfl, by omega, by omega, ?_⟩
    refine for_range (lo := 0) (n := _) (fun i σ H2 => ∃ a2 a3 a4 a5 a6 a7 : Option V, σ = [some (.ref sA), some (.ref d), a2, a3, a4, a5, a6, a7] ∧ Deal H2 d l) ⟨_, _, _, _, _, _, rfl, D1'⟩ ?_ ?_
    · rintro i σ H2 hi ⟨a2, a3, a4, a5, a6, a7, rfl, D2⟩
      refine ⟨_, rfl, _, rfl, d, l, _, rfl, D2, by decide, by decide, fun x H3 x0 x1 D3 kp3 => ?_⟩
      obtain ⟨n, hn⟩ : ∃ n : Nat, 1 + x = (n : Int) := ⟨(1 + x).toNat, by omega⟩
      refine ⟨_, _, rfl, rfl, d, l, n, by show [V.ref d, V.int (1 + x)] = _; rw [hn], D3, by omega, fun L rs H4 hL0 D4 kp4 hl4 hok hrl => ?_⟩
      obtain ⟨as, h4, hr4⟩ := hl4
      have hn900 : rs.length ≤ 900 := by omega
      have hal : (refs as).length = rs.length := by rw [refs_len, hr4.len]
      dsimp only [List.set_cons_succ, List.set_cons_zero]
      refine ⟨_, rfl, fun c dd hc0 hdd _ => make_codeR hc0 hdd (.inl h4) hr4 hok hn900 (fun H5 sm5 hc5 => ⟨rfl, ?_⟩)⟩
      have h5 := sm5 _ _ h4
      have hr5 := hr4.same sm5
      have D5 := D4.same sm5
      dsimp only [List.set_cons_succ, List.set_cons_zero]
      refine ⟨_, rfl, L, _, rfl, .inl (SqL.of h5), _, rfl, by omega, by omega, ?_⟩
      rw [Int.toNat_natCast, hal]
      refine for_range (lo := 0) (n := rs.length) (fun j σ H6 => ∃ b5 b6 : Option V, σ = [some (.ref sA), some (.ref d), some (.int (0 + (i : Int))), some (.ref L), some (.ref c), b5, b6, a7] ∧ Same H5 H6) ⟨_, _, rfl, Same.refl _⟩ ?_ ?_
      · rintro j σ H6 hj ⟨b5, b6, rfl, sm6⟩
        rw [show (0 : Int) + (j : Int) = (j : Int) from by omega]
        have hc6 := hc5.same sm6
        have okj := out_ok hok hj
        obtain ⟨dx, t, bs, g1, g2, g3⟩ := id hc6
        refine ⟨_, rfl, c, dx, _, rfl, g1, by rfl, _, rfl, c, rs, j, rfl, hc6, hok, hn900, hj, fun y H7 sm7 hy7 => ?_⟩
        dsimp only [List.set_cons_succ, List.set_cons_zero]
        obtain ⟨dy, u, cs, y1, y2, y3⟩ := id hy7
        have hL7 : LstAt H7 rs L := ⟨as, (sm6.trans sm7) _ _ h5, hr5.same (sm6.trans sm7)⟩
        refine ⟨_, rfl, y, C, dy, _, _, rfl, y1, M.cl, M.n_rows, rfl, ?_⟩
        refine ⟨_, rfl, _, rfl, L, rs, j, rfl, hL7, hok, hn900, fun q H8 hq8 sm8 hl8 => ?_⟩
        obtain ⟨es, q1, q2⟩ := hl8
        refine ⟨q, _, rfl, .inl ⟨SqL.of q1, fun v hv => ?_⟩⟩
        have sm9 := sm8.trans (new_same (o := .tup (refs es)) hv)
        refine ⟨_, _, tup_dp (y3.same sm9) (sm9 _ _ y2), tup_dp (q2.updN hv) upd_same, tupD_shaped okj, tupD_shaped okj, ?_⟩
        rw [tup_eqv okj]
        refine ⟨_, rfl, iteF ?_⟩
        have hy9 := hy7.same sm9
        have sA9 := (sm6.trans sm7).trans sm9
        refine ⟨_, rfl, y, C, dy, _, MM.fl, MM.fdl, _, _, 1, CX0, E, rfl, sm9 _ _ y1, MM.ml, MM.il, MM.okl, hr.mono (by decide), MM.bl, pass0, y, out rs j, rfl, hy9, _, rfl, by omega, by rw [out_len hj]; omega, ?_⟩
        refine ⟨_, rfl, L, _, rfl, .inl (SqL.of (sA9 _ _ h5)), _, _, rfl, rfl, rfl, _, rfl, ?_⟩
        refine iteNS (by rw [out_len hj, hal]; show V.int _ = V.int _; congr 1; omega) ?_
        have hc9 := hc5.same sA9
        refine ⟨_, rfl, c, C, dx, _, _, rfl, (sm7.trans sm9) _ _ g1, M.cl, M.n_rows, rfl, ?_⟩
        refine ⟨_, rfl, L, _, rfl, .inl ⟨SqL.of (sA9 _ _ h5), fun v2 hv2 => ?_⟩⟩
        have sm10 := new_same (o := .tup (refs as)) hv2
        refine ⟨_, _, tup_dp ((g3.same (sm7.trans sm9)).same sm10) (sm10 _ _ ((sm7.trans sm9) _ _ g2)), tup_dp ((hr5.same sA9).updN hv2) upd_same, tupD_shaped hok, tupD_shaped hok, ?_⟩
        rw [tup_eqv hok]
        refine ⟨_, rfl, iteF ?_⟩
        -- the second test
        have sA10 := sA9.trans sm10
        have hL10 : LstAt _ rs L := ⟨as, sA10 _ _ h5, hr5.same sA10⟩
        refine ⟨_, rfl, _, rfl, _, rfl, L, rs, j, rfl, hL10, hok, hn900, fun q' H11 hq11 sm11 hl11 => ?_⟩
        obtain ⟨es', q1', q2'⟩ := hl11
        refine fun z dd hz0 hdd _ => make_codeR hz0 hdd (.inl q1') q2' okj (by rw [out_len hj]; omega) (fun H12 sm12 hz12 => ⟨rfl, ?_⟩)
        have sB := (sm9.trans sm10).trans (sm11.trans sm12)
        obtain ⟨dz, uz, cz, z1, z2, z3⟩ := id hz12
        refine ⟨y, z, C, dy, dz, _, _, MM.fe, MM.fde, _, _, 1, CX0, E, rfl, rfl, sB _ _ y1, z1, MM.me, MM.oke, hr.mono (by decide), MM.be, pass0, y, z, out rs j, rfl, hy7.same sB, hz12, okj, true, rfl, _, rfl, iteF ?_⟩
        exact ⟨_, _, rfl, ((sm6.trans sm7).trans sB)⟩
      · rintro σ H6 ⟨b5, b6, rfl, sm6⟩
        have h6 := sm6 _ _ h5
        refine ⟨_, rfl, L, _, rfl, .inl (SqL.of h6), fun q hq => ?_⟩
        dsimp only [List.set_cons_succ, List.set_cons_zero]
        have sm7 := new_same (o := .lst (refs as)) hq
        have D6 := D5.same sm6
        obtain ⟨nqd, nql⟩ := D6.free hq
        refine while_by (fun σ H7 => ∃ (b2 b3 b5 b6 : Option V) (c' q' : Addr) (rs' : List Rw), σ = [some (.ref sA), some (.ref d), b2, b3, some (.ref c'), b5, b6, some (.ref q')] ∧ Deal H7 d l ∧ CodeAt C H7 rs' c' ∧ LstAt H7 rs' q' ∧ q' ≠ d ∧ q' ≠ l ∧ RsOk rs' ∧ rs'.length ≤ 900)
          (fun (σ : L2.St) (H7 : Hp) => match σ[7]? with | some (some (V.ref q)) => (match H7 q with | some (HO.lst xs) => xs.length | _ => 0) | _ => 0)
          ⟨_, _, _, _, c, q, rs, rfl, D6.same sm7, (hc5.same sm6).same sm7, ⟨as, upd_same, (hr5.same sm6).same sm7⟩, nqd, nql, hok, hn900⟩ ?_ ?_
        · rintro σ H7 ⟨b2, b3, b5, b6, c', q', rs', rfl, D7, hc7, hl7, nd', nl', hok', hn'⟩
          obtain ⟨as', l1, l2⟩ := id hl7
          have hal' : (refs as').length = rs'.length := by rw [refs_len, l2.len]
          refine ⟨_, rfl, by show 0 ≤ sizeLine; decide, fun e he => ?_⟩
          have sm8 := new_same (o := .lst []) he
          refine ⟨.list (rs'.map rowD), .list [], .lst (SqL.of (sm8 _ _ l1)) (rows_dp (l2.same sm8)), .lst (SqL.of upd_same) .nil, lstD_shaped hok', rfl, ?_⟩
          rw [eqv_nil]
          refine ⟨_, rfl, ?_⟩
          have D8 := D7.same sm8
          by_cases hz : rs' = []
          · subst hz
            exact ⟨_, _, _, _, _, _, rfl, D8⟩
          have hpos : 0 < rs'.length := List.length_pos_iff.mpr hz
          have hemp : rs'.isEmpty = false := by cases rs' with | nil => exact absurd rfl hz | cons _ _ => rfl
          rw [hemp]
          refine iteT ?_
          refine ⟨_, rfl, _, rfl, q', _, rfl, .inl (SqL.of (sm8 _ _ l1)), d, l, _, rfl, D8, by omega, by omega, fun r H9 r0 r1 D9 kp9 => ?_⟩
          obtain ⟨g, rfl⟩ : ∃ g : Nat, r = (g : Int) := ⟨r.toNat, by omega⟩
          have hg : g < rs'.length := by omega
          have hc9 := (hc7.same sm8).kept D8 kp9
          have hl9 : H9 q' = some (.lst (refs as')) := kp9 _ _ (sm8 _ _ l1) nd' nl'
          have hr9 := (l2.same sm8).kept D8 kp9
          have okg := out_ok hok' hg
          have hng : (out rs' g).length ≤ 900 := by rw [out_len hg]; omega
          obtain ⟨dx, t, bs, g1, g2, g3⟩ := id hc9
          dsimp only [List.set_cons_succ, List.set_cons_zero]
          refine ⟨_, rfl, c', dx, _, rfl, g1, by rfl, _, rfl, c', rs', g, rfl, hc9, hok', hn', hg, fun y H10 sm10 hy10 => ?_⟩
          refine ⟨_, rfl, _, rfl, q', rs', g, rfl, ⟨as', sm10 _ _ hl9, hr9.same sm10⟩, hok', hn', fun q2 H11 hq2 sm11 hl11 => ?_⟩
          refine ⟨_, _, rfl, ?_⟩
          dsimp only [List.set_cons_succ, List.set_cons_zero]
          have D11 := (D9.same sm10).same sm11
          have hqd := (D9.same sm10).free hq2
          have hy11 := hy10.same sm11
          obtain ⟨dy, u, cs, y1, y2, y3⟩ := id hy11
          obtain ⟨es, e1, e2⟩ := id hl11
          refine ⟨_, rfl, y, C, dy, _, _, rfl, y1, M.cl, M.n_rows, rfl, ?_⟩
          refine ⟨_, rfl, q2, _, rfl, .inl ⟨SqL.of e1, fun v hv => ?_⟩⟩
          have sm12 := new_same (o := .tup (refs es)) hv
          refine ⟨_, _, tup_dp (y3.same sm12) (sm12 _ _ y2), tup_dp (e2.updN hv) upd_same, tupD_shaped okg, tupD_shaped okg, ?_⟩
          rw [tup_eqv okg]
          refine ⟨_, rfl, iteF ?_⟩
          refine ⟨_, rfl, y, C, dy, _, _, rfl, sm12 _ _ y1, M.cl, M.n_rows, rfl, ?_⟩
          refine fun z dd hz0 hdd _ => make_codeR hz0 hdd (.inr (sm12 _ _ y2)) (y3.same sm12) okg hng (fun H13 sm13 hz13 => ⟨rfl, ?_⟩)
          obtain ⟨dz, uz, cz, z1, z2, z3⟩ := id hz13
          have sB := sm12.trans sm13
          refine ⟨_, rfl, z, y, C, dz, dy, _, _, MM.fe, MM.fde, _, _, 1, CX0, E, rfl, rfl, z1, sB _ _ y1, MM.me, MM.oke, hr.mono (by decide), MM.be, pass0, z, y, out rs' g, rfl, hz13, hy11.same sB, okg, true, rfl, _, rfl, iteF ?_⟩
          refine ⟨⟨_, _, _, _, y, q2, out rs' g, rfl, D11.same sB, hy11.same sB, hl11.same sB, hqd.1, hqd.2, okg, hng⟩, ?_⟩
          show (match H13 q2 with | some (.lst xs) => xs.length | _ => 0) < (match H7 q' with | some (.lst xs) => xs.length | _ => 0)
          rw [l1, sB _ _ e1]
          show (refs es).length < (refs as').length
          rw [hal', refs_len, e2.len, out_len hg]
          omega
        · intro σ H1 Q1 Q2 hq hc
          obtain ⟨x1, e1, hz, f1⟩ := hc
          refine ⟨x1, e1, hz, fun p hp => ?_⟩
          obtain ⟨d1, d2, h1, h2, h3, h4, b, eb, hc⟩ := f1 p hp
          exact ⟨d1, d2, h1, h2, h3, h4, b, eb, hq _ _ hc⟩
    · rintro σ H2 ⟨a2, a3, a4, a5, a6, a7, rfl, D2⟩
      refine ⟨by show 0 ≤ sizeLine; decide, fun e he => ?_⟩
      refine fun z dd hz0 hdd _ => make_codeR (as := []) (rs := []) hz0 hdd (.inl upd_same) RowsAt.nil RsOk.nil (by decide) (fun H3 sm3 hz3 => ⟨rfl, ?_⟩)
      obtain ⟨dz, uz, cz, z1, z2, z3⟩ := id hz3
      refine ⟨z, C, dz, _, MM.fl, MM.fdl, _, _, 1, CX0, E, rfl, z1, MM.ml, MM.il, MM.okl, hr.mono (by decide), MM.bl, pass0, z, [], rfl, hz3, _, rfl, by decide, by decide, ?_⟩
      refine ⟨rfl, _, rfl, ?_⟩
      refine ⟨by show 0 ≤ sizeLine; decide, fun e2 he2 => ?_⟩
      refine fun y dd hy0 hdd _ => make_codeR (as := []) (rs := []) hy0 hdd (.inr upd_same) RowsAt.nil RsOk.nil (by decide) (fun H4 sm4 hy4 => ⟨rfl, ?_⟩)
      obtain ⟨dy, uy, cy, y1, y2, y3⟩ := id hy4
      refine ⟨y, C, dy, _, _, rfl, y1, M.cl, M.n_rows, rfl, ?_⟩
      refine ⟨by show 0 ≤ sizeLine; decide, fun e3 he3 => ?_⟩
      have sm5 := new_same (o := .tup []) he3
      refine ⟨.tuple (([] : List Rw).map rowD), .tuple [], tup_dp (y3.same sm5) (sm5 _ _ y2), .tup (SqT.of upd_same) .nil, rfl, rfl, ?_⟩
      exact k _
end
end My

set_option Elab.async false
set_option linter.all false
set_option maxRecDepth 100000
set_option maxHeartbeats 0
namespace My
open PySem L2 MyR RT
def intsAre : List Value → List Int → Bool
  | [], [] => true
  | .int x _ :: r, y :: s => x == y && intsAre r s
  | _, _ => false
theorem ints_vals : ∀ {us : List Value} {zs : List Int}, intsAre us zs = true → Vals (zs.map V.int) us
  | [], zs, h => by
    cases zs with
    | nil => exact .nil
    | cons z s => cases h
  | v :: r, zs, h => by
    cases v with
    | int x t =>
      cases zs with
      | nil => cases h
      | cons y s =>
        have h' : (x == y && intsAre r s) = true := h
        rw [Bool.and_eq_true] at h'
        obtain rfl := beq_iff_eq.mp h'.1
        exact .cons ⟨t, rfl⟩ (ints_vals h'.2)
    | _ => cases zs <;> cases h
theorem ble_size {n : Nat} (h : Nat.ble n 1000 = true) : n ≤ sizeLine := Nat.le_of_lt (small1000 (Nat.le_of_ble_eq_true h))
theorem kit_own {K : PySem.W.Frag} {C D : Addr} (h1 : PySem.W.isClsIn K D = true) (h2 : PySem.W.typeIn K (.ref D) = some (.type "type")) (h3 : PySem.W.subIn K (.ref C) (.ref D) = some true) : PySem.W.kitOne K (.ref C) (.ref D) = some true := by
  unfold PySem.W.kitOne
  by_cases e : ((Value.ref C) == (Value.ref D)) = true
  · rw [if_pos e]
  · rw [if_neg e]
    have h1' : (PySem.W.clsIn K D).isSome = true := h1
    show (if ((PySem.W.clsIn K D).isSome && PySem.W.typeIn K (.ref D) == some (.type "type")) = true then PySem.W.subIn K (.ref C) (.ref D) else none) = some true
    rw [h1', h2, if_pos (by rfl)]
    exact h3
theorem all_mk {P : Program} {w : World} {K : PySem.W.Frag} {h : Heap} {mg : Str → Option Value} {fa : Addr} (X : K.In h) (G : h.Ns mainGlobals mg) (hfa : mg "law" = some (.ref fa))
    {f_is_integer f_is_between f_is_small f_is_item f_is_row f_shortened f_law_deal f_law_draw f_law_number f_law_row f_law_left_out f_law_far_row f_law_far_rows f_law_skipping f_law f_Code_init f_Code_without f_Code_len f_Code_eq C_Code aM aF : Addr}
    {od_is_integer an_is_integer : Option Addr} {sl_is_integer : Array (Option Value)} {oc_is_integer kV_is_integer dc_is_integer pm_is_integer cd_is_integer ct_is_integer : Value}
    {od_is_between an_is_between : Option Addr} {sl_is_between : Array (Option Value)} {oc_is_between kV_is_between dc_is_between pm_is_between cd_is_between ct_is_between : Value}
    {od_is_small an_is_small : Option Addr} {sl_is_small : Array (Option Value)} {oc_is_small kV_is_small dc_is_small pm_is_small cd_is_small ct_is_small : Value}
    {od_is_item an_is_item : Option Addr} {sl_is_item : Array (Option Value)} {oc_is_item kV_is_item dc_is_item pm_is_item cd_is_item ct_is_item : Value}
    {od_is_row an_is_row : Option Addr} {sl_is_row : Array (Option Value)} {oc_is_row kV_is_row dc_is_row pm_is_row cd_is_row ct_is_row : Value}
    {od_shortened an_shortened : Option Addr} {sl_shortened : Array (Option Value)} {oc_shortened kV_shortened dc_shortened pm_shortened cd_shortened ct_shortened : Value}
    {od_law_deal an_law_deal : Option Addr} {sl_law_deal : Array (Option Value)} {oc_law_deal kV_law_deal dc_law_deal pm_law_deal cd_law_deal ct_law_deal : Value}
    {od_law_draw an_law_draw : Option Addr} {sl_law_draw : Array (Option Value)} {oc_law_draw kV_law_draw dc_law_draw pm_law_draw cd_law_draw ct_law_draw : Value}
    {od_law_number an_law_number : Option Addr} {sl_law_number : Array (Option Value)} {oc_law_number kV_law_number dc_law_number pm_law_number cd_law_number ct_law_number : Value}
    {od_law_row an_law_row : Option Addr} {sl_law_row : Array (Option Value)} {oc_law_row kV_law_row dc_law_row pm_law_row cd_law_row ct_law_row : Value}
    {od_law_left_out an_law_left_out : Option Addr} {sl_law_left_out : Array (Option Value)} {oc_law_left_out kV_law_left_out dc_law_left_out pm_law_left_out cd_law_left_out ct_law_left_out : Value}
    {od_law_far_row an_law_far_row : Option Addr} {sl_law_far_row : Array (Option Value)} {oc_law_far_row kV_law_far_row dc_law_far_row pm_law_far_row cd_law_far_row ct_law_far_row : Value}
    {od_law_far_rows an_law_far_rows : Option Addr} {sl_law_far_rows : Array (Option Value)} {oc_law_far_rows kV_law_far_rows dc_law_far_rows pm_law_far_rows cd_law_far_rows ct_law_far_rows : Value}
    {od_law_skipping an_law_skipping : Option Addr} {sl_law_skipping : Array (Option Value)} {oc_law_skipping kV_law_skipping dc_law_skipping pm_law_skipping cd_law_skipping ct_law_skipping : Value}
    {od_law an_law : Option Addr} {sl_law : Array (Option Value)} {oc_law kV_law dc_law pm_law cd_law ct_law : Value}
    {od_Code_init an_Code_init : Option Addr} {sl_Code_init : Array (Option Value)} {oc_Code_init kV_Code_init dc_Code_init pm_Code_init cd_Code_init ct_Code_init : Value}
    {od_Code_without an_Code_without : Option Addr} {sl_Code_without : Array (Option Value)} {oc_Code_without kV_Code_without dc_Code_without pm_Code_without cd_Code_without ct_Code_without : Value}
    {od_Code_len an_Code_len : Option Addr} {sl_Code_len : Array (Option Value)} {oc_Code_len kV_Code_len dc_Code_len pm_Code_len cd_Code_len ct_Code_len : Value}
    {od_Code_eq an_Code_eq : Option Addr} {sl_Code_eq : Array (Option Value)} {oc_Code_eq kV_Code_eq dc_Code_eq pm_Code_eq cd_Code_eq ct_Code_eq : Value}
    {t1 t2 t3 t4 : Tok}
    {odM : Option Addr} {itsM : Array Value} {nM : Nat} {slM : Array (Option Value)} {esF : Array DictEntry} {nF : Nat}
    {tf_set tf_copy tf_add tf_sub tf_mul tf_left tf_right tf_load tf_store tf_skip : Tok}
    (a_is_integer : PySem.W.nsIn K mainGlobals "is_integer" = some (some (.ref f_is_integer)))
    (l_is_integer : K.lookup f_is_integer = some ⟨oc_is_integer, od_is_integer, .func (PySem.W.fnOf "is_integer" "is_integer" (defArgs s_is_integer) (defBody s_is_integer) (defScope s_is_integer) .none kV_is_integer dc_is_integer pm_is_integer an_is_integer cd_is_integer ct_is_integer), sl_is_integer⟩)
    (c_is_integer : PySem.W.codeIn K cd_is_integer "is_integer" = true)
    (k_is_integer : PySem.W.keepIn K (.ref f_is_integer) = true)
    (a_is_between : PySem.W.nsIn K mainGlobals "is_between" = some (some (.ref f_is_between)))
    (l_is_between : K.lookup f_is_between = some ⟨oc_is_between, od_is_between, .func (PySem.W.fnOf "is_between" "is_between" (defArgs s_is_between) (defBody s_is_between) (defScope s_is_between) .none kV_is_between dc_is_between pm_is_between an_is_between cd_is_between ct_is_between), sl_is_between⟩)
    (c_is_between : PySem.W.codeIn K cd_is_between "is_between" = true)
    (k_is_between : PySem.W.keepIn K (.ref f_is_between) = true)
    (a_is_small : PySem.W.nsIn K mainGlobals "is_small" = some (some (.ref f_is_small)))
    (l_is_small : K.lookup f_is_small = some ⟨oc_is_small, od_is_small, .func (PySem.W.fnOf "is_small" "is_small" (defArgs s_is_small) (defBody s_is_small) (defScope s_is_small) .none kV_is_small dc_is_small pm_is_small an_is_small cd_is_small ct_is_small), sl_is_small⟩)
    (c_is_small : PySem.W.codeIn K cd_is_small "is_small" = true)
    (k_is_small : PySem.W.keepIn K (.ref f_is_small) = true)
    (a_is_item : PySem.W.nsIn K mainGlobals "is_item" = some (some (.ref f_is_item)))
    (l_is_item : K.lookup f_is_item = some ⟨oc_is_item, od_is_item, .func (PySem.W.fnOf "is_item" "is_item" (defArgs s_is_item) (defBody s_is_item) (defScope s_is_item) .none kV_is_item dc_is_item pm_is_item an_is_item cd_is_item ct_is_item), sl_is_item⟩)
    (c_is_item : PySem.W.codeIn K cd_is_item "is_item" = true)
    (k_is_item : PySem.W.keepIn K (.ref f_is_item) = true)
    (a_is_row : PySem.W.nsIn K mainGlobals "is_row" = some (some (.ref f_is_row)))
    (l_is_row : K.lookup f_is_row = some ⟨oc_is_row, od_is_row, .func (PySem.W.fnOf "is_row" "is_row" (defArgs s_is_row) (defBody s_is_row) (defScope s_is_row) .none kV_is_row dc_is_row pm_is_row an_is_row cd_is_row ct_is_row), sl_is_row⟩)
    (c_is_row : PySem.W.codeIn K cd_is_row "is_row" = true)
    (k_is_row : PySem.W.keepIn K (.ref f_is_row) = true)
    (a_shortened : PySem.W.nsIn K mainGlobals "shortened" = some (some (.ref f_shortened)))
    (l_shortened : K.lookup f_shortened = some ⟨oc_shortened, od_shortened, .func (PySem.W.fnOf "shortened" "shortened" (defArgs s_shortened) (defBody s_shortened) (defScope s_shortened) .none kV_shortened dc_shortened pm_shortened an_shortened cd_shortened ct_shortened), sl_shortened⟩)
    (c_shortened : PySem.W.codeIn K cd_shortened "shortened" = true)
    (k_shortened : PySem.W.keepIn K (.ref f_shortened) = true)
    (a_law_deal : PySem.W.nsIn K mainGlobals "_law_deal" = some (some (.ref f_law_deal)))
    (l_law_deal : K.lookup f_law_deal = some ⟨oc_law_deal, od_law_deal, .func (PySem.W.fnOf "_law_deal" "_law_deal" (defArgs s_law_deal) (defBody s_law_deal) (defScope s_law_deal) .none kV_law_deal dc_law_deal pm_law_deal an_law_deal cd_law_deal ct_law_deal), sl_law_deal⟩)
    (c_law_deal : PySem.W.codeIn K cd_law_deal "_law_deal" = true)
    (k_law_deal : PySem.W.keepIn K (.ref f_law_deal) = true)
    (a_law_draw : PySem.W.nsIn K mainGlobals "_law_draw" = some (some (.ref f_law_draw)))
    (l_law_draw : K.lookup f_law_draw = some ⟨oc_law_draw, od_law_draw, .func (PySem.W.fnOf "_law_draw" "_law_draw" (defArgs s_law_draw) (defBody s_law_draw) (defScope s_law_draw) .none kV_law_draw dc_law_draw pm_law_draw an_law_draw cd_law_draw ct_law_draw), sl_law_draw⟩)
    (c_law_draw : PySem.W.codeIn K cd_law_draw "_law_draw" = true)
    (k_law_draw : PySem.W.keepIn K (.ref f_law_draw) = true)
    (a_law_number : PySem.W.nsIn K mainGlobals "_law_number" = some (some (.ref f_law_number)))
    (l_law_number : K.lookup f_law_number = some ⟨oc_law_number, od_law_number, .func (PySem.W.fnOf "_law_number" "_law_number" (defArgs s_law_number) (defBody s_law_number) (defScope s_law_number) .none kV_law_number dc_law_number pm_law_number an_law_number cd_law_number ct_law_number), sl_law_number⟩)
    (c_law_number : PySem.W.codeIn K cd_law_number "_law_number" = true)
    (k_law_number : PySem.W.keepIn K (.ref f_law_number) = true)
    (a_law_row : PySem.W.nsIn K mainGlobals "_law_row" = some (some (.ref f_law_row)))
    (l_law_row : K.lookup f_law_row = some ⟨oc_law_row, od_law_row, .func (PySem.W.fnOf "_law_row" "_law_row" (defArgs s_law_row) (defBody s_law_row) (defScope s_law_row) .none kV_law_row dc_law_row pm_law_row an_law_row cd_law_row ct_law_row), sl_law_row⟩)
    (c_law_row : PySem.W.codeIn K cd_law_row "_law_row" = true)
    (k_law_row : PySem.W.keepIn K (.ref f_law_row) = true)
    (a_law_left_out : PySem.W.nsIn K mainGlobals "_law_left_out" = some (some (.ref f_law_left_out)))
    (l_law_left_out : K.lookup f_law_left_out = some ⟨oc_law_left_out, od_law_left_out, .func (PySem.W.fnOf "_law_left_out" "_law_left_out" (defArgs s_law_left_out) (defBody s_law_left_out) (defScope s_law_left_out) .none kV_law_left_out dc_law_left_out pm_law_left_out an_law_left_out cd_law_left_out ct_law_left_out), sl_law_left_out⟩)
    (c_law_left_out : PySem.W.codeIn K cd_law_left_out "_law_left_out" = true)
    (k_law_left_out : PySem.W.keepIn K (.ref f_law_left_out) = true)
    (a_law_far_row : PySem.W.nsIn K mainGlobals "_law_far_row" = some (some (.ref f_law_far_row)))
    (l_law_far_row : K.lookup f_law_far_row = some ⟨oc_law_far_row, od_law_far_row, .func (PySem.W.fnOf "_law_far_row" "_law_far_row" (defArgs s_law_far_row) (defBody s_law_far_row) (defScope s_law_far_row) .none kV_law_far_row dc_law_far_row pm_law_far_row an_law_far_row cd_law_far_row ct_law_far_row), sl_law_far_row⟩)
    (c_law_far_row : PySem.W.codeIn K cd_law_far_row "_law_far_row" = true)
    (k_law_far_row : PySem.W.keepIn K (.ref f_law_far_row) = true)
    (a_law_far_rows : PySem.W.nsIn K mainGlobals "_law_far_rows" = some (some (.ref f_law_far_rows)))
    (l_law_far_rows : K.lookup f_law_far_rows = some ⟨oc_law_far_rows, od_law_far_rows, .func (PySem.W.fnOf "_law_far_rows" "_law_far_rows" (defArgs s_law_far_rows) (defBody s_law_far_rows) (defScope s_law_far_rows) .none kV_law_far_rows dc_law_far_rows pm_law_far_rows an_law_far_rows cd_law_far_rows ct_law_far_rows), sl_law_far_rows⟩)
    (c_law_far_rows : PySem.W.codeIn K cd_law_far_rows "_law_far_rows" = true)
    (k_law_far_rows : PySem.W.keepIn K (.ref f_law_far_rows) = true)
    (a_law_skipping : PySem.W.nsIn K mainGlobals "_law_skipping" = some (some (.ref f_law_skipping)))
    (l_law_skipping : K.lookup f_law_skipping = some ⟨oc_law_skipping, od_law_skipping, .func (PySem.W.fnOf "_law_skipping" "_law_skipping" (defArgs s_law_skipping) (defBody s_law_skipping) (defScope s_law_skipping) .none kV_law_skipping dc_law_skipping pm_law_skipping an_law_skipping cd_law_skipping ct_law_skipping), sl_law_skipping⟩)
    (c_law_skipping : PySem.W.codeIn K cd_law_skipping "_law_skipping" = true)
    (k_law_skipping : PySem.W.keepIn K (.ref f_law_skipping) = true)
    (a_law : PySem.W.nsIn K mainGlobals "law" = some (some (.ref f_law)))
    (l_law : K.lookup f_law = some ⟨oc_law, od_law, .func (PySem.W.fnOf "law" "law" (defArgs s_law) (defBody s_law) (defScope s_law) .none kV_law dc_law pm_law an_law cd_law ct_law), sl_law⟩)
    (c_law : PySem.W.codeIn K cd_law "law" = true)
    (k_law : PySem.W.keepIn K (.ref f_law) = true)
    (a_Code : PySem.W.nsIn K mainGlobals "Code" = some (some (.ref C_Code)))
    (m_Code_init : PySem.W.findIn K (.ref C_Code) "__init__" = some (some (.ref f_Code_init)))
    (l_Code_init : K.lookup f_Code_init = some ⟨oc_Code_init, od_Code_init, .func (PySem.W.fnOf "__init__" "Code.__init__" (defArgs s_Code_init) (defBody s_Code_init) (defScope s_Code_init) .none kV_Code_init dc_Code_init pm_Code_init an_Code_init cd_Code_init ct_Code_init), sl_Code_init⟩)
    (c_Code_init : PySem.W.codeIn K cd_Code_init "Code.__init__" = true)
    (k_Code_init : PySem.W.keepIn K (.ref f_Code_init) = true)
    (i_Code_init : PySem.W.isFn K (.ref f_Code_init) = true)
    (m_Code_without : PySem.W.findIn K (.ref C_Code) "without" = some (some (.ref f_Code_without)))
    (l_Code_without : K.lookup f_Code_without = some ⟨oc_Code_without, od_Code_without, .func (PySem.W.fnOf "without" "Code.without" (defArgs s_Code_without) (defBody s_Code_without) (defScope s_Code_without) .none kV_Code_without dc_Code_without pm_Code_without an_Code_without cd_Code_without ct_Code_without), sl_Code_without⟩)
    (c_Code_without : PySem.W.codeIn K cd_Code_without "Code.without" = true)
    (k_Code_without : PySem.W.keepIn K (.ref f_Code_without) = true)
    (i_Code_without : PySem.W.isFn K (.ref f_Code_without) = true)
    (m_Code_len : PySem.W.findIn K (.ref C_Code) "__len__" = some (some (.ref f_Code_len)))
    (l_Code_len : K.lookup f_Code_len = some ⟨oc_Code_len, od_Code_len, .func (PySem.W.fnOf "__len__" "Code.__len__" (defArgs s_Code_len) (defBody s_Code_len) (defScope s_Code_len) .none kV_Code_len dc_Code_len pm_Code_len an_Code_len cd_Code_len ct_Code_len), sl_Code_len⟩)
    (c_Code_len : PySem.W.codeIn K cd_Code_len "Code.__len__" = true)
    (k_Code_len : PySem.W.keepIn K (.ref f_Code_len) = true)
    (i_Code_len : PySem.W.isFn K (.ref f_Code_len) = true)
    (m_Code_eq : PySem.W.findIn K (.ref C_Code) "__eq__" = some (some (.ref f_Code_eq)))
    (l_Code_eq : K.lookup f_Code_eq = some ⟨oc_Code_eq, od_Code_eq, .func (PySem.W.fnOf "__eq__" "Code.__eq__" (defArgs s_Code_eq) (defBody s_Code_eq) (defScope s_Code_eq) .none kV_Code_eq dc_Code_eq pm_Code_eq an_Code_eq cd_Code_eq ct_Code_eq), sl_Code_eq⟩)
    (c_Code_eq : PySem.W.codeIn K cd_Code_eq "Code.__eq__" = true)
    (k_Code_eq : PySem.W.keepIn K (.ref f_Code_eq) = true)
    (i_Code_eq : PySem.W.isFn K (.ref f_Code_eq) = true)
    (pg : PySem.W.plainGet K C_Code Str.empty = true)
    (hd : PySem.W.hasDictIn K C_Code = true)
    (po : PySem.W.plainOver K C_Code = true)
    (sa : PySem.W.findIn K (.ref C_Code) "__setattr__" = some (some (.builtin "object.__setattr__")))
    (mk : PySem.W.makesIn K C_Code = true)
    (kc : PySem.W.keepIn K (.ref C_Code) = true)
    (n_rows : PySem.W.findIn K (.ref C_Code) "rows" = some none)
    (ca : PySem.W.findIn K (.ref C_Code) "__class__" = some (some (.builtin "object.__class__")))
    (cm : PySem.W.mroIn K C_Code (.type "object") = some true)
    (ty : PySem.W.typeIn K (.ref C_Code) = some (.type "type"))
    (ne : PySem.W.findIn K (.ref C_Code) "__ne__" = some (some (.builtin "object.__ne__")))
    (sb : PySem.W.subIn K (.ref C_Code) (.ref C_Code) = some true)
    (cls : PySem.W.isClsIn K C_Code = true)
    (cn : PySem.W.specialIn K (.builtin "object.__class__") "__get__" = some (some (.builtin "getset_descriptor.__get__")))
    (ct : PySem.W.takesIn K (.builtin "object.__class__") = some true)
    (gl_LIMIT : PySem.W.nsIn K mainGlobals "LIMIT" = some (some (.int 18446744073709551616 t1)))
    (gl_ROWS : PySem.W.nsIn K mainGlobals "MOST_ROWS" = some (some (.int 1000 t2)))
    (gl_REGS : PySem.W.nsIn K mainGlobals "MOST_REGISTERS" = some (some (.int 8 t3)))
    (gl_SLOTS : PySem.W.nsIn K mainGlobals "SLOTS" = some (some (.int 1000 t4)))
    (gl_MODULI : PySem.W.nsIn K mainGlobals "MODULI" = some (some (.ref aM)))
    (gl_FORMS : PySem.W.nsIn K mainGlobals "FORMS" = some (some (.ref aF)))
    (lM : K.lookup aM = some ⟨.type "tuple", odM, .seq itsM nM, slM⟩)
    (sM : intsAre itsM.toList mods = true)
    (zM : Nat.ble itsM.size 1000 = true)
    (lF : K.lookup aF = some ⟨.type "dict", none, .dict esF nF, #[]⟩)
    (kF : PySem.W.KeysLit w.params esF.toList)
    (oF : (aF == sysModules) = false)
    (d_set : PySem.W.nsIn K aF "set" = some (some (.str "WI" tf_set)))
    (d_copy : PySem.W.nsIn K aF "copy" = some (some (.str "WR" tf_copy)))
    (d_add : PySem.W.nsIn K aF "add" = some (some (.str "WRR" tf_add)))
    (d_sub : PySem.W.nsIn K aF "sub" = some (some (.str "WRR" tf_sub)))
    (d_mul : PySem.W.nsIn K aF "mul" = some (some (.str "WRR" tf_mul)))
    (d_left : PySem.W.nsIn K aF "left" = some (some (.str "WR" tf_left)))
    (d_right : PySem.W.nsIn K aF "right" = some (some (.str "WR" tf_right)))
    (d_load : PySem.W.nsIn K aF "load" = some (some (.str "WS" tf_load)))
    (d_store : PySem.W.nsIn K aF "store" = some (some (.str "SR" tf_store)))
    (d_skip : PySem.W.nsIn K aF "skip" = some (some (.str "RMCN" tf_skip)))
    (z_len : PySem.W.nsIn K mainGlobals "len" = some none)
    (z_max : PySem.W.nsIn K mainGlobals "max" = some none)
    (z_list : PySem.W.nsIn K mainGlobals "list" = some none)
    (z_tuple : PySem.W.nsIn K mainGlobals "tuple" = some none)
    (z_reversed : PySem.W.nsIn K mainGlobals "reversed" = some none)
    (z_range : PySem.W.nsIn K mainGlobals "range" = some none)
    (z_int : PySem.W.nsIn K mainGlobals "int" = some none)
    (z_str : PySem.W.nsIn K mainGlobals "str" = some none)
    (z_bool : PySem.W.nsIn K mainGlobals "bool" = some none)
    (z_isinstance : PySem.W.nsIn K mainGlobals "isinstance" = some none)
    (z_all : PySem.W.nsIn K mainGlobals "all" = some none)
    (z_enumerate : PySem.W.nsIn K mainGlobals "enumerate" = some none)
    (z_zip : PySem.W.nsIn K mainGlobals "zip" = some none) :
    ∃ fd : FuncData, (∀ (s : Shared) (v : Value), BindsTo s fd ⟨[v], []⟩ [("_law_script", v)]) ∧ ∀ base : Heap, K.In base → base.Ns mainGlobals mg → FnOk P w K mg base CX0 8 fa fd ["_law_script"] (spLaw K) := by
  have e := hfa.symm.trans (PySem.W.mg_of X G a_law)
  cases e
  refine ⟨PySem.W.fnOf "law" "law" (defArgs s_law) (defBody s_law) (defScope s_law) .none kV_law dc_law pm_law an_law cd_law ct_law, fun s v => .of_eq rfl, fun base _ _ => ?_⟩
  have F_is_integer := fun_mk (st := s_is_integer) l_is_integer c_is_integer k_is_integer
  have F_is_between := fun_mk (st := s_is_between) l_is_between c_is_between k_is_between
  have F_is_small := fun_mk (st := s_is_small) l_is_small c_is_small k_is_small
  have F_is_item := fun_mk (st := s_is_item) l_is_item c_is_item k_is_item
  have F_is_row := fun_mk (st := s_is_row) l_is_row c_is_row k_is_row
  have F_shortened := fun_mk (st := s_shortened) l_shortened c_shortened k_shortened
  have F_law_deal := fun_mk (st := s_law_deal) l_law_deal c_law_deal k_law_deal
  have F_law_draw := fun_mk (st := s_law_draw) l_law_draw c_law_draw k_law_draw
  have F_law_number := fun_mk (st := s_law_number) l_law_number c_law_number k_law_number
  have F_law_row := fun_mk (st := s_law_row) l_law_row c_law_row k_law_row
  have F_law_left_out := fun_mk (st := s_law_left_out) l_law_left_out c_law_left_out k_law_left_out
  have F_law_far_row := fun_mk (st := s_law_far_row) l_law_far_row c_law_far_row k_law_far_row
  have F_law_far_rows := fun_mk (st := s_law_far_rows) l_law_far_rows c_law_far_rows k_law_far_rows
  have F_law_skipping := fun_mk (st := s_law_skipping) l_law_skipping c_law_skipping k_law_skipping
  have F_law := fun_mk (st := s_law) l_law c_law k_law
  have F_Code_init := fun_mk (st := s_Code_init) l_Code_init c_Code_init k_Code_init
  have F_Code_without := fun_mk (st := s_Code_without) l_Code_without c_Code_without k_Code_without
  have F_Code_len := fun_mk (st := s_Code_len) l_Code_len c_Code_len k_Code_len
  have F_Code_eq := fun_mk (st := s_Code_eq) l_Code_eq c_Code_eq k_Code_eq
  have b_is_integer := F_is_integer.binds (ps := ["value"]) fun _ _ _ _ _ _ us hl => match us, hl with | [_], _ => rfl
  have b_is_between := F_is_between.binds (ps := ["value", "least", "most"]) fun _ _ _ _ _ _ us hl => match us, hl with | [_, _, _], _ => rfl
  have b_is_small := F_is_small.binds (ps := ["value"]) fun _ _ _ _ _ _ us hl => match us, hl with | [_], _ => rfl
  have b_is_item := F_is_item.binds (ps := ["letter", "value"]) fun _ _ _ _ _ _ us hl => match us, hl with | [_, _], _ => rfl
  have b_is_row := F_is_row.binds (ps := ["row"]) fun _ _ _ _ _ _ us hl => match us, hl with | [_], _ => rfl
  have b_shortened := F_shortened.binds (ps := ["row", "at", "gone"]) fun _ _ _ _ _ _ us hl => match us, hl with | [_, _, _], _ => rfl
  have b_law_deal := F_law_deal.binds (ps := ["_law_script", "_law_base"]) fun _ _ _ _ _ _ us hl => match us, hl with | [_, _], _ => rfl
  have b_law_draw := F_law_draw.binds (ps := ["_law_deal_here", "_law_many"]) fun _ _ _ _ _ _ us hl => match us, hl with | [_, _], _ => rfl
  have b_law_number := F_law_number.binds (ps := ["_law_deal_here"]) fun _ _ _ _ _ _ us hl => match us, hl with | [_], _ => rfl
  have b_law_row := F_law_row.binds (ps := ["_law_deal_here", "_law_registers", "_law_left"]) fun _ _ _ _ _ _ us hl => match us, hl with | [_, _, _], _ => rfl
  have b_law_left_out := F_law_left_out.binds (ps := ["_law_rows", "_law_at"]) fun _ _ _ _ _ _ us hl => match us, hl with | [_, _], _ => rfl
  have b_law_far_row := F_law_far_row.binds (ps := ["_law_deal_here", "_law_registers", "_law_left"]) fun _ _ _ _ _ _ us hl => match us, hl with | [_, _, _], _ => rfl
  have b_law_far_rows := F_law_far_rows.binds (ps := ["_law_deal_here", "_law_registers", "_law_many"]) fun _ _ _ _ _ _ us hl => match us, hl with | [_, _, _], _ => rfl
  have b_law_skipping := F_law_skipping.binds (ps := ["_law_deal_here", "_law_many"]) fun _ _ _ _ _ _ us hl => match us, hl with | [_, _], _ => rfl
  have b_law := F_law.binds (ps := ["_law_script"]) fun _ _ _ _ _ _ us hl => match us, hl with | [_], _ => rfl
  have b_Code_init := F_Code_init.binds (ps := ["self", "rows"]) fun _ _ _ _ _ _ us hl => match us, hl with | [_, _], _ => rfl
  have b_Code_without := F_Code_without.binds (ps := ["self", "at"]) fun _ _ _ _ _ _ us hl => match us, hl with | [_, _], _ => rfl
  have b_Code_len := F_Code_len.binds (ps := ["self"]) fun _ _ _ _ _ _ us hl => match us, hl with | [_], _ => rfl
  have b_Code_eq := F_Code_eq.binds (ps := ["self", "other"]) fun _ _ _ _ _ _ us hl => match us, hl with | [_, _], _ => rfl
  have T : Glob mg := ⟨PySem.W.mg_none_of X G z_len, PySem.W.mg_none_of X G z_max, PySem.W.mg_none_of X G z_list, PySem.W.mg_none_of X G z_tuple, PySem.W.mg_none_of X G z_reversed, PySem.W.mg_none_of X G z_range, PySem.W.mg_none_of X G z_int, PySem.W.mg_none_of X G z_str, PySem.W.mg_none_of X G z_bool, PySem.W.mg_none_of X G z_isinstance, PySem.W.mg_none_of X G z_all, PySem.W.mg_none_of X G z_enumerate, PySem.W.mg_none_of X G z_zip⟩
  have hFs : ∀ x f, (x, f) ∈ forms → KDct K w aF x (.str f) := by
    intro x f hm
    have q : (x = ("set" : Str) ∧ f = ("WI" : Str)) ∨ (x = ("copy" : Str) ∧ f = ("WR" : Str)) ∨ (x = ("add" : Str) ∧ f = ("WRR" : Str)) ∨ (x = ("sub" : Str) ∧ f = ("WRR" : Str)) ∨ (x = ("mul" : Str) ∧ f = ("WRR" : Str)) ∨ (x = ("left" : Str) ∧ f = ("WR" : Str)) ∨ (x = ("right" : Str) ∧ f = ("WR" : Str)) ∨ (x = ("load" : Str) ∧ f = ("WS" : Str)) ∨ (x = ("store" : Str) ∧ f = ("SR" : Str)) ∨ (x = ("skip" : Str) ∧ f = ("RMCN" : Str)) := by
      unfold forms at hm
      simp only [List.mem_cons, List.not_mem_nil, or_false, Prod.mk.injEq] at hm
      exact hm
    rcases q with ⟨rfl, rfl⟩ | ⟨rfl, rfl⟩ | ⟨rfl, rfl⟩ | ⟨rfl, rfl⟩ | ⟨rfl, rfl⟩ | ⟨rfl, rfl⟩ | ⟨rfl, rfl⟩ | ⟨rfl, rfl⟩ | ⟨rfl, rfl⟩ | ⟨rfl, rfl⟩
    · exact ⟨esF, nF, _, lF, kF, d_set, ⟨_, rfl⟩⟩
    · exact ⟨esF, nF, _, lF, kF, d_copy, ⟨_, rfl⟩⟩
    · exact ⟨esF, nF, _, lF, kF, d_add, ⟨_, rfl⟩⟩
    · exact ⟨esF, nF, _, lF, kF, d_sub, ⟨_, rfl⟩⟩
    · exact ⟨esF, nF, _, lF, kF, d_mul, ⟨_, rfl⟩⟩
    · exact ⟨esF, nF, _, lF, kF, d_left, ⟨_, rfl⟩⟩
    · exact ⟨esF, nF, _, lF, kF, d_right, ⟨_, rfl⟩⟩
    · exact ⟨esF, nF, _, lF, kF, d_load, ⟨_, rfl⟩⟩
    · exact ⟨esF, nF, _, lF, kF, d_store, ⟨_, rfl⟩⟩
    · exact ⟨esF, nF, _, lF, kF, d_skip, ⟨_, rfl⟩⟩
  have T2 : Tabs w K mg := ⟨⟨t1, PySem.W.mg_of X G gl_LIMIT⟩, ⟨t2, PySem.W.mg_of X G gl_ROWS⟩, ⟨t3, PySem.W.mg_of X G gl_REGS⟩, ⟨t4, PySem.W.mg_of X G gl_SLOTS⟩, ⟨aM, PySem.W.mg_of X G gl_MODULI, fun H => .inr ⟨_, itsM, nM, lM, rfl, rfl, ble_size zM, ints_vals sM⟩⟩, ⟨aF, PySem.W.mg_of X G gl_FORMS, ⟨esF, nF, lF, kF, oF⟩, hFs⟩⟩
  have cl : Cls K C_Code := ⟨pg, hd, po, sa⟩
  have nm : ClsN K C_Code := ⟨ca, cn, ct, cm, kit_own cls ty sb⟩
  have D_is_integer : Df P w K mg base 1 "is_integer" ["value"] spInt := ⟨f_is_integer, _, ok_is_integer F_is_integer T, PySem.W.mg_of X G a_is_integer, k_is_integer, b_is_integer⟩
  have D_is_between : Df P w K mg base 2 "is_between" ["value", "least", "most"] spBtw := ⟨f_is_between, _, ok_is_between F_is_between D_is_integer, PySem.W.mg_of X G a_is_between, k_is_between, b_is_between⟩
  have D_is_small : Df P w K mg base 2 "is_small" ["value"] spSmall := ⟨f_is_small, _, ok_is_small F_is_small T2 D_is_integer, PySem.W.mg_of X G a_is_small, k_is_small, b_is_small⟩
  have D_is_item : Df P w K mg base 3 "is_item" ["letter", "value"] spItem := ⟨f_is_item, _, ok_is_item F_is_item T2 D_is_between D_is_small, PySem.W.mg_of X G a_is_item, k_is_item, b_is_item⟩
  have D_is_row : Df P w K mg base 4 "is_row" ["row"] spRow := ⟨f_is_row, _, ok_is_row F_is_row T T2 D_is_item, PySem.W.mg_of X G a_is_row, k_is_row, b_is_row⟩
  have D_shortened : Df P w K mg base 1 "shortened" ["row", "at", "gone"] spShort := ⟨f_shortened, _, ok_shortened F_shortened, PySem.W.mg_of X G a_shortened, k_shortened, b_shortened⟩
  have M : CodeOk P w K mg base C_Code := ⟨f_Code_init, _, ⟨mk, m_Code_init, i_Code_init, kc⟩, ok_Code_init F_Code_init T T2 cl n_rows D_is_row, PySem.W.mg_of X G a_Code, b_Code_init, cl, n_rows⟩
  have MM : CodeM P w K mg base C_Code := ⟨f_Code_without, _, ⟨m_Code_without, i_Code_without, k_Code_without⟩, ok_Code_without F_Code_without T M D_shortened, b_Code_without, f_Code_len, _, m_Code_len, i_Code_len, ok_Code_len F_Code_len T cl n_rows, b_Code_len, f_Code_eq, _, ⟨m_Code_eq, ne, i_Code_eq, cm⟩, ok_Code_eq F_Code_eq T cl nm n_rows (PySem.W.mg_of X G a_Code), b_Code_eq⟩
  have D_law_deal : Df P w K mg base 1 "_law_deal" ["_law_script", "_law_base"] (spDeal K) := ⟨f_law_deal, _, ok_law_deal F_law_deal T, PySem.W.mg_of X G a_law_deal, k_law_deal, b_law_deal⟩
  have D_law_draw : Df P w K mg base 1 "_law_draw" ["_law_deal_here", "_law_many"] spDraw := ⟨f_law_draw, _, ok_law_draw F_law_draw T, PySem.W.mg_of X G a_law_draw, k_law_draw, b_law_draw⟩
  have D_law_number : Df P w K mg base 2 "_law_number" ["_law_deal_here"] spNum := ⟨f_law_number, _, ok_law_number F_law_number T D_law_draw, PySem.W.mg_of X G a_law_number, k_law_number, b_law_number⟩
  have D_law_row : Df P w K mg base 3 "_law_row" ["_law_deal_here", "_law_registers", "_law_left"] spRowL := ⟨f_law_row, _, ok_law_row F_law_row T D_law_draw D_law_number, PySem.W.mg_of X G a_law_row, k_law_row, b_law_row⟩
  have D_law_left_out : Df P w K mg base 1 "_law_left_out" ["_law_rows", "_law_at"] spLeft := ⟨f_law_left_out, _, ok_law_left_out F_law_left_out T, PySem.W.mg_of X G a_law_left_out, k_law_left_out, b_law_left_out⟩
  have D_law_far_row : Df P w K mg base 4 "_law_far_row" ["_law_deal_here", "_law_registers", "_law_left"] spRowL := ⟨f_law_far_row, _, ok_law_far_row F_law_far_row T D_law_draw D_law_row, PySem.W.mg_of X G a_law_far_row, k_law_far_row, b_law_far_row⟩
  have D_law_far_rows : Df P w K mg base 5 "_law_far_rows" ["_law_deal_here", "_law_registers", "_law_many"] spRows := ⟨f_law_far_rows, _, ok_law_far_rows F_law_far_rows T D_law_far_row, PySem.W.mg_of X G a_law_far_rows, k_law_far_rows, b_law_far_rows⟩
  have D_law_skipping : Df P w K mg base 6 "_law_skipping" ["_law_deal_here", "_law_many"] spSkip := ⟨f_law_skipping, _, ok_law_skipping F_law_skipping T D_law_draw D_law_far_rows, PySem.W.mg_of X G a_law_skipping, k_law_skipping, b_law_skipping⟩
  exact ok_law F_law T M MM D_law_deal D_law_draw D_law_skipping D_law_left_out
end My

set_option Elab.async false
set_option linter.all false
set_option maxRecDepth 100000
set_option maxHeartbeats 1000000
namespace My
open PySem L2 MyR RT
theorem walk {l : PySem.W.OpenLaw} {q : Program} {loose : List Str} {XP : (Str → Option Value) → Heap → Prop} {YP : World → Heap → Prop} {d : DefRec} {K : Params → PySem.W.Frag} (hn : l.most = some 63) (hdf : d.params.defaults = [])
    (hY : ∀ (w : World) (h : Heap), YP w h → (K w.params).In h)
    (F : ∀ (w : World) (mg : Str → Option Value) (fa : Addr) (h : Heap), (K w.params).In h → h.Ns mainGlobals mg → mg d.name = some (.ref fa) →
      ∃ fd : FuncData, (∀ (s : Shared) (u : Value), BindsTo s fd ⟨[u], []⟩ [("_law_script", u)]) ∧ ∀ base : Heap, (K w.params).In base → base.Ns mainGlobals mg → FnOk l.prog w (K w.params) mg base CX0 8 fa fd ["_law_script"] (spLaw (K w.params))) :
    PySem.W.WalkO q loose XP YP l.row.toRowW d [] (fun f vs => PySem.call f vs) :=
  L2.walk_of (n := 63) (k := 8) (x := "_law_script") (CX := fun _ => CX0) (sp := fun w => spLaw (K w.params)) hn (by decide) hdf ⟨rfl, by decide, by decide⟩ hY F (fun _ _ a ns hl _ hS => ⟨a, ns, rfl, hS, hl, fun _ => rfl⟩) fun _ _ _ _ _ z => z
end My
open PySem PySem.W PyProof.Rows
set_option maxRecDepth 100000 in
set_option maxHeartbeats 0 in
theorem PySem.Challenge.cw_lowsure_k54_code_without_rows_holds : PySem.Challenge.rw_lowsure_k54_code_without_rows.Holds := by
  w_on; o_law; k_head; (case hw => w_witness2)
  k_fill
  refine My.walk (l := PySem.Challenge.rw_lowsure_k54_code_without_rows) rfl rfl (fun w h Y => PySem.W.kIn_of Y) ?F
  case F =>
    intro w mg fa h KX G hmg
    refine' My.all_mk KX G hmg ?a_is_integer ?l_is_integer ?c_is_integer ?k_is_integer ?a_is_between ?l_is_between ?c_is_between ?k_is_between ?a_is_small ?l_is_small ?c_is_small ?k_is_small ?a_is_item ?l_is_item ?c_is_item ?k_is_item ?a_is_row ?l_is_row ?c_is_row ?k_is_row ?a_shortened ?l_shortened ?c_shortened ?k_shortened ?a_law_deal ?l_law_deal ?c_law_deal ?k_law_deal ?a_law_draw ?l_law_draw ?c_law_draw ?k_law_draw ?a_law_number ?l_law_number ?c_law_number ?k_law_number ?a_law_row ?l_law_row ?c_law_row ?k_law_row ?a_law_left_out ?l_law_left_out ?c_law_left_out ?k_law_left_out ?a_law_far_row ?l_law_far_row ?c_law_far_row ?k_law_far_row ?a_law_far_rows ?l_law_far_rows ?c_law_far_rows ?k_law_far_rows ?a_law_skipping ?l_law_skipping ?c_law_skipping ?k_law_skipping ?a_law ?l_law ?c_law ?k_law ?a_Code ?m_Code_init ?l_Code_init ?c_Code_init ?k_Code_init ?i_Code_init ?m_Code_without ?l_Code_without ?c_Code_without ?k_Code_without ?i_Code_without ?m_Code_len ?l_Code_len ?c_Code_len ?k_Code_len ?i_Code_len ?m_Code_eq ?l_Code_eq ?c_Code_eq ?k_Code_eq ?i_Code_eq ?pg ?hd ?po ?sa ?mk ?kc ?n_rows ?ca ?cm ?ty ?ne ?sb ?cls ?cn ?ct ?gl_LIMIT ?gl_ROWS ?gl_REGS ?gl_SLOTS ?gl_MODULI ?gl_FORMS ?lM ?sM ?zM ?lF ?kF ?oF ?d_set ?d_copy ?d_add ?d_sub ?d_mul ?d_left ?d_right ?d_load ?d_store ?d_skip ?z_len ?z_max ?z_list ?z_tuple ?z_reversed ?z_range ?z_int ?z_str ?z_bool ?z_isinstance ?z_all ?z_enumerate ?z_zip
    (case a_is_integer => k_is)
    (case l_is_integer => k_is)
    (case c_is_integer => k_is)
    (case k_is_integer => k_is)
    (case a_is_between => k_is)
    (case l_is_between => k_is)
    (case c_is_between => k_is)
    (case k_is_between => k_is)
    (case a_is_small => k_is)
    (case l_is_small => k_is)
    (case c_is_small => k_is)
    (case k_is_small => k_is)
    (case a_is_item => k_is)
    (case l_is_item => k_is)
    (case c_is_item => k_is)
    (case k_is_item => k_is)
    (case a_is_row => k_is)
    (case l_is_row => k_is)
    (case c_is_row => k_is)
    (case k_is_row => k_is)
    (case a_shortened => k_is)
    (case l_shortened => k_is)
    (case c_shortened => k_is)
    (case k_shortened => k_is)
    (case a_law_deal => k_is)
    (case l_law_deal => k_is)
    (case c_law_deal => k_is)
    (case k_law_deal => k_is)
    (case a_law_draw => k_is)
    (case l_law_draw => k_is)
    (case c_law_draw => k_is)
    (case k_law_draw => k_is)
    (case a_law_number => k_is)
    (case l_law_number => k_is)
    (case c_law_number => k_is)
    (case k_law_number => k_is)
    (case a_law_row => k_is)
    (case l_law_row => k_is)
    (case c_law_row => k_is)
    (case k_law_row => k_is)
    (case a_law_left_out => k_is)
    (case l_law_left_out => k_is)
    (case c_law_left_out => k_is)
    (case k_law_left_out => k_is)
    (case a_law_far_row => k_is)
    (case l_law_far_row => k_is)
    (case c_law_far_row => k_is)
    (case k_law_far_row => k_is)
    (case a_law_far_rows => k_is)
    (case l_law_far_rows => k_is)
    (case c_law_far_rows => k_is)
    (case k_law_far_rows => k_is)
    (case a_law_skipping => k_is)
    (case l_law_skipping => k_is)
    (case c_law_skipping => k_is)
    (case k_law_skipping => k_is)
    (case a_law => k_is)
    (case l_law => k_is)
    (case c_law => k_is)
    (case k_law => k_is)
    (case a_Code => k_is)
    (case m_Code_init => k_is)
    (case l_Code_init => k_is)
    (case c_Code_init => k_is)
    (case k_Code_init => k_is)
    (case i_Code_init => k_is)
    (case m_Code_without => k_is)
    (case l_Code_without => k_is)
    (case c_Code_without => k_is)
    (case k_Code_without => k_is)
    (case i_Code_without => k_is)
    (case m_Code_len => k_is)
    (case l_Code_len => k_is)
    (case c_Code_len => k_is)
    (case k_Code_len => k_is)
    (case i_Code_len => k_is)
    (case m_Code_eq => k_is)
    (case l_Code_eq => k_is)
    (case c_Code_eq => k_is)
    (case k_Code_eq => k_is)
    (case i_Code_eq => k_is)
    (case pg => k_is)
    (case hd => k_is)
    (case po => k_is)
    (case sa => k_is)
    (case mk => k_is)
    (case kc => k_is)
    (case n_rows => k_is)
    (case ca => k_is)
    (case cm => k_is)
    (case ty => k_is)
    (case ne => k_is)
    (case sb => k_is)
    (case cls => k_is)
    (case cn => k_is)
    (case ct => k_is)
    (case gl_LIMIT => k_is)
    (case gl_ROWS => k_is)
    (case gl_REGS => k_is)
    (case gl_SLOTS => k_is)
    (case gl_MODULI => k_is)
    (case gl_FORMS => k_is)
    (case lM => k_is)
    (case sM => kernel_rfl)
    (case zM => kernel_rfl)
    (case lF => k_is)
    (case kF => k_keys)
    (case oF => decide)
    (case d_set => k_is)
    (case d_copy => k_is)
    (case d_add => k_is)
    (case d_sub => k_is)
    (case d_mul => k_is)
    (case d_left => k_is)
    (case d_right => k_is)
    (case d_load => k_is)
    (case d_store => k_is)
    (case d_skip => k_is)
    (case z_len => k_is)
    (case z_max => k_is)
    (case z_list => k_is)
    (case z_tuple => k_is)
    (case z_reversed => k_is)
    (case z_range => k_is)
    (case z_int => k_is)
    (case z_str => k_is)
    (case z_bool => k_is)
    (case z_isinstance => k_is)
    (case z_all => k_is)
    (case z_enumerate => k_is)
    (case z_zip => k_is)
