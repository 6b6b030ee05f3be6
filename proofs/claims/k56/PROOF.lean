import PyProof.Rows.All
import Wide.All
import OpenK.AllK
import Wide.FinOn
import HandS.ForMost
import HandS.Rev
import HandS.Walk
import KE.GoesMore
import KE.GoesEnum
import KE.GoesZip
import HandS.Wide
import PySem.Challenge.RW_lowsure_k56_texts_of_no_code
import PyProof.InstNe
import HandS.More
import HandS.OwnEq
import OpenK.KOps
import PyProof.ReprRoads
import PyProof.ReprReads
import PyProof.CallFns
import HandS.Ends
import HandS.Dict
import HandS.IsInst
import HandS.ExcIs
import HandS.ExcField
import KE.KExcIs
import HandS.Small
import HandS.Exc
import HandS.ExcInit
import HandS.WordsExc
import HandS.ExcOwn
import HandS.Text
import HandS.Iter
import KE.IntTextLaws
import HandS.Star
import HandS.NoneIn
import HandS.TupAny
import PyProof.CallStr
import HandS.Replace
import HandS.ReplaceLit
import PyProof.ToksMono
import PyProof.StrLawsChain
import KE.KStrOpen
import HandS.ClsMeth
import HandS.Style
set_option Elab.async false
set_option linter.all false
set_option maxRecDepth 100000
set_option maxHeartbeats 1000000
namespace MyR
open PySem PySem.Spec PyProof.Rows L2 RT
section
variable {prog : Program} {w : World} {A : Around} {E : Value → Shared → Prop} {s : Shared}
theorem extend_rev {R : Result → Shared → Prop} {S it l : Addr} {items : Array Value} {res : Value} {c0 : Nat} (hh : A.handled = none) (hit : s.heap.IsRevIter it l ((items.size : Int) - 1)) (hl : s.heap.IsList l items) (hne : l ≠ it) (hSi : S ≠ it) (hSl : S ≠ l) (hn : items.size ≤ sizeLine)
    (hS : s.heap.get? S = some { cls := .type "list", data := .seq #[] c0 })
    (hR : ∀ (s' : Shared) (acc : Array Value) (c' : Nat), (∀ b o, b ≠ it → b ≠ S → s.heap.get? b = some o → s'.heap.get? b = some o) → s' = { s with heap := s'.heap, toks := s'.toks } → s'.heap.get? S = some { cls := .type "list", dict := none, data := .seq acc c', slots := #[] } →
      ItemsOf (fun i v => items[items.size - 1 - i]? = some v) acc items.size → R (.ok (.ret res)) s') :
    wpAny (model prog w) A.in1 (Builtin.List.listExtendWith (.ref S) (.ref it) res)
      (fun fin s' => match fin with | .done f => R (.ok f) s' | .again c' => c'.quiet = true ∧ codeAny (model prog w) A c' R s') (fun e s' => R (.error e) s') s := by
  have W := (Walks.listRev (prog := prog) (w := w) (A := A.in1) hh it l hne items).toS
  have hSf : S ∉ [it, l] := by simp only [List.mem_cons, List.not_mem_nil, or_false, not_or]; exact ⟨hSi, hSl⟩
  have hT : s.TypeIs (.ref it) "list_reverseiterator" := hit.typeIs
  have h1 : Builtin.List.listSameRef (.ref S) (.ref it) = false := by simp [Builtin.List.listSameRef, hSi]
  unfold Builtin.List.listExtendWith
  refine wpAny_bind (wpAny_typeOf hT ?_)
  rw [if_neg (by rw [h1]; decide)]
  refine wpAny_bind (wpAny_pyIter_revIter hit ?_)
  refine wpAny_bind (wpAny_holding ?_)
  unfold Builtin.List.listLengthHint
  refine wpAny_bind (wpAny_specialOf hT nolen_lri ?_)
  show wpAny _ A.in1 (specialOf (Value.ref it) (Str.ofString "__length_hint__") >>= _) _ _ _
  refine wpAny_bind (wpAny_specialOf hT hint_lri ?_)
  generalize hid : ("list_reverseiterator.__length_hint__" : String) = id0
  wp_delta
  rw [show splitId id0 = some ("list_reverseiterator", "__length_hint__") from by subst hid; decide +kernel]
  subst hid
  refine wpAny_bind (wpAny_isInstance (b := true) hT (by rw [isSubtype_type]; kernel_rfl) ?_)
  refine wpAny_pure ?_
  rw [if_neg (by decide)]
  have e0 : ((items.size : Nat) : Int) - 1 - ((0 : Nat) : Int) = (items.size : Int) - 1 := by omega
  refine wpAny_pure ⟨plainId_quiet F.plain_extend_loop _, codeAny_extend_loopS W hn _ hSf _ items.size 0 _ _ _ rfl (Nat.zero_le _) ⟨Nat.zero_le _, by rw [e0]; exact hit, hl⟩ hS (ItemsOf.nil _) fun s' acc' c' hm hS' hacc => ?_⟩
  refine hR s' acc' c' (fun b o hb hb2 e => hm.heap b o (fun hmem => ?_) e) (Moved.eq_with hm) hS' hacc
  rcases List.mem_cons.mp hmem with e' | hmem
  · exact hb2 e'
  · exact hb (List.mem_singleton.mp hmem)
theorem list_init_rev {R : Result → Shared → Prop} {S it l : Addr} {items : Array Value} (hh : A.handled = none) (hit : s.heap.IsRevIter it l ((items.size : Int) - 1)) (hl : s.heap.IsList l items) (hne : l ≠ it) (hSi : S ≠ it) (hSl : S ≠ l) (hn : items.size ≤ sizeLine)
    (hS : s.heap.get? S = some { cls := .type "list", data := .seq #[] })
    (hR : ∀ (s' : Shared) (acc : Array Value) (c' : Nat), (∀ b o, b ≠ it → b ≠ S → s.heap.get? b = some o → s'.heap.get? b = some o) → s' = { s with heap := s'.heap, toks := s'.toks } → s'.heap.get? S = some { cls := .type "list", dict := none, data := .seq acc c', slots := #[] } →
      ItemsOf (fun i v => items[items.size - 1 - i]? = some v) acc items.size → R (.ok (.ret .none)) s') :
    wpAny (model prog w) A.in1 (Builtin.«list.__init__» ⟨[.ref S, .ref it], []⟩)
      (fun fin s' => match fin with | .done f => R (.ok f) s' | .again c' => c'.quiet = true ∧ codeAny (model prog w) A c' R s') (fun e s' => R (.error e) s') s := by
  show wpAny _ A.in1 (do let old ← Builtin.List.listItems (.ref S); Builtin.List.listUpdate (.ref S) (fun _ => #[]); letGo old.toList.reverse; Builtin.List.listExtendWith (.ref S) (.ref it) .none) _ _ s
  refine wpAny_bind ?_
  unfold Builtin.List.listItems
  refine wpAny_bind (wpAny_seqItems hS rfl (wpAny_pure ?_))
  show wpAny _ A.in1 (updateSeq S (fun _ => #[]) >>= fun _ => letGo (#[] : Array Value).toList.reverse >>= fun _ => Builtin.List.listExtendWith (.ref S) (.ref it) .none) _ _ s
  refine wpAny_bind (wpAny_updateSeq hS rfl ?_)
  have hS2 := Heap.get?_update_self (Obj.mapSeq (fun _ => (#[] : Array Value))) hS rfl
  have oth : ∀ b o, b ≠ S → s.heap.get? b = some o → (s.heap.update S (Obj.mapSeq (fun _ => (#[] : Array Value)))).get? b = some o :=
    fun b o hb e => (Heap.get?_update_other _ _ (Ne.symm hb)).trans e
  refine wpAny_bind (wpAny_letGo ?_)
  refine extend_rev hh (hit.at fun o e => oth it o (Ne.symm hSi) e) (hl.at fun o e => oth l o (Ne.symm hSl) e) hne hSi hSl hn hS2 fun s' acc c' hk hs hS' hi => ?_
  refine hR s' acc c' (fun b o h1 h2 e => hk b o h1 h2 (oth b o h2 e)) ?_ hS' hi
  exact hs
theorem call_list_rev {it l : Addr} {items : Array Value} {Q : Value → Shared → Prop} (hh : A.handled = none) (hit : s.heap.IsRevIter it l ((items.size : Int) - 1)) (hl : s.heap.IsList l items) (hne : l ≠ it) (hn : items.size ≤ sizeLine)
    (hQ : ∀ (s' : Shared) (acc : Array Value) (c' : Nat), (∀ b o, b ≠ it → s.heap.get? b = some o → s'.heap.get? b = some o) → s' = { s with heap := s'.heap, toks := s'.toks } → s'.heap.get? s.heap.objs.size = some { cls := .type "list", dict := none, data := .seq acc c', slots := #[] } →
      ItemsOf (fun i v => items[items.size - 1 - i]? = some v) acc items.size → Q (.ref s.heap.objs.size) s') :
    wpAny (model prog w) A (call (.type "list") [.ref it]) Q E s := by
  obtain ⟨oi, hoi, _⟩ := id hit
  obtain ⟨ol, hol, _⟩ := id hl
  have hSi : s.heap.objs.size ≠ it := Nat.ne_of_gt (Heap.lt_size hoi)
  have hSl : s.heap.objs.size ≠ l := Nat.ne_of_gt (Heap.lt_size hol)
  refine callType_codes (Q₁ := fun obj s₁ => obj = .ref s.heap.objs.size ∧ s₁ = { s with heap := s.heap.push { cls := .type "list", data := .seq #[] } }) F.called_list (F.typeCall_list_1 _) F.entry_list_init
    (code_list_new _ ⟨rfl, rfl⟩) fun obj s₁ h₁ => ?_
  obtain ⟨rfl, rfl⟩ := h₁
  have hS : (s.heap.push { cls := .type "list", data := .seq #[] }).get? s.heap.objs.size = some { cls := .type "list", data := .seq #[] } := Heap.get?_push_size _ rfl
  refine ⟨⟨_, hS, rfl⟩, F.args_list_init_2 _ _, list_init_rev (A := A.in1) hh (hit.at fun o e => Heap.get?_push_of_some _ e) (hl.push _) hne hSi hSl hn hS fun s' acc c' hk hs hS' hi => ?_⟩
  exact ⟨rfl, hQ s' acc c' (fun b o hb e => hk b o hb (Nat.ne_of_lt (Heap.lt_size e)) (Heap.get?_push_of_some _ e)) hs hS' hi⟩
end
/-- list(reversed(x)), x a list: a new list -/
def tLstRev (K : PySem.W.Frag) (te : TE) : TE := fun σ H Q => te σ H fun v H1 => ∃ (a : Addr) (xs : List V), v = .ref a ∧ SqL K H1 a xs ∧ ∀ q, H1 q = none → Q (.ref q) (upd H1 q (.lst xs.reverse))
section
variable {X : Cx}
theorem pe_lstRev {e : Expr} {te : TE} {p p2 pos pos2 : Pos} (hc : X.calm = true) (hg : Gl X "list") (hm : X.mg "list" = none) (hg2 : Gl X "reversed") (hm2 : X.mg "reversed" = none) (he : PE X e te)
    (hs : starEach [e] X.env = (false, eval e X.env) :: starEach [] X.env := by rfl)
    (hs2 : starEach [.Call (.Name "reversed" p2) [e] [] pos2] X.env = (false, eval (.Call (.Name "reversed" p2) [e] [] pos2) X.env) :: starEach [] X.env := by rfl) :
    PE X (.Call (.Name "list" p) [.Call (.Name "reversed" p2) [e] [] pos2] [] pos) (tLstRev X.K te) := by
  refine ⟨fun pins s σ H Q I h => ?_⟩
  refine Call_ (ld_blt I hg hm (show bootBuiltins "list" = some (.type "list") by decide +kernel) (PyProof.Rows.callWith_type1 (args_cons (Call_ (ld_blt I hg2 hm2 PyProof.Rows.boot_reversed (PyProof.Rows.callWith_type1 (args_cons (thn (he.run pins s σ H _ I h) fun u s1 ⟨v, H1, I1, r1, q1⟩ => args_nil ?_) hs) hs rfl))) hs2) hs2 rfl))
  obtain ⟨a, xs, ev, hq, q⟩ := q1
  subst ev
  obtain rfl : u = Value.ref a := r1
  obtain ⟨its, rv, p', hz⟩ := I1.list hq
  refine call_reversed_list p'.isList (args_nil ?_)
  have k0 : ∀ b o, s1.heap.get? b = some o → (s1.heap.push (revObj a ((its.toArray.size : Int) - 1))).get? b = some o := fun b o e => Heap.get?_push_of_some _ e
  have hl := p'.isList
  obtain ⟨ol, hol, _⟩ := id hl
  have hne : a ≠ s1.heap.objs.size := Nat.ne_of_lt (Heap.lt_size hol)
  have hn : its.toArray.size ≤ sizeLine := by rw [List.size_toArray, ← rv.length]; exact hz
  refine call_list_rev (s := { s1 with heap := s1.heap.push (revObj a ((its.toArray.size : Int) - 1)) }) (I1.ok.hd hc) ⟨_, Heap.get?_push_size _ rfl, rfl, rfl⟩ (hl.push _) hne hn fun s' acc c' hk hs' hS' hi => ?_
  have kk : ∀ b o, s1.heap.get? b = some o → s'.heap.get? b = some o := fun b o e => hk b o (Nat.ne_of_lt (Heap.lt_size e)) (k0 b o e)
  have hsz : s1.heap.objs.size ≤ (s1.heap.push (revObj a ((its.toArray.size : Int) - 1))).objs.size := by rw [Heap.size_push]; exact Nat.le_succ _
  have J := I1.laid (a := (s1.heap.push (revObj a ((its.toArray.size : Int) - 1))).objs.size) (o := .lst xs.reverse) (h' := s'.heap) (t' := s'.toks) kk hsz
    (show ObjOk X.prog X.w _ _ _ (.lst xs.reverse) from ⟨by rw [List.length_reverse]; exact hz, acc.toList, c', vals_rev rv hi, by rw [Array.toArray_toList]; exact hS'⟩)
  rw [hs']
  exact ⟨.ref _, _, J, rfl, q _ (I1.hok.fresh hsz)⟩
end
end MyR

set_option Elab.async false
set_option linter.all false
set_option maxRecDepth 100000
set_option maxHeartbeats 1000000
namespace MyR
open PySem PySem.Spec PyProof.Rows L2

/-! ### what gives new pairs over things that stand: enumerate(tuple), zip(text, tuple), told once -/
/-- at turn i a walk of n turns is at hand whose next pair is of x and y -/
def PairAt (P : Program) (w : World) (A : Around) (I : Addr) (cs : List Addr) (own : Nat → Heap → Prop) (h : Heap) (i : Nat) (x y : V) (more : Prop) : Prop :=
  ∃ (n : Nat) (wr fp : List Addr) (Pt : Nat → Array Value → Prop) (St : Nat → Heap → Prop) (Mid : Nat → Addr → Heap → Prop), WalksT P w A I fp wr n Pt St Mid ∧ (∀ b ∈ wr, b ∈ cs) ∧ St i h ∧ (∀ j g, St j g → own j g) ∧
    ((more → i < n ∧ ∀ vals, Pt i vals → ∃ u v, vals = #[u, v] ∧ RelV x u ∧ RelV y v) ∧ (¬ more → i = n))
theorem turn_pairs {P : Program} {w : World} {K : PySem.W.Frag} {elts : List Expr} {kk : Nat} {tpos : Pos} {I : Addr} {cs : List Addr} {J : It} {own : Nat → Heap → Prop} (hI : I ∈ cs)
    (cells : ∀ i h, own i h → ∀ b ∈ cs, ∃ o, h.get? b = some o ∧ ∀ v, o.data ≠ .cell v)
    (stays : ∀ i g g', own i g → (∀ b ∈ cs, ∀ o, g.get? b = some o → g'.get? b = some o) → own i g')
    (again : ∀ (A : Around) (i : Nat) (s : Shared) (Q E : Value → Shared → Prop), own i s.heap → Q (.ref I) s → wpAny (model P w) A (pyIter (.ref I)) Q E s)
    (goes : ∀ (X : Cx) (pins : List (Addr × Obj)) (s : Shared) (σ : L2.St) (H : Hp) (i : Nat), X.prog = P → X.w = w → X.K = K → X.A.handled = none → Inv X pins σ H s → own i s.heap → J.go i H →
      ∃ x y, PairAt P w X.A I cs own s.heap i x y True ∧ ∀ T, H T = none → J.yld i H (.ref T) (upd H T (.tup [x, y])))
    (ends : ∀ (X : Cx) (pins : List (Addr × Obj)) (s : Shared) (σ : L2.St) (H : Hp) (i : Nat), X.prog = P → X.w = w → X.K = K → X.A.handled = none → Inv X pins σ H s → own i s.heap → J.stop i H → PairAt P w X.A I cs own s.heap i .non .non False) :
    Turn P w K (.Tuple elts kk tpos) J cs I own where
  mem := hI
  obj := cells
  keep := stays
  self := again
  item := by
    intro X eP ew eK calm i pins s σ H E inv free st more
    obtain ⟨x, y, ⟨n, wr, fp, Pt, St, Mid, W, sub, hst, hown, hmore, _⟩, hyld⟩ := goes X pins s σ H i eP ew eK (inv.ok.hd calm) inv st more
    obtain ⟨hin, hvals⟩ := hmore trivial
    subst eP ew eK
    refine W.item i s _ _ hin hst fun T vals h1 tk hP hT hTup hMid k1 => ?_
    obtain ⟨u, v, rfl, ru, rv⟩ := hvals vals hP
    refine ⟨.ref T, rfl, W.go elts kk tpos i T _ _ _ hMid fun h2 st2 k2 => ?_⟩
    have tup2 : h2.IsTuple T #[u, v] := hTup.at fun o e => k2 T o (W.apart i T h1 hMid) e
    have fresh : H T = none := inv.hok.fresh hT
    have inv2 : Inv X pins σ (upd H T (.tup [x, y])) { s with heap := h2, toks := tk } :=
      inv.turnedNew (ch := cs) (fun b o nb e => k2 b o (fun m => nb (sub b m)) (k1 b o (fun m => nb (sub b m)) e)) free hT ⟨(by show 2 ≤ sizeLine; decide), [u, v], .cons ru (.cons rv .nil), tup2⟩
    refine ⟨.ref T, _, inv2, rfl, hyld T fresh, hown _ _ st2, fun b hb => ?_⟩
    obtain ⟨o, ho, _⟩ := cells i _ st b hb
    rw [upd_ne (Nat.ne_of_lt (Nat.lt_of_lt_of_le (Heap.lt_size ho) hT))]
    exact (free b hb).1
  done := by
    intro X eP ew eK calm i pins s σ H E inv free st stop
    obtain ⟨n, wr, fp, Pt, St, Mid, W, sub, hst, _, _, hend⟩ := ends X pins s σ H i eP ew eK (inv.ok.hd calm) inv st stop
    obtain rfl := hend (fun f => f)
    subst eP ew eK
    exact W.done s _ _ hst fun h1 tk k1 => ⟨rfl, inv.turnedL (t' := tk) (ch := cs) (fun b o nb e => k1 b o (fun m => nb (sub b m)) e) free⟩

/-! ### enumerate(tuple) -/
/-- the tuple at a, each item in a new pair -/
def IteT (K : PySem.W.Frag) (a : Addr) : It where
  go i H := ∃ (xs : List V) (x : V), SqT K H a xs ∧ xs[i]? = some x
  yld i H v H' := ∃ T x, v = .ref T ∧ H T = none ∧ H' = upd H T (.tup [.int (i : Nat), x]) ∧ ∀ xs, SqT K H a xs → xs[i]? = some x
  stop i H := ∃ xs : List V, SqT K H a xs ∧ xs.length = i
/-- the two cells of an enumerate over the tuple at a, i items taken -/
def EnumT (a e it : Addr) (i : Nat) (h : Heap) : Prop := (∃ old, IsEnum h e it (0 + (i : Int)) old) ∧ h.IsTupleIter it a i
theorem turn_enumT {P : Program} {w : World} {K : PySem.W.Frag} {elts : List Expr} {kk : Nat} {tpos : Pos} {a e it : Addr} (hei : e ≠ it) (hai : a ≠ it) (hae : a ≠ e) : Turn P w K (.Tuple elts kk tpos) (IteT K a) [e, it] e (EnumT a e it) := by
  have W : ∀ (A : Around), A.handled = none → ∀ items : Array Value, _ := fun A hh items =>
    WalksT.enumFrom (prog := P) (w := w) (A := A) 0 (Draws.tuple (A := A.in1) hh it a hai items) e hei (by simp only [List.mem_cons, List.not_mem_nil, or_false, not_or]; exact ⟨hei, Ne.symm hae⟩) (List.mem_cons_self ..)
  refine turn_pairs (List.mem_cons_self ..) (fun i h st b hb => ?_) (fun i g g' st k => ?_) (fun A i s Q E st q => ?_) (fun X pins s σ H i eP ew eK hh inv st go => ?_) (fun X pins s σ H i eP ew eK hh inv st stop => ?_)
  · obtain ⟨⟨old, he⟩, o, ho, _, hd⟩ := st
    rcases List.mem_cons.mp hb with z | z
    · subst z
      exact ⟨_, he, fun v q => nomatch q⟩
    · exact ⟨o, by rw [List.mem_singleton.mp z]; exact ho, fun v q => by rw [hd] at q; cases q⟩
  · obtain ⟨⟨old, he⟩, hi⟩ := st
    exact ⟨⟨old, k e (List.mem_cons_self ..) _ he⟩, hi.at fun o q => k it (List.mem_cons_of_mem _ (List.mem_cons_self ..)) o q⟩
  · obtain ⟨⟨_, he⟩, _⟩ := st
    exact wpAny_pyIter_enum he q
  · obtain ⟨xs, x, hq, hx⟩ := go
    subst eK
    obtain ⟨its, rv, tup, _⟩ := inv.tuple hq
    obtain ⟨u, hu, ru⟩ := rv.get hx
    have hu' : its.toArray[i]? = some u := by simpa using hu
    have hin : i < its.toArray.size := (Array.getElem?_eq_some_iff.mp hu').1
    refine ⟨.int (i : Nat), x, ⟨_, _, _, _, _, _, W X.A hh its.toArray, fun b hb => hb, ⟨st.1, st.2, tup⟩, fun j g z => ⟨z.1, z.2.1⟩, fun _ => ⟨hin, fun vals hP => ?_⟩, fun f => absurd trivial f⟩, fun T hT => ⟨T, x, rfl, hT, rfl, fun ys hy => by rw [inv.tuple_inj hy hq]; exact hx⟩⟩
    obtain ⟨t, v, hv, rfl⟩ := hP
    refine ⟨_, v, rfl, ⟨t, by rw [Int.zero_add]⟩, ?_⟩
    have e1 : its.toArray[i]? = some v := hv
    rw [e1] at hu'
    rw [Option.some.inj hu']
    exact ru
  · obtain ⟨xs, hq, hx⟩ := stop
    subst eK
    obtain ⟨its, rv, tup, _⟩ := inv.tuple hq
    have hl := rv.length
    exact ⟨_, _, _, _, _, _, W X.A hh its.toArray, fun b hb => hb, ⟨st.1, st.2, tup⟩, fun j g z => ⟨z.1, z.2.1⟩, fun f => f.elim, fun _ => by rw [List.size_toArray]; omega⟩
set_option maxHeartbeats 1000000 in
/-- enumerate(v): an iterator over v, and the object itself -/
theorem meets_enum1 {v : Value} {o : Obj} {There : Heap → Prop} (B : Begins v o There) :
    Meets (Builtin.«enumerate.__new__» ⟨[.type "enumerate", v], []⟩) fun _ R s => There s.heap ∧
      R (.ok (.ret (.ref (s.heap.push o).objs.size))) { s with heap := (s.heap.push o).push { cls := .type "enumerate", data := .fields #[.none, .bool false, .ref s.heap.objs.size, rawInt 0, .none, .none] } } :=
  .of_wp fun prog w A R s there => by
    obtain ⟨there, after⟩ := there
    obtain ⟨hp, gens, drawn, toks, os⟩ := s
    have sub := sub_enumerate
    have begin_ : ∀ {A' : Around} {E Q : Value → Shared → Prop}, Q (.ref hp.objs.size) ⟨hp.push o, gens, drawn, toks, os⟩ → wpAny (model prog w) A' (pyIter v) Q E ⟨hp, gens, drawn, toks, os⟩ := fun q => B.iter prog w _ _ _ _ there q
    wp_walk using begin_
    refine wpAny_stack_any fun frames => wpAny_pure ?_
    split <;> (try (rename_i c _ _ _ _ _; cases (c == Value.type "enumerate"))) <;> (wp_walk using begin_; exact ⟨_, rfl, after⟩)
theorem enum_over {prog : Program} {w : World} {A : Around} {E : Value → Shared → Prop} {s : Shared} {a : Addr} {items : Array Value} {Q : Value → Shared → Prop} (tup : s.heap.IsTuple a items)
    (next : ∀ g, EnumT a (s.heap.objs.size + 1) s.heap.objs.size 0 g → (∀ b o, s.heap.get? b = some o → g.get? b = some o) → Q (.ref (s.heap.objs.size + 1)) { s with heap := g }) :
    wpAny (model prog w) A (call (.type "enumerate") [.ref a]) Q E s := by
  refine callType_new F.called_enumerate (by decide) (F.typeCall_enumerate_1 _) (F.newCall_enumerate_1 _) (fun obj => F.args_object_init_2 obj _) F.entry_enumerate_new (meets_enum1 (begins_tuple a items)) ⟨tup, ?_⟩
  generalize ho1 : ({ cls := .type "tuple_iterator", data := .fields #[.ref a, .int 0 0] } : Obj) = o1
  have n1 : (s.heap.push o1).objs.size = s.heap.objs.size + 1 := Heap.size_push ..
  have g2 := Heap.get?_push_size (s.heap.push o1) (o := { cls := .type "enumerate", data := .fields #[.none, .bool false, .ref s.heap.objs.size, rawInt 0, .none, .none] }) rfl
  have g1 := Heap.get?_push_of_some { cls := .type "enumerate", data := .fields #[.none, .bool false, .ref s.heap.objs.size, rawInt 0, .none, .none] } (Heap.get?_push_size s.heap (o := o1) (by subst ho1; rfl))
  show _ ∧ _
  rw [n1] at g2 ⊢
  subst ho1
  exact ⟨⟨_, g2, rfl⟩, next _ ⟨⟨_, g2⟩, _, g1, rfl, rfl⟩ fun b o e => Heap.get?_push_of_some _ (Heap.get?_push_of_some _ e)⟩
def iEnumT (K : PySem.W.Frag) (ta : TA) : TI := fun σ H R => ta σ H fun vs H1 => ∃ a xs, vs = [.ref a] ∧ SqT K H1 a xs ∧ R (IteT K a) H1
theorem pi_enumT {X : Cx} {e : Expr} {ta : TA} {p pos tpos : Pos} {elts : List Expr} {kk : Nat} (hg : Gl X "enumerate") (hm : X.mg "enumerate" = none) (ha : PA X [e] ta) (one : starEach [e] X.env = [(false, eval e X.env)] := by rfl) :
    PI X (.Tuple elts kk tpos) (.Call (.Name "enumerate" p) [e] [] pos) (iEnumT X.K ta) where
  run pins s σ H R inv h := by
    refine Call_ (ld_blt inv hg hm boot_enumerate (PyProof.Rows.callWith_type1 (thn (ha.run pos pins s σ H _ inv h) fun us s1 after => ?_) one rfl))
    obtain ⟨vs, H1, inv1, rel, a, xs, rfl, hq, q⟩ := after
    obtain ⟨u, rfl, ru⟩ := vals1 rel
    obtain rfl : u = Value.ref a := ru
    obtain ⟨its, _, tup, _⟩ := inv1.tuple hq
    have la : a < s1.heap.objs.size := by obtain ⟨oa, hoa, _⟩ := id tup; exact Heap.lt_size hoa
    refine enum_over tup fun g en k => ?_
    obtain ⟨⟨old, he⟩, _⟩ := id en
    refine wpAny_pyIter_enum he ?_
    refine ⟨s1.heap.objs.size + 1, [s1.heap.objs.size + 1, s1.heap.objs.size], EnumT a _ _, IteT X.K a, H1, rfl, inv1.kept (t' := s1.toks) k, turn_enumT (Nat.succ_ne_self _) (Nat.ne_of_lt la) (Nat.ne_of_lt (Nat.lt_succ_of_lt la)), en, fun b hb => ?_, q⟩
    have up : s1.heap.objs.size ≤ b := by
      rcases List.mem_cons.mp hb with z | z
      · exact z ▸ Nat.le_succ _
      · exact Nat.le_of_eq (List.mem_singleton.mp z).symm
    exact inv1.fpOk up (inv1.hok.fresh up)
theorem walk_enumT {K : PySem.W.Frag} {a : Addr} {xs : List V} : Walk (IteT K a) xs.length (fun H => SqT K H a xs) (YPair (fun i => some (.int (i : Nat))) (fun i => xs[i]?)) where
  goes i H hi q := ⟨xs, xs[i], q, List.getElem?_eq_getElem hi⟩
  stops H q := ⟨xs, q, rfl⟩
  yields i H v H' _ q y := let ⟨T, x, h1, h2, h3, h4⟩ := y; ⟨T, .int (i : Nat), x, h1, h2, h3, rfl, h4 xs q⟩

/-! ### zip(text, tuple) -/
def IzST (K : PySem.W.Frag) (z : Str) (b : Addr) : It where
  go i H := ∃ (ys : List V) (y : V), SqT K H b ys ∧ i < z.cps.size ∧ ys[i]? = some y
  yld i H v H' := ∃ T c y, v = .ref T ∧ H T = none ∧ H' = upd H T (.tup [.str ⟨#[c]⟩, y]) ∧ z.cps[i]? = some c ∧ ∀ ys, SqT K H b ys → ys[i]? = some y
  stop i H := ∃ ys : List V, SqT K H b ys ∧ i = min z.cps.size ys.length
/-- the five cells of a zip over the text x and the tuple at b, i pairs taken -/
def ZipST (x : Str) (t : Tok) (b z TI TO i1 i2 : Addr) (i : Nat) (h : Heap) : Prop := IsZip h z TI TO .none ∧ IsTupOf2 h TI (.ref i1) (.ref i2) ∧ (∃ a1 a2, IsTupOf2 h TO a1 a2) ∧ h.IsStrIter i1 (strIterType x) x t i ∧ h.IsTupleIter i2 b i
theorem turn_zipST {P : Program} {w : World} {K : PySem.W.Frag} {elts : List Expr} {kk : Nat} {tpos : Pos} {b z TI TO i1 i2 : Addr} {x : Str} {t : Tok} (S : ZipSep2 z TI TO i1 i2 [i1] [i2, b]) (hb : b ≠ i2) :
    Turn P w K (.Tuple elts kk tpos) (IzST K x b) [z, TO, i1, i2, TI] z (ZipST x t b z TI TO i1 i2) := by
  have W : ∀ (A : Around), A.handled = none → ∀ items : Array Value, _ := fun A hh items =>
    WalksT.zipD2 (prog := P) (w := w) (A := A) S (Draws.text (A := A.in1) hh i1 x t) (Draws.tuple (A := A.in1) hh i2 b hb items)
  have sub : ∀ c ∈ [z, TO, i1, i2], c ∈ [z, TO, i1, i2, TI] := fun c hc => List.mem_append_left [TI] hc
  have down : ∀ {items : Array Value} (j : Nat) (g : Heap), (IsZip g z TI TO .none ∧ IsTupOf2 g TI (.ref i1) (.ref i2) ∧ (∃ a1 a2, IsTupOf2 g TO a1 a2) ∧ g.IsStrIter i1 (strIterType x) x t j ∧ g.IsTupleIter i2 b j ∧ g.IsTuple b items) → ZipST x t b z TI TO i1 i2 j g := fun j g st => ⟨st.1, st.2.1, st.2.2.1, st.2.2.2.1, st.2.2.2.2.1⟩
  refine turn_pairs (List.mem_cons_self ..) (fun i h st c hc => ?_) (fun i g g' st k => ?_) (fun A i s Q E st q => wpAny_pyIter_zip st.1 q) (fun X pins s σ H i eP ew eK hh inv st go => ?_) (fun X pins s σ H i eP ew eK hh inv st stop => ?_)
  · obtain ⟨s1, s2, ⟨u1, u2, s3⟩, ⟨o1, p1, _, d1⟩, ⟨o2, p2, _, d2⟩⟩ := st
    simp only [List.mem_cons, List.not_mem_nil, or_false] at hc
    rcases hc with rfl | rfl | rfl | rfl | rfl
    · exact ⟨_, s1, fun v q => nomatch q⟩
    · exact ⟨_, s3, fun v q => nomatch q⟩
    · exact ⟨o1, p1, fun v q => by rw [d1] at q; cases q⟩
    · exact ⟨o2, p2, fun v q => by rw [d2] at q; cases q⟩
    · exact ⟨_, s2, fun v q => nomatch q⟩
  · obtain ⟨s1, s2, ⟨u1, u2, s3⟩, ⟨o1, p1, r1⟩, s5⟩ := st
    have kk : ∀ c, c ∈ [z, TO, i1, i2, TI] → ∀ o, g.get? c = some o → g'.get? c = some o := k
    simp only [List.mem_cons, List.not_mem_nil, or_false, forall_eq_or_imp, forall_eq] at kk
    obtain ⟨k1, k2, k3, k4, k5⟩ := kk
    exact ⟨k1 _ s1, k5 _ s2, ⟨u1, u2, k2 _ s3⟩, ⟨o1, k3 _ p1, r1⟩, s5.at fun o q => k4 o q⟩
  · obtain ⟨ys, y, hq, hx, hy⟩ := go
    subst eK
    obtain ⟨its, rv, tup, _⟩ := inv.tuple hq
    obtain ⟨u, hu, ru⟩ := rv.get hy
    have hu' : its.toArray[i]? = some u := by simpa using hu
    have hin : i < its.toArray.size := (Array.getElem?_eq_some_iff.mp hu').1
    have hc : x.cps[i]? = some x.cps[i] := Array.getElem?_eq_getElem hx
    refine ⟨.str ⟨#[x.cps[i]]⟩, y, ⟨_, _, _, _, _, _, W X.A hh its.toArray, sub, ⟨st.1, st.2.1, st.2.2.1, st.2.2.2.1, st.2.2.2.2, tup⟩, fun j g q => down j g q, fun _ => ⟨by omega, fun vals hP => ?_⟩, fun f => absurd trivial f⟩, fun T hT => ⟨T, x.cps[i], y, rfl, hT, rfl, hc, fun l hl => by rw [inv.tuple_inj hl hq]; exact hy⟩⟩
    obtain ⟨x1, x2, ⟨c, tc, e1, rfl⟩, e2, rfl⟩ := hP
    rw [hc] at e1
    have e2 : its.toArray[i]? = some x2 := e2
    rw [hu'] at e2
    refine ⟨_, x2, rfl, ⟨tc, by rw [Option.some.inj e1]⟩, by rw [← Option.some.inj e2]; exact ru⟩
  · obtain ⟨ys, hq, hi⟩ := stop
    subst eK
    obtain ⟨its, rv, tup, _⟩ := inv.tuple hq
    have hl := rv.length
    exact ⟨_, _, _, _, _, _, W X.A hh its.toArray, sub, ⟨st.1, st.2.1, st.2.2.1, st.2.2.2.1, st.2.2.2.2, tup⟩, fun j g q => down j g q, fun f => f.elim, fun _ => (show i = min x.cps.size its.toArray.size from by
      have e : its.toArray.size = ys.length := by simpa using hl.symm
      rw [e]
      exact hi)⟩
def iZipST (K : PySem.W.Frag) (ta : TA) : TI := fun σ H R => ta σ H fun vs H1 => ∃ z b ys, vs = [.str z, .ref b] ∧ SqT K H1 b ys ∧ R (IzST K z b) H1
theorem pi_zipST {X : Cx} {e e2 : Expr} {ta : TA} {p pos tpos : Pos} {elts : List Expr} {kk : Nat} (hg : Gl X "zip") (hm : X.mg "zip" = none) (ha : PA X [e, e2] ta)
    (s1 : starEach [e, e2] X.env = (false, eval e X.env) :: starEach [e2] X.env := by rfl) (s2 : (backTo pos (starEach [e2] X.env)).any (·.1) = false := by rfl) : PI X (.Tuple elts kk tpos) (.Call (.Name "zip" p) [e, e2] [] pos) (iZipST X.K ta) where
  run pins s σ H R inv h := by
    refine Call_ (ld_blt inv hg hm PyProof.Rows.boot_zip (PyProof.Rows.callWith_type1 (thn (ha.run pos pins s σ H _ inv h) fun us s1 after => ?_) s1 s2))
    obtain ⟨vs, H1, inv1, rel, z, b, ys, rfl, hq, q⟩ := after
    obtain ⟨n, hn⟩ : ∃ n, n = s1.heap.objs.size := ⟨_, rfl⟩
    match us, rel with
    | [_, _], .cons r1 (.cons r2 .nil) =>
      obtain ⟨t, rfl⟩ := r1
      cases r2
      obtain ⟨its, _, tup, _⟩ := inv1.tuple hq
      have lb : b < s1.heap.objs.size := by obtain ⟨ob, hob, _⟩ := id tup; exact Heap.lt_size hob
      refine zip_begins2 (begins_text z t) (begins_tuple b its.toArray) trivial tup fun g c1 c2 c3 c4 c5 _ k => wpAny_pyIter_zip c1 ?_
      have S : ZipSep2 (s1.heap.objs.size + 4) (s1.heap.objs.size + 2) (s1.heap.objs.size + 3) s1.heap.objs.size (s1.heap.objs.size + 1) [s1.heap.objs.size] [s1.heap.objs.size + 1, b] :=
        zip_sep2 (fp1 := []) (fp2 := [b]) (fun c hc => by cases hc) (fun c hc => by rw [List.mem_singleton.mp hc]; exact lb)
      refine ⟨_, [s1.heap.objs.size + 4, s1.heap.objs.size + 3, s1.heap.objs.size, s1.heap.objs.size + 1, s1.heap.objs.size + 2], ZipST z t b _ _ _ _ _, IzST X.K z b, H1, rfl, inv1.kept (t' := s1.toks) k, turn_zipST S (Nat.ne_of_lt (Nat.lt_succ_of_lt lb)), ⟨c1, c2, ⟨_, _, c3⟩, ⟨_, c4, rfl, rfl⟩, ⟨_, c5, rfl, rfl⟩⟩, fun c hc => ?_, q⟩
      have up : s1.heap.objs.size ≤ c := by
        simp only [List.mem_cons, List.not_mem_nil, or_false] at hc
        rcases hc with rfl | rfl | rfl | rfl | rfl <;> first | exact Nat.le_refl _ | exact Nat.le_add_right _ _
      exact inv1.fpOk up (inv1.hok.fresh up)
theorem walk_zipST {K : PySem.W.Frag} {z : Str} {b : Addr} {ys : List V} (hl : z.cps.size = ys.length) : Walk (IzST K z b) ys.length (fun H => SqT K H b ys) (YPair (fun i => (z.cps[i]?).map fun c => V.str ⟨#[c]⟩) (fun i => ys[i]?)) where
  goes i H hi q := ⟨ys, ys[i], q, by omega, List.getElem?_eq_getElem hi⟩
  stops H q := ⟨ys, q, by omega⟩
  yields i H v H' _ q y := let ⟨T, c, y, h1, h2, h3, h4, h5⟩ := y; ⟨T, .str ⟨#[c]⟩, y, h1, h2, h3, by show Option.map _ z.cps[i]? = _; rw [h4]; rfl, h5 ys q⟩
end MyR

set_option Elab.async false
set_option linter.all false
set_option maxRecDepth 100000
set_option maxHeartbeats 1000000
namespace My
open PySem L2 MyR
def top (i : Nat) : Stmt := PySem.Challenge.pw_lowsure_k56_texts_of_no_code.main.body.getD i (.Pass ⟨0, 0, 0, 0⟩)
/-- what the module's names hold -/
structure Glob (mg : Str → Option Value) : Prop where
  g_len : mg "len" = none
  g_max : mg "max" = none
  g_list : mg "list" = none
  g_tuple : mg "tuple" = none
  g_reversed : mg "reversed" = none
  g_range : mg "range" = none
  g_int : mg "int" = none
  g_str : mg "str" = none
  g_bool : mg "bool" = none
  g_isinstance : mg "isinstance" = none
  g_all : mg "all" = none
  g_enumerate : mg "enumerate" = none
  g_zip : mg "zip" = none
/-! ### the source of draws -/
def dKV (s n : Int) (l : Addr) : List (Key × V) := [(.inr "seed", .int s), (.inr "number", .int n), (.inr "left", .ref l)]
theorem k_sn : ¬ ((.inr "seed" : Key) = .inr "number") := fun h => absurd (Sum.inr.inj h) (by decide +kernel)
theorem k_sl : ¬ ((.inr "seed" : Key) = .inr "left") := fun h => absurd (Sum.inr.inj h) (by decide +kernel)
theorem k_nl : ¬ ((.inr "number" : Key) = .inr "left") := fun h => absurd (Sum.inr.inj h) (by decide +kernel)
theorem d_seed {s n : Int} {l : Addr} : valV (dKV s n l) (.inr "seed") = some (.int s) := valV_pos rfl
theorem d_number {s n : Int} {l : Addr} : valV (dKV s n l) (.inr "number") = some (.int n) := by
  unfold dKV; rw [valV_neg k_sn, valV_pos rfl]
theorem d_left {s n : Int} {l : Addr} : valV (dKV s n l) (.inr "left") = some (.ref l) := by
  unfold dKV; rw [valV_neg k_sl, valV_neg k_nl, valV_pos rfl]
theorem d_put_seed {s n z : Int} {l : Addr} : putK (dKV s n l) (.inr "seed") (.int z) = dKV z n l := by
  unfold putK
  rw [valV_any, d_seed]
  rw [if_pos (show (some (V.int s)).isSome = true from rfl)]
  unfold dKV
  simp only [List.map_cons, List.map_nil, if_true, if_neg (Ne.symm k_sn), if_neg (Ne.symm k_sl)]
theorem d_put_number {s n z : Int} {l : Addr} : putK (dKV s n l) (.inr "number") (.int z) = dKV s z l := by
  unfold putK
  rw [valV_any, d_number]
  rw [if_pos (show (some (V.int n)).isSome = true from rfl)]
  unfold dKV
  simp only [List.map_cons, List.map_nil, if_true, if_neg k_sn, if_neg (Ne.symm k_nl)]
theorem d_merge {s n : Int} {l : Addr} : mergeK [] (dKV s n l) = dKV s n l := by
  unfold mergeK dKV
  simp only [List.foldl_cons, List.foldl_nil]
  have e1 : putK ([] : List (Key × V)) (.inr "seed") (.int s) = [(.inr "seed", .int s)] := putK_new _ valV_nil
  have e2 : putK ([(.inr "seed", .int s)] : List (Key × V)) (.inr "number") (.int n) = [(.inr "seed", .int s), (.inr "number", .int n)] := putK_new _ (by rw [valV_neg k_sn]; rfl)
  have e3 : putK ([(.inr "seed", .int s), (.inr "number", .int n)] : List (Key × V)) (.inr "left") (.ref l) = [(.inr "seed", .int s), (.inr "number", .int n), (.inr "left", .ref l)] := putK_new _ (by rw [valV_neg k_sl, valV_neg k_nl]; rfl)
  rw [e1, e2, e3]
theorem g_seed {H : Hp} {d l : Addr} {s n : Int} (h : H d = some (.dK (dKV s n l))) : DGet H d (.str "seed") (some (.int s)) := by
  have q := DGet.k (k := .inr "seed") h
  rw [d_seed] at q
  exact q
theorem g_number {H : Hp} {d l : Addr} {s n : Int} (h : H d = some (.dK (dKV s n l))) : DGet H d (.str "number") (some (.int n)) := by
  have q := DGet.k (k := .inr "number") h
  rw [d_number] at q
  exact q
theorem g_left {H : Hp} {d l : Addr} {s n : Int} (h : H d = some (.dK (dKV s n l))) : DGet H d (.str "left") (some (.ref l)) := by
  have q := DGet.k (k := .inr "left") h
  rw [d_left] at q
  exact q
theorem p_seed {H : Hp} {d l : Addr} {s n z : Int} (h : H d = some (.dK (dKV s n l))) : DPut H d (.str "seed") (.int z) (upd H d (.dK (dKV z n l))) := by
  have q := DPut.k (k := .inr "seed") (v := .int z) h (by show 3 < sizeLine; decide)
  rw [d_put_seed] at q
  exact q
theorem p_number {H : Hp} {d l : Addr} {s n z : Int} (h : H d = some (.dK (dKV s n l))) : DPut H d (.str "number") (.int z) (upd H d (.dK (dKV s z l))) := by
  have q := DPut.k (k := .inr "number") (v := .int z) h (by show 3 < sizeLine; decide)
  rw [d_put_number] at q
  exact q
/-- what holds between a statement and the rest -/
theorem seq_by {t u : TS} {D : Ends} {σ : St} {H : Hp} (Pv : St → Hp → Prop) (h1 : ∀ D' : Ends, (∀ σ H, Pv σ H → D'.nx σ H) → t D' σ H) (h2 : ∀ σ H, Pv σ H → u D σ H) : tSeq t u D σ H := h1 { D with nx := u D } h2
structure Deal (H : Hp) (d l : Addr) : Prop where
  ex : ∃ (s n : Int) (ns : List Int), H d = some (.dK (dKV s n l)) ∧ H l = some (.lst (ns.map V.int)) ∧ 0 ≤ s ∧ s < 2147483648
/-- what stood but at d and l stands as it was -/
def Kept (d l : Addr) (H H' : Hp) : Prop := ∀ b o, H b = some o → b ≠ d → b ≠ l → H' b = some o
theorem Kept.refl {d l : Addr} {H : Hp} : Kept d l H H := fun _ _ e _ _ => e
theorem Kept.trans {d l : Addr} {H H1 H2 : Hp} (a : Kept d l H H1) (b : Kept d l H1 H2) : Kept d l H H2 := fun c o e h1 h2 => b c o (a c o e h1 h2) h1 h2
theorem Kept.d {d l : Addr} {H H1 : Hp} {o : HO} (a : Kept d l H H1) : Kept d l H (upd H1 d o) := fun c o e h1 h2 => by rw [upd_ne h1]; exact a c o e h1 h2
theorem Kept.l {d l : Addr} {H H1 : Hp} {o : HO} (a : Kept d l H H1) : Kept d l H (upd H1 l o) := fun c o e h1 h2 => by rw [upd_ne h2]; exact a c o e h1 h2
def spDraw : Sp := fun vs H Q _ => ∃ (d l : Addr) (m : Int), vs = [.ref d, .int m] ∧ Deal H d l ∧ 0 < m ∧ m.natAbs < 2 ^ 65 ∧
  ∀ (r : Int) (H' : Hp), 0 ≤ r → r < m → Deal H' d l → Kept d l H H' → Q (.int r) H'
section
variable {P : Program} {w : World} {K : PySem.W.Frag} {mg : Str → Option Value} {base : Heap}
abbrev s_law_draw : Stmt := top 25
abbrev N_law_draw : List Str := ["_law_deal_here", "_law_many", "_law_number_here", "_law_one", "_law_other"]
theorem sc_law_draw : FnScope N_law_draw ["_law_deal_here", "_law_many"] (defScope s_law_draw) := ⟨rfl, rfl, rfl, by decide +kernel, rfl, by decide +kernel, by decide +kernel⟩
theorem ok_law_draw {f : Addr} {fd : FuncData} (F : Fun K "_law_draw" "_law_draw" s_law_draw f fd) (T : Glob mg) : FnOk P w K mg base CX0 1 f fd ["_law_deal_here", "_law_many"] spDraw := by
  refine F.ok sc_law_draw (fun vs H Q E h => ?_) (fun cdv A outer s H vs Q E hr h => ?_)
  · obtain ⟨d, l, m, rfl, _⟩ := h
    rfl
  · obtain ⟨d, l, m, rfl, D, hm, hb, k⟩ := h
    have hu := hu_of hr
    have nd := sc_law_draw.nd
    refine ⟨_, (pss_cons (ps_while PassesOwn.never (PW.pt (pw_and (pt_cmpR op_eq (pe_dget hu (pv 0) pe_str (fun _ _ => rfl)) pe_int (nomark _)) (pw_and1 (pt_cmpR op_gt (pe_callB call_len_seq (by rfl) T.g_len PySem.boot_len (pa_cons (pe_dget hu (pv 0) pe_str (fun _ _ => rfl)) pa_nil)) pe_int (nomark _)))))
      (pss_one (ps_dput hu (pv 0) pe_str (pe_bm0 PySem.F.plainAttrs_list PySem.F.slot_list_pop PySem.F.type_list_pop mt_pop (pe_dget hu (pv 0) pe_str (fun _ _ => rfl))) rfl)))
    (pss_cons (ps_set (i := 2) nd rfl (Or.inl rfl) (pe_dget hu (pv 0) pe_str (fun _ _ => rfl)))
    (pss_cons (ps_if (pt_cmpR op_gt (pv 2) pe_int (nomark _))
    (pss_cons (ps_dput hu (pv 0) pe_str (pe_op op_fdivW (pv 2) (pv 1)) rfl)
    (pss_one (ps_ret (pe_op op_mod (pv 2) (pv 1)))))
    pss_nil)
    (pss_cons (ps_set (i := 3) nd rfl (Or.inl rfl) (pe_op op_mod (pe_op op_add (pe_op op_mul (pe_dget hu (pv 0) pe_str (fun _ _ => rfl)) pe_int) pe_int) pe_int))
    (pss_cons (ps_dput hu (pv 0) pe_str (pe_op op_mod (pe_op op_add (pe_op op_mul (pv 3) pe_int) pe_int) pe_int) rfl)
    (pss_cons (ps_set (i := 4) nd rfl (Or.inl rfl) (pe_op op_mod (pe_op op_mul (pe_dget hu (pv 0) pe_str (fun _ _ => rfl)) (pe_dget hu (pv 0) pe_str (fun _ _ => rfl))) pe_int))
    (pss_one (ps_ret (pe_op op_mod (pe_op op_add (pe_op op_mul (pe_op op_mod (pe_op op_mul (pv 3) (pv 3)) pe_int) pe_int) (pv 4)) (pv 1)))))))))), ?_⟩
    refine seq_by (fun σ H1 => σ = [some (.ref d), some (.int m), none, none, none] ∧ Deal H1 d l ∧ Kept d l H H1) (fun D' hD' => ?_) ?_
    · refine while_by (fun σ H1 => σ = [some (.ref d), some (.int m), none, none, none] ∧ Deal H1 d l ∧ Kept d l H H1)
        (fun _ H1 => match H1 l with | some (.lst xs) => xs.length | _ => 0) ⟨rfl, D, Kept.refl⟩ ?_ ?_
      · rintro σ H1 ⟨rfl, D1, kp⟩
        obtain ⟨s0, n, ns, hd, hl, hs0, hs1⟩ := id D1
        have ndl : d ≠ l := ne_of hd hl (by intro z; cases z)
        refine ⟨_, rfl, d, _, rfl, g_number hd, rfl, _, rfl, ?_⟩
        refine ite2 (fun hz => ?_) (fun hz => ?_)
        · refine ⟨_, rfl, d, _, rfl, g_left hd, l, _, rfl, .inl (SqL.of hl), _, _, rfl, rfl, _, rfl, ?_⟩
          refine ite2 (fun hz2 => ?_) (fun hz2 => ?_)
          · have hp : 0 < ns.length := by
              have := of_decide_eq_true hz2
              rw [List.length_map] at this
              omega
            have hg : (ns.map V.int)[(ns.map V.int).length - 1]? = some (.int (ns[ns.length - 1])) := by
              rw [List.length_map, List.getElem?_map, List.getElem?_eq_getElem (by omega)]
              rfl
            refine ⟨_, rfl, d, _, rfl, g_left hd, .inl ⟨rfl, _, SqL.of hl⟩, l, _, _, rfl, rfl, hl, hg, _, rfl, d, _, rfl, p_number (by rw [upd_ne ndl]; exact hd), ?_⟩
            have e2 : (ns.map V.int).dropLast = ns.dropLast.map V.int := by rw [List.map_dropLast]
            refine ⟨⟨rfl, ⟨⟨s0, _, ns.dropLast, upd_same, by rw [upd_ne ndl.symm, upd_same, e2], hs0, hs1⟩⟩, kp.l.d⟩, ?_⟩
            rw [upd_ne ndl.symm, upd_same, hl]
            show (ns.map V.int).dropLast.length < (ns.map V.int).length
            rw [List.length_dropLast, List.length_map]
            omega
          · exact hD' _ _ ⟨rfl, D1, kp⟩
        · refine iteF ?_
          exact hD' _ _ ⟨rfl, D1, kp⟩
      · intro σ H1 Q1 Q2 hq hc
        obtain ⟨x, e1, a, v, e2, hg, sc, b1, eb, hc⟩ := hc
        refine ⟨x, e1, a, v, e2, hg, sc, b1, eb, ?_⟩
        revert hc
        cases b1 with
        | false => exact fun hc => hq _ _ hc
        | true =>
          intro hc
          obtain ⟨x2, e3, a2, v2, e4, hg2, p, ys, e5, sq, i1, j1, e6, e7, k1, e8, hc⟩ := hc
          exact ⟨x2, e3, a2, v2, e4, hg2, p, ys, e5, sq, i1, j1, e6, e7, k1, e8, hq _ _ hc⟩
    · rintro σ H1 ⟨rfl, D1, kp⟩
      obtain ⟨s0, n, ns, hd, hl, hs0, hs1⟩ := id D1
      have ndl : d ≠ l := ne_of hd hl (by intro z; cases z)
      refine ⟨_, rfl, d, _, rfl, g_number hd, _, rfl, _, _, rfl, rfl, _, rfl, ?_⟩
      refine ite2 (fun hz => ?_) (fun hz => ?_)
      · have h63 : 0 < m := hm
        refine ⟨_, rfl, _, rfl, _, _, rfl, rfl, wide_div hm hb (by decide) (by decide), _, rfl, d, _, rfl, p_number hd, ?_⟩
        refine ⟨_, rfl, _, rfl, _, _, rfl, rfl, hm, ?_⟩
        exact k _ _ (Int.emod_nonneg _ (by omega)) (Int.emod_lt_of_pos _ hm) ⟨⟨s0, _, ns, upd_same, by rw [upd_ne ndl.symm]; exact hl, hs0, hs1⟩⟩ kp.d
      · -- the seed turns
        have r1 : ∀ (x y : Int), 0 < y → 0 ≤ x % y ∧ x % y < y := fun x y hy => ⟨Int.emod_nonneg _ (by omega), Int.emod_lt_of_pos _ hy⟩
        have ha1 := r1 (s0 * 48271 + 7919) 2147483647 (by decide)
        have hb1 := r1 ((s0 * 48271 + 7919) % 2147483647 * 40692 + 104729) 2147483399 (by decide)
        have q := r1 ((s0 * 48271 + 7919) % 2147483647 * ((s0 * 48271 + 7919) % 2147483647)) 2147483629 (by decide)
        refine ⟨_, rfl, d, _, rfl, g_seed hd, _, _, rfl, rfl, .inl ⟨by omega, by omega⟩, _, _, rfl, rfl, _, _, rfl, rfl, (by show (0 : Int) < 2147483647; decide), ?_⟩
        refine ⟨_, rfl, _, _, rfl, rfl, .inl ⟨by omega, by omega⟩, _, _, rfl, rfl, _, _, rfl, rfl, (by show (0 : Int) < 2147483399; decide), ?_⟩
        refine ⟨_, rfl, d, _, rfl, p_seed hd, ?_⟩
        refine ⟨_, rfl, d, _, rfl, g_seed upd_same, _, rfl, d, _, rfl, g_seed upd_same, _, _, rfl, rfl, .inl ⟨by omega, by omega⟩, _, _, rfl, rfl, (by show (0 : Int) < 2147483563; decide), ?_⟩
        refine ⟨_, rfl, _, rfl, _, _, rfl, rfl, .inl ⟨by omega, by omega⟩, _, _, rfl, rfl, (by show (0 : Int) < 2147483629; decide), _, _, rfl, rfl, .inl ⟨by omega, by omega⟩, _, rfl, _, _, rfl, rfl, _, rfl, _, _, rfl, rfl, hm, ?_⟩
        exact k _ _ (Int.emod_nonneg _ (by omega)) (Int.emod_lt_of_pos _ hm) ⟨⟨_, n, ns, upd_same, by rw [upd_ne ndl.symm]; exact hl, hb1.1, by omega⟩⟩ kp.d
end
end My

set_option Elab.async false
set_option linter.all false
set_option maxRecDepth 100000
set_option maxHeartbeats 1000000
namespace My
open PySem L2 MyR
/-- a new source of draws from the script -/
def spDeal (K : PySem.W.Frag) : Sp := fun vs H Q _ => ∃ (a : Addr) (ns : List Int), vs = [.ref a, .int 0] ∧ SqL K H a (ns.map V.int) ∧ ns.length ≤ 63 ∧
  ∀ (d l : Addr) (H' : Hp), H d = none → H l = none → Same H H' → Deal H' d l → Q (.ref d) H'
theorem cut_ints (ns : List Int) (lo hi : Option Int) : ∃ ms : List Int, cutV (ns.map V.int) lo hi = ms.map V.int ∧ ms.length ≤ ns.length := by
  unfold cutV
  rw [← List.map_drop, ← List.map_take]
  refine ⟨_, rfl, ?_⟩
  rw [List.length_take, List.length_drop]
  omega
theorem get_int {ms : List Int} {i : Nat} {x : V} (h : (ms.map V.int)[i]? = some x) : ∃ z, x = V.int z ∧ i < ms.length := by
  rw [List.getElem?_map] at h
  cases e : ms[i]? with
  | none => rw [e] at h; cases h
  | some z =>
    rw [e] at h
    exact ⟨z, (Option.some.inj h).symm, (List.getElem?_eq_some_iff.mp e).1⟩
theorem small63 {n : Nat} (h : n ≤ 63) : n < sizeLine := small1000 (by omega)
section
variable {P : Program} {w : World} {K : PySem.W.Frag} {mg : Str → Option Value} {base : Heap}
abbrev s_law_deal : Stmt := top 24
abbrev N_law_deal : List Str := ["_law_script", "_law_base", "_law_cells", "_law_cell", "_law_number_here"]
theorem sc_law_deal : FnScope N_law_deal ["_law_script", "_law_base"] (defScope s_law_deal) := ⟨rfl, rfl, rfl, by decide +kernel, rfl, by decide +kernel, by decide +kernel⟩
theorem ok_law_deal {f : Addr} {fd : FuncData} (F : Fun K "_law_deal" "_law_deal" s_law_deal f fd) (T : Glob mg) : FnOk P w K mg base CX0 1 f fd ["_law_script", "_law_base"] (spDeal K) := by
  refine F.ok sc_law_deal (fun vs H Q E h => ?_) (fun cdv A outer s H vs Q E hr h => ?_)
  · obtain ⟨a, ns, rfl, _⟩ := h
    rfl
  · obtain ⟨a, ns, rfl, hS, hlen, k⟩ := h
    have hu := hu_of hr
    have nd := sc_law_deal.nd
    refine ⟨_, (pss_cons (ps_setLc (i := 2) (own := [("_law_cell", 3)]) (g := gName 3) (tt := tYes) rfl nd rfl rfl (sw_true rfl rfl rfl (by decide +kernel)) (pi_list (pe_slice sl_list (pv 0) (po_some (pv 1)) (po_some pe_int))) (blkOk_by (N := N_law_deal) (sc := defScope s_law_deal) (by decide +kernel)) (fun _ _ _ _ _ => pg_name (i := 3) nd rfl (Or.inl rfl)) (fun _ _ _ _ _ => pts_nil) (fun _ _ _ _ _ => (pe_callB (call_max2 rfl) (by rfl) T.g_max (by decide +kernel) (pa_cons (pv 3) (pa_cons (pe_op op_sub pe_int (pv 3)) pa_nil)))))
    (pss_cons (ps_set (i := 4) nd rfl (Or.inl rfl) (pe_op op_add pe_int (pv 1)))
    (pss_cons (ps_for PassesOwn.never rfl (pi_list (pv 2)) (pg_name (i := 3) nd rfl (Or.inl rfl))
    (pss_one (ps_set (i := 4) nd rfl (Or.inl rfl) (pe_op op_mod (pe_op op_add (pe_op op_mul (pv 4) pe_int) (pe_op op_mod (pv 3) pe_int)) pe_int))))
    (pss_one (ps_ret (pe_disp (pps_cons pe_str (pv 4) (pps_cons pe_str pe_int (pps_cons pe_str (pe_lstRev rfl (by rfl) T.g_list (by rfl) T.g_reversed (pe_lc (own := [("_law_cell", 3)]) (g := gName 3) rfl nd (pi_list (pv 2)) (blkOk_by (N := N_law_deal) (sc := defScope s_law_deal) (by decide +kernel)) (fun _ _ _ _ _ => pg_name (i := 3) nd rfl (Or.inl rfl)) (fun _ _ _ _ _ => pts_one (pt_cmpR op_ge (pv 3) (pe_op op_pow pe_int pe_int) (nomark _))) (fun _ _ _ _ _ => (pv 3)))) pps_nil))) (by rfl) (by rfl) (fun z => by cases z) (by decide))))))), ?_⟩
    -- the cells
    refine ⟨_, rfl, _, rfl, _, rfl, _, rfl, a, _, rfl, hS, fun sl hsl => ?_⟩
    obtain ⟨ms, em, hml⟩ := cut_ints ns (some 0) (some 63)
    rw [em]
    refine ⟨sl, rfl, ⟨_, SqL.of upd_same⟩, fun D hD => ?_⟩
    have nDs : sl ≠ D := fun e => by rw [e, upd_same] at hD; cases hD
    have hD0 : H D = none := by rw [← upd_ne (H := H) (Ne.symm nDs)]; exact hD
    refine lc_list (K := K) (a := sl) (xs := ms.map V.int) (fun i H1 => Same H H1 ∧ H1 sl = some (.lst (ms.map V.int)) ∧ ∃ acc : List Int, H1 D = some (.lst (acc.map V.int)) ∧ acc.length = i)
      ⟨fun b o e => by rw [upd_ne (ne_of_none e hD0), upd_ne (ne_of_none e hsl)]; exact e, by rw [upd_ne nDs, upd_same], [], upd_same, rfl⟩ (fun i H1 _ ⟨_, h1, _⟩ => SqL.of h1) ?_ ?_
    · rintro i x H1 hx ⟨sm, h1, acc, h2, hl⟩
      obtain ⟨z, rfl, hi⟩ := get_int hx
      refine ⟨rfl, ?_⟩
      refine ⟨_, rfl, _, rfl, _, _, rfl, rfl, ?_⟩
      refine ⟨_, _, rfl, ?_⟩
      refine ⟨acc.map V.int, h2, by rw [List.length_map]; exact small63 (by omega), fun b o e => ?_, ?_, ?_⟩
      · rw [upd_ne (ne_of_none e hD0)]; exact sm b o e
      · rw [upd_ne nDs]; exact h1
      · refine ⟨acc ++ [if 0 - z > z then 0 - z else z], ?_, by rw [List.length_append, hl]; rfl⟩
        rw [upd_same, List.map_append]
        rfl
    · rintro H1 ⟨sm, h1, cs, h2, hl⟩
      rw [List.length_map] at hl
      refine ⟨_, rfl, _, _, rfl, rfl, ?_⟩
      refine ⟨_, rfl, D, rfl, ⟨_, SqL.of h2⟩, ?_⟩
      refine for_list (K := K) (a := D) (xs := cs.map V.int) (fun i σ H2 => ∃ (v : Option V) (t : Int), σ = [some (.ref a), some (.int 0), some (.ref D), v, some (.int t)] ∧ 0 ≤ t ∧ t < 2147483648 ∧ H2 = H1)
        ⟨none, 6143, rfl, by decide, by decide, rfl⟩ (fun i σ H2 _ ⟨_, _, _, _, _, e⟩ => by rw [e]; exact SqL.of h2) ?_ ?_
      · rintro i x σ H2 hx ⟨v, t, rfl, t0, t1, rfl⟩
        obtain ⟨z, rfl, hi⟩ := get_int hx
        refine ⟨_, rfl, _, _, rfl, rfl, .inl ⟨by omega, by omega⟩, _, rfl, _, _, rfl, rfl, (by show (0 : Int) < 2147483629; decide), _, _, rfl, rfl, _, _, rfl, rfl, (by show (0 : Int) < 2147483647; decide), ?_⟩
        refine ⟨_, _, rfl, Int.emod_nonneg _ (by decide), ?_, rfl⟩
        have := Int.emod_lt_of_pos (t * 69621 + z % 2147483629) (show (0 : Int) < 2147483647 by decide)
        omega
      · rintro σ H2 ⟨v, t, rfl, t0, t1, rfl⟩
        -- the dict
        intro d hd
        have nDd : D ≠ d := ne_of_none h2 hd
        refine ⟨_, rfl, ?_⟩
        refine ⟨_, rfl, D, rfl, ⟨_, SqL.of (by rw [upd_ne nDd]; exact h2)⟩, fun L hL => ?_⟩
        have nLd : d ≠ L := fun e => by rw [e, upd_same] at hL; cases hL
        have hL0 : H2 L = none := by rw [← upd_ne (H := H2) (Ne.symm nLd)]; exact hL
        have nDL : D ≠ L := ne_of_none h2 hL0
        refine lc_list (K := K) (a := D) (xs := cs.map V.int) (fun i H3 => Same H2 H3 ∧ H3 d = some (.dK []) ∧ ∃ acc : List Int, H3 L = some (.lst (acc.map V.int)) ∧ acc.length ≤ i)
          ⟨fun b o e => by rw [upd_ne (ne_of_none e hL0), upd_ne (ne_of_none e hd)]; exact e, by rw [upd_ne nLd, upd_same], [], upd_same, Nat.le_refl _⟩ (fun i H3 _ ⟨sm3, _, _⟩ => SqL.of (sm3 _ _ h2)) ?_ ?_
        · rintro i x H3 hx ⟨sm3, hd3, acc, h3, hl3⟩
          obtain ⟨z, rfl, hi⟩ := get_int hx
          refine ⟨rfl, ?_⟩
          refine ⟨_, rfl, _, _, rfl, rfl, ⟨by decide, by decide, by decide⟩, _, _, rfl, rfl, _, rfl, ?_⟩
          have go : ∀ (zs : List Int), zs.length ≤ i + 1 → ∀ H4, H4 = upd H3 L (.lst (zs.map V.int)) → Same H2 H4 ∧ H4 d = some (.dK []) ∧ ∃ acc : List Int, H4 L = some (.lst (acc.map V.int)) ∧ acc.length ≤ i + 1 := fun zs hz H4 e4 => by
            subst e4
            refine ⟨fun b o e => ?_, by rw [upd_ne nLd]; exact hd3, zs, upd_same, hz⟩
            rw [upd_ne (ne_of_none e hL0)]
            exact sm3 b o e
          refine ite2 (fun _ => ?_) (fun _ => ?_)
          · refine ⟨_, rfl, acc.map V.int, h3, by rw [List.length_map]; exact small63 (by omega), ?_⟩
            refine go (acc ++ [z]) (by rw [List.length_append]; exact Nat.succ_le_succ hl3) _ ?_
            rw [List.map_append]
            rfl
          · exact ⟨sm3, hd3, acc, h3, Nat.le_succ_of_le hl3⟩
        · rintro H3 ⟨sm3, hd3, acc, h3, hl3⟩
          refine ⟨L, _, rfl, SqL.of h3, fun R hR => ?_⟩
          have nRd : d ≠ R := ne_of_none hd3 hR
          refine ⟨by rw [upd_ne nRd]; exact hd3, dKV t 0 R, rfl, (by show 3 ≤ 15; decide), ?_⟩
          rw [d_merge]
          have hR2 : H2 R = none := sm3.free hR
          refine k d R _ (sm.free hd) (sm.free hR2) (fun b o e => ?_) ⟨⟨t, 0, acc.reverse, upd_same, ?_, t0, t1⟩⟩
          · have e2 := sm b o e
            rw [upd_ne (ne_of_none e2 hd), upd_ne (ne_of_none e2 hR2)]
            exact sm3 b o e2
          · rw [upd_ne (Ne.symm nRd), upd_same, List.map_reverse]
end
end My

set_option Elab.async false
set_option linter.all false
set_option maxRecDepth 100000
set_option maxHeartbeats 1000000
namespace MyN
open PySem PySem.Spec PyProof.Rows PySem.SeqAt
open Builtin
section
variable {M : Model} {prog : Program} {w : World} {A : Around} {E : Value → Shared → Prop} {s : Shared} {K : PySem.W.Frag} {x y C D f L : Addr} {ox : Obj} {od : Option Obj} {tb : Value} {h₀ : Heap} {m : Str → Option Value}
theorem ifBound_objNe {args : List Value} {Q : Option Value → Shared → Prop} (X : K.In s.heap) (I : PySem.W.InstAt s.heap x ox C od) (hs : PySem.W.findIn K (.ref C) "__ne__" = some (some (.builtin "object.__ne__")))
    (h : wpAny M A (call (.builtin "object.__ne__") (.ref x :: args)) (fun v => Q (some v)) E s) : wpAny M A (callSpecialIfBound? (.ref x) "__ne__" args) Q E s := by
  simp only [callSpecialIfBound?, bindSpecialIfBound?]
  refine wpAny_holding (wpAny_bind (wpAny_bind (wpAny_bind (I.type.here ((PySem.W.looks_findIn X hs).here ?_)))))
  refine wpAny_bind (wpAny_askSetting (wpAny_ite ?_))
  have fin : wpAny M A (call (.builtin "object.__ne__") ([.ref x] ++ args) >>= fun v => pure (some v)) Q E s := wpAny_bind (wpAny_mono h (fun v s' h' => wpAny_pure h') fun _ _ h' => h')
  split
  · exact wpAny_bind (wpAny_of_eq (F.cmp_object.ne.bind _) (wpAny_pure (by exact fin)))
  · exact wpAny_tryCatch (wpAny_bind (wpAny_of_eq (F.cmp_object.ne.bind _) (wpAny_pure (by exact fin))))
theorem objNe_entry {Q : Fin → Shared → Prop} (hu : A.units < cLine) (X : K.In s.heap) (I : PySem.W.InstAt s.heap x ox C od) (hs : PySem.W.findIn K (.ref C) "__eq__" = some (some (.ref f))) (hf : PySem.W.isFn K (.ref f) = true)
    (hcall : wpAny (model prog w) A (call (.ref f) [.ref x, .ref y]) (fun v s' => ∃ b, v = .bool b ∧ Q (.done (.ret (.bool (!b)))) s') E s) :
    wpAny (model prog w) A (Builtin.«object.__ne__» ⟨[.ref x, .ref y], []⟩) Q E s := by
  obtain ⟨h, g, d, t, os⟩ := s
  unfold Builtin.«object.__ne__»
  repeat (first
    | with_reducible refine wpAny_cRoomFor hu ?_
    | (refine wpAny_bind (m := callSpecialIfBound? (.ref x) (Str.ofString "__eq__") [.ref y])
        (PySem.W.ifBound_K X I hs hf (wpAny_mono hcall (fun r s' hr => by
          obtain ⟨b, rfl, hq⟩ := hr
          repeat (first | exact hq | exact wpAny_pure hq | exact wpAny_truthy_bool hq | (refine wpAny_bind (m := truthy (.bool _)) (wpAny_truthy_bool ?_)) | wp_step)) fun _ _ e => e)))
    | wp_step)
theorem call_objNe {Q : Value → Shared → Prop} (hu : A.units + 1 < cLine) (X : K.In s.heap) (I : PySem.W.InstAt s.heap x ox C od) (hm : PySem.W.mroIn K C (.type "object") = some true) (hs : PySem.W.findIn K (.ref C) "__eq__" = some (some (.ref f))) (hf : PySem.W.isFn K (.ref f) = true)
    (hcall : wpAny (model prog w) A.in1 (call (.ref f) [.ref x, .ref y]) (fun v s' => ∃ b, v = .bool b ∧ Q (.bool (!b)) s') E s) :
    wpAny (model prog w) A (call (.builtin "object.__ne__") [.ref x, .ref y]) Q E s :=
  wpAny_call (codeAny_call_builtin F.cmp_object.ne.plain F.cmpEntry_ne (PySem.W.check_slot F.cmpKind_ne F.cmpSplit_ne (I.type.andThen (PySem.W.looks_mroIn X hm)) (F.cmpArgs_ne _ _)
    (objNe_entry (A := A.in1) hu X I hs hf hcall)))
theorem ne_K {Q : Value → Shared → Prop} (hu : A.units + 1 < cLine) (X : K.In s.heap) (I : PySem.W.InstAt s.heap x ox C od) (hb : PySem.W.Looks (model prog w) s.heap (typeOf (.ref y)) tb) (hn : PySem.W.notFirst K C tb = true)
    (hne : PySem.W.findIn K (.ref C) "__ne__" = some (some (.builtin "object.__ne__"))) (hm : PySem.W.mroIn K C (.type "object") = some true) (hs : PySem.W.findIn K (.ref C) "__eq__" = some (some (.ref f))) (hf : PySem.W.isFn K (.ref f) = true)
    (hcall : wpAny (model prog w) A.in1 (call (.ref f) [.ref x, .ref y]) (fun v s' => ∃ b, v = .bool b ∧ Q (.bool (!b)) s') E s) :
    wpAny (model prog w) A (richCompare .NotEq (.ref x) (.ref y)) Q E s := by
  have one : wpAny (model prog w) A (tryCompare (.ref x) (cmpInfo .NotEq).2.1 (.ref y)) (fun r s' => ∃ v, r = some v ∧ Q v s') E s := by
    unfold tryCompare
    refine wpAny_bind (ifBound_objNe X I hne (call_objNe hu X I hm hs hf (wpAny_mono hcall (fun v s' hv => ?_) fun _ _ e => e)))
    obtain ⟨b, rfl, hq⟩ := hv
    exact ⟨b, rfl, wpAny_pure ⟨_, rfl, hq⟩⟩
  unfold richCompare
  simp only [oneThing_ref]
  refine wpAny_holding (wpAny_bind (wpAny_cRoomFor (Nat.lt_of_succ_lt hu) ?_))
  refine wpAny_bind (I.type.here (wpAny_bind (hb.here ?_)))
  split
  · rename_i q
    have e : PySem.W.subIn K tb (.ref C) = some false := by
      rcases Bool.or_eq_true_iff.mp hn with e | e
      · rw [beq_iff_eq.mp e] at q; simp at q
      · exact beq_iff_eq.mp e
    refine wpAny_bind ((PySem.W.looks_subIn X e).here ?_)
    simp only [Bool.false_eq_true, if_false]
    refine wpAny_bind (wpAny_mono one (fun r s' z => ?_) fun _ _ e => e)
    obtain ⟨v, rfl, hq⟩ := z
    exact wpAny_pure hq
  · refine wpAny_bind (wpAny_pure ?_)
    simp only [Bool.false_eq_true, if_false]
    refine wpAny_bind (wpAny_mono one (fun r s' z => ?_) fun _ _ e => e)
    obtain ⟨v, rfl, hq⟩ := z
    exact wpAny_pure hq
end
end MyN

set_option Elab.async false
set_option linter.all false
set_option maxRecDepth 100000
set_option maxHeartbeats 1000000
namespace MyR
open PySem PySem.Spec PyProof.Rows L2
/-- the class at C has its == at f, and no != of its own -/
structure EqC (K : PySem.W.Frag) (C f : Addr) : Prop where
  eq : PySem.W.findIn K (.ref C) "__eq__" = some (some (.ref f))
  ne : PySem.W.findIn K (.ref C) "__ne__" = some (some (.builtin "object.__ne__"))
  fn : PySem.W.isFn K (.ref f) = true
  mo : PySem.W.mroIn K C (.type "object") = some true
def rEqF (X : Cx) (neg : Bool) : R2 := fun x y H Q => ∃ (a b C dx dy : Addr) (fs gs : List (Str × V)) (f : Addr) (fd : FuncData) (ps : List Str) (sp : Sp) (k : Nat) (CX : CXT) (E : XK), x = .ref a ∧ y = .ref b ∧ H a = some (.ins C dx fs) ∧ H b = some (.ins C dy gs) ∧ EqC X.K C f ∧
  FnOk X.prog X.w X.K X.mg X.base CX k f fd ps sp ∧ Room (k + 1) X.A ∧ Binds X.K fd ps [] ∧ Passes CX X E ∧ sp [.ref a, .ref b] H (fun v H' => ∃ t : Bool, v = .bl t ∧ Q (.bl (if neg = true then !t else t)) H') E
section
variable {X : Cx}
theorem op_eqF : OpR X (compareOp .Eq) (rEqF X false) := by
  intro pins s σ H x y u v Q I rx ry h
  obtain ⟨a, b, C, dx, dy, fs, gs, f, fd, ps, sp, k, CX, E, rfl, rfl, ha, hb', c, F, hr, hb, hx, hsp⟩ := h
  cases rx
  cases ry
  obtain ⟨mA, J, _⟩ := ins_get I.hok ha
  obtain ⟨mB, J', _⟩ := ins_get I.hok hb'
  obtain ⟨od, J, _⟩ := J.look
  obtain ⟨od', J', _⟩ := J'.look
  obtain ⟨m, hF⟩ := I.fr
  show wpAny (model X.prog X.w) X.A (richCompare .Eq (.ref a) (.ref b)) (EP X pins σ Q) X.xe s
  refine PySem.W.cmp_K (op := .Eq) (tb := .ref C) hr.units0 hF I.ok.mod.kin J J'.type (by simp [PySem.W.notFirst]) c.eq c.fn ?_
  have e0 := I.env0
  have hl := F.len _ _ _ _ hsp
  have r2 : Vals [V.ref a, V.ref b] [Value.ref a, Value.ref b] := .cons rfl (.cons rfl .nil)
  refine wpAny_call (codeAny_mono (F.run X.A X.stack s H ⟨[.ref a, .ref b], []⟩ [.ref a, .ref b] [.ref a, .ref b] _ E (hr.mono (Nat.le_succ _)) e0 (by
    have := hb s [.ref a, .ref b] I.kIn (by simpa using hl)
    simpa using this) r2 hsp) fun r s' hq => ?_)
  cases r with
  | error e => exact hx pins σ H s e s' I hq
  | ok fl =>
    cases fl with
    | ret w =>
      obtain ⟨z, H', I', rz, t, ez, q⟩ := I.after hq
      subst ez
      cases rz
      exact ⟨.bl t, H', I', rfl, q⟩
    | next => exact False.elim hq
    | brk => exact False.elim hq
    | cont => exact False.elim hq
theorem op_neF : OpR X (compareOp .NotEq) (rEqF X true) := by
  intro pins s σ H x y u v Q I rx ry h
  obtain ⟨a, b, C, dx, dy, fs, gs, f, fd, ps, sp, k, CX, E, rfl, rfl, ha, hb', c, F, hr, hb, hx, hsp⟩ := h
  cases rx
  cases ry
  obtain ⟨mA, J, _⟩ := ins_get I.hok ha
  obtain ⟨mB, J', _⟩ := ins_get I.hok hb'
  obtain ⟨od, J, _⟩ := J.look
  obtain ⟨od', J', _⟩ := J'.look
  show wpAny (model X.prog X.w) X.A (richCompare .NotEq (.ref a) (.ref b)) (EP X pins σ Q) X.xe s
  refine MyN.ne_K (tb := .ref C) (hu_of hr) I.kIn J J'.type (by simp [PySem.W.notFirst]) c.ne c.mo c.eq c.fn ?_
  have e0 := I.env0
  have hl := F.len _ _ _ _ hsp
  have r2 : Vals [V.ref a, V.ref b] [Value.ref a, Value.ref b] := .cons rfl (.cons rfl .nil)
  refine wpAny_call (codeAny_mono (F.run X.A.in1 X.stack s H ⟨[.ref a, .ref b], []⟩ [.ref a, .ref b] [.ref a, .ref b] _ E hr.in1 e0.in1 (by
    have := hb s [.ref a, .ref b] I.kIn (by simpa using hl)
    simpa using this) r2 hsp) fun r s' hq => ?_)
  cases r with
  | error e => exact hx pins σ H s e s' I hq
  | ok fl =>
    cases fl with
    | ret w =>
      obtain ⟨z, H', I', rz, t, ez, q⟩ := I.after hq
      subst ez
      cases rz
      exact ⟨t, rfl, .bl (!t), H', I', rfl, q⟩
    | next => exact False.elim hq
    | brk => exact False.elim hq
    | cont => exact False.elim hq
end
end MyR

set_option Elab.async false
set_option linter.all false
set_option maxRecDepth 100000
set_option maxHeartbeats 1000000
namespace MyR
open PySem PySem.Spec PyProof.Rows L2
/-- len of an object whose class has its own -/
def rLenF (X : Cx) : List V → Hp → VK → Prop := fun xs H Q => ∃ (a C dx : Addr) (fs : List (Str × V)) (f : Addr) (fd : FuncData) (ps : List Str) (sp : Sp) (k : Nat) (CX : CXT) (E : XK), xs = [.ref a] ∧ H a = some (.ins C dx fs) ∧
  PySem.W.findIn X.K (.ref C) "__len__" = some (some (.ref f)) ∧ PySem.W.isFn X.K (.ref f) = true ∧ FnOk X.prog X.w X.K X.mg X.base CX k f fd ps sp ∧ Room (k + 1) X.A ∧ Binds X.K fd ps [] ∧ Passes CX X E ∧
  sp [.ref a] H (fun v H' => ∃ n : Int, v = .int n ∧ 0 ≤ n ∧ n < 9223372036854775808 ∧ Q (.int n) H') E
theorem call_lenF {X : Cx} : CallR X (.builtin "len") (rLenF X) := by
  intro pins s σ H xs us Q I r h
  obtain ⟨a, C, dx, fs, f, fd, ps, sp, k, CX, E, rfl, ha, hfi, hfn, F, hr, hb, hx, hsp⟩ := h
  obtain ⟨u, rfl, ru⟩ := vals1 r
  obtain rfl : u = Value.ref a := ru
  obtain ⟨mA, J, _⟩ := ins_get I.hok ha
  obtain ⟨od, J, _⟩ := J.look
  obtain ⟨m, hF⟩ := I.fr
  refine PySem.W.len_K hF I.ok.mod.kin J hfi hfn ?_
  have e0 := I.env0
  have hl := F.len _ _ _ _ hsp
  have r2 : Vals [V.ref a] [Value.ref a] := .cons rfl .nil
  refine wpAny_call (codeAny_mono (F.run X.A.in1 X.stack s H ⟨[.ref a], []⟩ [.ref a] [.ref a] _ E hr.in1 e0.in1 (by
    have := hb s [.ref a] I.kIn (by simpa using hl)
    simpa using this) r2 hsp) fun r s' hq => ?_)
  cases r with
  | error e => exact hx pins σ H s e s' I hq
  | ok fl =>
    cases fl with
    | ret w =>
      obtain ⟨z, H', I', rz, n, ez, n0, n1, q⟩ := I.after hq
      subst ez
      obtain ⟨t, rfl⟩ := rz
      exact ⟨⟨n0, by omega⟩, ⟨.int n, H', I'.tok _, ⟨_, rfl⟩, q⟩⟩
    | next => exact False.elim hq
    | brk => exact False.elim hq
    | cont => exact False.elim hq
end MyR

set_option Elab.async false
set_option linter.all false
set_option maxRecDepth 100000
set_option maxHeartbeats 1000000
namespace MyR
open PySem PySem.Spec PyProof.Rows L2
/-! ### promises kept where no repr is on its way -/
section
variable {P : Program} {w : World} {K : PySem.W.Frag} {mg : Str → Option Value} {base : Heap} {CX : CXT} {k : Nat} {f : Addr} {fd : FuncData} {ps : List Str} {sp : Sp}
structure FnOkG (P : Program) (w : World) (K : PySem.W.Frag) (mg : Str → Option Value) (base : Heap) (CX : CXT) (k : Nat) (f : Addr) (fd : FuncData) (ps : List Str) (sp : Sp) : Prop where
  len : ∀ vs H Q E, sp vs H Q E → vs.length = ps.length
  run : ∀ (A : Around), A.guards = some [] → ∀ (outer : List Env) (s : Shared) (H : Hp) (args : Args) (us : List Value) (vs : List V) (Q : VK) (E : XK), Room k A → Env0 P w K mg base A outer s H → BindsTo s fd args (ps.zip us) → Vals vs us → sp vs H Q E →
    codeAny (model P w) A (.call (.ref f) args) (CR CX outer P w H s Q E) s
theorem FnOkG.of (F : FnOk P w K mg base CX k f fd ps sp) : FnOkG P w K mg base CX k f fd ps sp := ⟨F.len, fun A _ => F.run A⟩
theorem deeper_guards {A : Around} {env : Env} (h : A.guards = some []) : (A.deeper env).guards = some [] := h
/-- a def by its body, as Fun.ok; the body knows that no repr is on its way -/
theorem okG {x qual : Str} {st : Stmt} {N : List Str} (F : Fun K x qual st f fd) (S : FnScope N ps (defScope st)) (len : ∀ vs H Q E, sp vs H Q E → vs.length = ps.length)
    (body : ∀ (cdv : Value) (A : Around), A.guards = some [] → ∀ (outer : List Env) (s : Shared) (H : Hp) (vs : List V) (Q : VK) (E : XK), Room k (A.deeper (envOfC qual (defScope st) s.heap.objs.size f cdv)) → sp vs H Q E →
      ∃ t, PSs (cxOf CX0 P w K mg base N qual (defScope st) f cdv A outer s H E).nox (defBody st) t ∧ t { nx := fun _ H' => Q .non H', rt := Q } (start N vs) H) : FnOkG P w K mg base CX0 (k + 1) f fd ps sp where
  len := len
  run A hg outer s H args us vs Q E room env bind vals want := by
    obtain ⟨oc, od, kV, doc, pm, an, cdv, ct, osl, rfl, at_, code⟩ := F.ex
    obtain ⟨t, derived, reading⟩ := body cdv A hg outer s H vs Q E (room.deeper _) want
    have held : ∀ b o, base.get? b = some o → s.heap.get? b = some o := fun b o e => (env.bs b o e).1
    have written : K.In s.heap := env.mod.kin.keeps held
    have local_ : ∀ y ∈ ps.zip us, (defScope st).names.lookup y.1 = some .local ∨ ((defScope st).names.lookup y.1 = some .cell ∧ ((cellsFrom (s.heap.objs.size + 1) (defScope st).names []).lookup y.1).isSome = true) := by
      rintro ⟨n, v⟩ hy
      exact (S.par n (List.of_mem_zip hy).1).imp id fun q => ⟨q, PySem.W.cellsFrom_some _ _ _ (.inl q)⟩
    refine codeAny_call_function room.depth (written _ _ at_) rfl S.co S.gen rfl (PySem.W.codeRec_of written code) (bind _ _ _ _ ?_)
    refine wpAny_newFunctionEnv_cells S.kind local_ fun e he s1 entered => ?_
    subst he
    refine ⟨(env.mod.nolimit.keeps held).keeps entered.toInCall.keep, codeAny_func ?_⟩
    refine wpAny_mono (derived.nox.run [] s1 (start N vs) H _ (inv_start S room.hd env (len _ _ _ _ want) vals entered) reading) (fun fl s' hs => ?_) fun e s' hs => hs
    cases fl with
    | brk => exact (let ⟨_, _, _, z⟩ := hs; z).elim
    | cont => exact (let ⟨_, _, _, z⟩ := hs; z).elim
    | ret u =>
      obtain ⟨v, _, H', J, rv, q⟩ := hs
      exact ⟨v, H', J.os, J.bare, J.base, J.hok, rv, q⟩
    | next =>
      obtain ⟨_, H', J, q⟩ := hs
      exact ⟨.non, H', J.os, J.bare, J.base, J.hok, rfl, q⟩
end
section
variable {X : Cx} {CX : CXT} {k : Nat} {f : Addr} {fd : FuncData} {ps : List Str} {sp : Sp} {ds : List Value} {dvs : List V} {E : XK} {x : Str} {p pos : Pos} {e : Expr} {es : List Expr} {t : TA}
/-- f(e, ..) of such a def -/
theorem pe_callG (F : FnOkG X.prog X.w X.K X.mg X.base CX k f fd ps sp) (hgd : X.A.guards = some []) (hr : Room k X.A) (hg : Gl X x) (hm : X.mg x = some (.ref f)) (hk : PySem.W.keepIn X.K (.ref f) = true) (hb : Binds X.K fd ps ds) (hd : Vals dvs ds) (hx : Passes CX X E)
    (ha : PA X (e :: es) t) (hdb : (x == ("__debug__" : Str)) = false := by decide) (he : starEach (e :: es) X.env = (false, eval e X.env) :: starEach es X.env := by rfl) (hpl : (backTo pos (starEach es X.env)).any (·.1) = false := by rfl) :
    PE X (.Call (.Name x p) (e :: es) [] pos) (tCall sp dvs E t) where
  run pins s σ H Q I h := by
    refine wpAny_Call_Name_kw (ld_glob I hg hm (PySem.W.callWith_K (h₀ := X.base) I.ok.mod.kin hk (thn (ha.run pos pins s σ H _ I h) fun us s1 got => ?_) he hpl) hdb)
    obtain ⟨vs, H1, I1, r, q⟩ := got
    refine ⟨I1.kIn, wpAny_call ?_⟩
    have long : (us ++ ds).length = ps.length := by rw [← (r.append hd).length]; exact F.len _ _ _ _ q
    refine codeAny_mono (F.run X.A hgd X.stack s1 H1 ⟨us, []⟩ (us ++ ds) (vs ++ dvs) Q E hr I1.env0 (hb s1 us I1.kIn long) (r.append hd) q) fun res s' hq => ?_
    match res, hq with
    | .error e, hq => exact hx pins σ H1 s1 e s' I1 hq
    | .ok (.ret u), hq => exact I1.after hq
/-- repr of None, and of lists and tuples of data at any depth -/
def rReprD (K : PySem.W.Frag) : List V → Hp → VK → Prop := fun xs H Q => (xs = [.non] ∧ Q (.str "None") H) ∨
  ∃ (a : Addr) (d : PyData), xs = [.ref a] ∧ Dp K H (.ref a) d ∧ d.showable = true ∧ d.hasDict = false ∧ d.depth ≤ 60 ∧ d.shown.length ≤ sizeLine ∧ Q (.str d.shown) H
theorem call_reprD (hgd : X.A.guards = some []) (hu : X.A.units + 64 < cLine) : CallR X (.builtin "repr") (rReprD X.K) := by
  intro pins s σ H xs us Q I r h
  rcases h with ⟨rfl, q⟩ | ⟨a, d, rfl, hd, sh, nd, deep, long, q⟩
  · obtain ⟨u, rfl, ru⟩ := vals1 r
    obtain rfl : u = Value.none := ru
    exact PySem.P.repr_of_none ⟨.str "None", H, I.tok _, ⟨_, rfl⟩, q⟩
  · obtain ⟨u, rfl, ru⟩ := vals1 r
    obtain rfl : u = Value.ref a := ru
    obtain ⟨as, rd⟩ := Dp.reads I d _ _ hd rfl
    exact repr_of_reads' rd sh (fun e => by rw [nd] at e; cases e) hgd (by omega) (fun _ _ e => e) (fun h' u tk keep => ⟨.str d.shown, H, I.kept (t' := tk) keep, ⟨u, rfl⟩, q⟩) long
end
end MyR

set_option Elab.async false
set_option linter.all false
set_option maxRecDepth 100000
set_option maxHeartbeats 1000000
namespace MyR
open PySem PySem.Spec PyProof.Rows L2
/-! ### the end of a law whose def knows that no repr is on its way -/
section
variable {P : Program} {w : World} {K : PySem.W.Frag} {mg mb : Str → Option Value} {a : Addr} {s : Shared} {vs : List Value} {ns : List Int}
/-- the heap that the law begins with: the script alone, or nothing where the script is the module's own -/
theorem first_heap (written : K.In s.heap) (script : s.heap.get? a = some { cls := .type "list", data := .seq vs.toArray }) (whole : IntsAre vs ns) (fits : ns.length ≤ sizeLine) :
    ∃ H : Hp, Only H ∧ SqL K H a (ns.map V.int) ∧ HOk P w H s.heap ∧ ∀ b u, H b = some u → b = a ∧ K.lookup a = none ∧ u = .frz { cls := .type "list", data := .seq vs.toArray } (.lst (ns.map V.int)) := by
  have rv := vals_ints whole
  cases found : K.lookup a with
  | some o =>
    have same := written a o found
    rw [script] at same
    obtain rfl := Option.some.inj same
    refine ⟨fun _ => none, fun _ => .inl rfl, .inr ⟨_, vs.toArray, _, found, rfl, rfl, rfl, by rw [List.size_toArray, whole.length]; exact fits, by simpa using rv⟩, fun b u e => ?_, fun b u e => ?_⟩
    · exact absurd (show (none : Option HO) = some u from e) (by simp)
    · exact absurd (show (none : Option HO) = some u from e) (by simp)
  | none =>
    let o : Obj := { cls := .type "list", data := .seq vs.toArray }
    let one : HO := .frz o (.lst (ns.map V.int))
    have only : ∀ b u, (if b = a then some one else none : Option HO) = some u → b = a ∧ u = one := fun b u e => by
      split at e
      · exact ⟨by assumption, (Option.some.inj e).symm⟩
      · cases e
    refine ⟨fun b => if b = a then some one else none, fun b => ?_, .inl (.inr ⟨o, if_pos rfl⟩), fun b u e => ?_, fun b u e => ⟨(only b u e).1, rfl, (only b u e).2⟩⟩
    · by_cases hb : b = a
      · exact .inr ⟨_, _, if_pos hb⟩
      · exact .inl (if_neg hb)
    · obtain ⟨rfl, rfl⟩ := only b u e
      exact ⟨script, by rw [List.length_map]; exact fits, vs, _, rv, script⟩
variable {CX : CXT} {k : Nat} {fa : Addr} {fd : FuncData} {x : Str} {sp : Sp}
theorem law_callG (written : K.In s.heap) (names : s.heap.Ns mainGlobals mg) (blt : s.heap.Ns builtinsNs mb) (bltIs : ∀ x : Str, x ≠ "__name__" → mb x = bootBuiltins x) (free : s.heap.NoLimit) (noGens : s.gens = #[])
    (script : s.heap.get? a = some { cls := .type "list", data := .seq vs.toArray }) (whole : IntsAre vs ns) (fits : ns.length ≤ sizeLine) (room : Room k callerA)
    (F : ∀ base : Heap, K.In base → base.Ns mainGlobals mg → FnOkG P w K mg base CX k fa fd [x] sp) (bind : ∀ (s : Shared) (u : Value), BindsTo s fd ⟨[u], []⟩ [(x, u)])
    (want : ∀ H : Hp, Only H → SqL K H a (ns.map V.int) → sp [.ref a] H (fun v _ => v = .bl true) fun _ _ _ => False) (quiet : ∀ H e s', CX [] H s (fun _ _ _ => False) e s' → False) :
    codeAny (model P w) callerA (.call (.ref fa) ⟨[.ref a], []⟩) (fun r s' => r = .ok (.ret (.bool true)) ∧ OldK s.heap s'.heap ∧ s'.os = s.os ∧ AllBare s'.gens) s := by
  obtain ⟨H, only, sq, hok, known⟩ := first_heap (P := P) (w := w) written script whole fits
  -- what is no dict's or the written part's stands with the script hidden
  have hid : ∀ {b : Addr} {o : Obj}, s.heap.get? b = some o → (b = a → False) → (hidT s.heap H).get? b = some o := fun {b o} e nb => hidT_get e (by
    cases q : H b with
    | none => rfl
    | some u => exact (nb (known b u q).1).elim)
  have dicts : ∀ {b : Addr} {m : Str → Option Value}, s.heap.Ns b m → (hidT s.heap H).Ns b m := fun {b m} n => by
    obtain ⟨o, es, ep, e, d, r⟩ := n
    refine ⟨o, es, ep, hid e (fun z => ?_), d, r⟩
    subst z
    rw [script] at e
    obtain rfl := Option.some.inj e
    exact absurd (show Data.seq vs.toArray _ = Data.dict es ep from d) (by simp)
  have kin : K.In (hidT s.heap H) := fun b o e => hidT_get (written b o e) (by
    cases q : H b with
    | none => rfl
    | some u =>
      obtain ⟨rfl, no, _⟩ := known b u q
      rw [no] at e
      cases e)
  have mod : Mod K mg (hidT s.heap H) := ⟨kin, dicts names, ⟨mb, dicts blt, bltIs⟩, let ⟨mc, h1, h2⟩ := free; ⟨mc, dicts h1, h2⟩⟩
  have env : Env0 P w K mg (hidT s.heap H) callerA [] s H := ⟨rfl, mod, fun b o e => of_hidT e, Nat.le_of_eq (hidT_size _ _), trivial, fun b hb => (List.not_mem_nil (show b ∈ ([] : List Addr) from hb)).elim, hok, .of_eq noGens⟩
  refine codeAny_mono ((F _ kin (dicts names)).run callerA rfl [] s H ⟨[.ref a], []⟩ [.ref a] [.ref a] _ _ room env (bind s (.ref a)) (.cons rfl .nil) (want H only sq)) fun r s' h => ?_
  match r, h with
  | .error e, h => exact (quiet H e s' h).elim
  | .ok (.ret u), h =>
    obtain ⟨v, H', os, bare, un, hok', r', q⟩ := h
    obtain rfl : v = .bl true := q
    obtain rfl : u = Value.bool true := r'
    refine ⟨rfl, OldK.of_keep fun b o e => ?_, os, bare⟩
    cases q : H b with
    | none => exact un.keep b o e q (fun z => nomatch z) (by simp)
    | some u =>
      obtain ⟨rfl, _, rfl⟩ := known b u q
      have e2 := (hok' _ _ (un.frzs _ _ _ q)).1
      rw [script] at e
      rw [← Option.some.inj e]
      exact e2
end
theorem walk_ofG {l : PySem.W.OpenLaw} {n k : Nat} {q : Program} {loose : List Str} {XP : (Str → Option Value) → Heap → Prop} {YP : World → Heap → Prop} {d : DefRec} {K : Params → PySem.W.Frag} {CX : World → CXT} {sp : World → Sp} {x : Str}
    (most : l.most = some n) (line : n ≤ sizeLine) (plain : d.params.defaults = []) (room : Room k callerA) (top : ∀ (w : World) (h : Heap), YP w h → (K w.params).In h)
    (F : ∀ (w : World) (mg : Str → Option Value) (fa : Addr) (h : Heap), (K w.params).In h → h.Ns mainGlobals mg → mg d.name = some (.ref fa) →
      ∃ fd : FuncData, (∀ (s : Shared) (u : Value), BindsTo s fd ⟨[u], []⟩ [(x, u)]) ∧ ∀ base : Heap, (K w.params).In base → base.Ns mainGlobals mg → FnOkG l.prog w (K w.params) mg base (CX w) k fa fd [x] (sp w))
    (want : ∀ (w : World) (H : Hp) (a : Addr) (ns : List Int), ns.length ≤ n → Only H → SqL (K w.params) H a (ns.map V.int) → sp w [.ref a] H (fun v _ => v = .bl true) fun _ _ _ => False)
    (quiet : ∀ (w : World) (H : Hp) (s : Shared) (e : Value) (s' : Shared), CX w [] H s (fun _ _ _ => False) e s' → False) : PySem.W.WalkO q loose XP YP l.row.toRowW d [] (fun f vs => PySem.call f vs) :=
  Att.attach_call most plain fun w s₀ s₁ mg mb fa o pm cd doc a vs ns G Y _ _ _ hmg hobj hints hlen hgen => by
    obtain ⟨fd, bind, hF⟩ := F w mg fa _ (top w _ Y) G.T.g hmg
    exact law_callG (top w _ Y) G.T.g G.T.b G.T.builtins G.T.nolimit hgen hobj hints (Nat.le_trans hlen line) room hF bind (fun H only sq => want w H a ns hlen only sq) fun H e s' => quiet w H s₁ e s'
end MyR

set_option pp.maxSteps 400
set_option Elab.async false
set_option linter.all false
set_option maxRecDepth 100000
set_option maxHeartbeats 1000000
namespace MyR
open PySem PySem.Spec PyProof.Rows L2
/-! ### D.get(e, f), D a dict of the program's own -/
def tKGet (K : PySem.W.Frag) (d : Addr) (td ty tx : TE) : TE := fun σ H Q => td σ H fun x H1 => x = .ref d ∧ ty σ H1 fun y H2 => tx σ H2 fun z H3 => ∃ (w : Str) (r : Option Value), y = .str w ∧ PySem.W.nsIn K d w = some r ∧
  (r = none → Q z H3) ∧ ∀ u, r = some u → ∃ v, RelV v u ∧ Q v H3
section
variable {X : Cx} {o e f : Expr} {apos cpos : Pos} {td ty tx : TE} {d : Addr} {es : Array DictEntry} {n : Nat}
theorem pe_kget (D : KDict X.K X.w d es n) (ho : PE X o td) (he : PE X e ty) (hf : PE X f tx) (m : M2 X o "get" apos e f cpos) : PE X (.Call (.Attribute o "get" apos) [e, f] [] cpos) (tKGet X.K d td ty tx) := by
  refine ⟨fun pins s σ H Q I h => ?_⟩
  refine wpAny_Call_method m.base m.few m.line PySem.F.plainAttrs_dict PySem.F.slot_dict_get PySem.F.type_dict_get (thn (ho.run pins s σ H _ I h) fun u s1 ⟨x, H1, I1, rx, ex, q1⟩ => ?_)
  subst ex
  obtain rfl : u = Value.ref d := rx
  refine ⟨kd_type D I1, fun b q => ?_, ?_⟩
  · cases q
    exact ⟨_, I1.kIn _ _ D.at_, rfl⟩
  rw [m.trees]
  refine Calls.callWith_builtin rfl (Calls.evalArgs_plain (Calls.spliced_cons (thn (he.run pins s1 σ H1 _ I1 q1) fun iv s2 ⟨y, H2, I2, ry, q2⟩ =>
    Calls.spliced_cons (thn (hf.run pins s2 σ H2 _ I2 q2) fun fv s3 ⟨z, H3, I3, rz, w, r, ey, en, h0, h1⟩ => Calls.spliced_nil ?_))))
  subst ey
  obtain ⟨t, rfl⟩ := ry
  have mp := PySem.W.mapOf_K (prog := X.prog) (w := X.w) I3.kIn D.at_ D.lit
  refine call_meetsIn PySem.F.slot_dict_get mp.typeIs PySem.F.entry_dict_get (PySem.F.args_dict_get_3 _ _ _) (meets_dict_get_default (PySem.strKind X.prog X.w) d (PySem.strKind_is X.prog X.w w t) D.low fv) ⟨_, mp, ?_⟩
  rw [PySem.W.find_K D.at_ en]
  cases r with
  | none => exact ⟨z, H3, I3.tok _, rz, h0 rfl⟩
  | some u =>
    obtain ⟨v, rv, q⟩ := h1 u rfl
    exact ⟨v, H3, I3.tok _, rv, q⟩
end
end MyR

set_option pp.maxSteps 400
set_option Elab.async false
set_option linter.all false
set_option maxRecDepth 100000
set_option maxHeartbeats 1000000
namespace MyR
open PySem PySem.Spec PyProof.Rows L2
/-! ### zip(text, list) -/
theorem plain_isL {h : Heap} {a : Addr} {its : Array Value} (x : PlainL h a its) : h.IsList a its := by
  obtain ⟨o, n, e, c, _, d⟩ := x
  exact ⟨o, e, c, n, d⟩
def IzSL (K : PySem.W.Frag) (z : Str) (b : Addr) : It where
  go i H := ∃ (ys : List V) (y : V), SqL K H b ys ∧ i < z.cps.size ∧ ys[i]? = some y
  yld i H v H' := ∃ T c y, v = .ref T ∧ H T = none ∧ H' = upd H T (.tup [.str ⟨#[c]⟩, y]) ∧ z.cps[i]? = some c ∧ ∀ ys, SqL K H b ys → ys[i]? = some y
  stop i H := ∃ ys : List V, SqL K H b ys ∧ i = min z.cps.size ys.length
/-- the five cells of a zip over the text x and the tuple at b, i pairs taken -/
def ZipSL (x : Str) (t : Tok) (b z TI TO i1 i2 : Addr) (i : Nat) (h : Heap) : Prop := IsZip h z TI TO .none ∧ IsTupOf2 h TI (.ref i1) (.ref i2) ∧ (∃ a1 a2, IsTupOf2 h TO a1 a2) ∧ h.IsStrIter i1 (strIterType x) x t i ∧ h.IsListIter i2 b i
theorem turn_zipSL {P : Program} {w : World} {K : PySem.W.Frag} {elts : List Expr} {kk : Nat} {tpos : Pos} {b z TI TO i1 i2 : Addr} {x : Str} {t : Tok} (S : ZipSep2 z TI TO i1 i2 [i1] [i2, b]) (hb : b ≠ i2) :
    Turn P w K (.Tuple elts kk tpos) (IzSL K x b) [z, TO, i1, i2, TI] z (ZipSL x t b z TI TO i1 i2) := by
  have W : ∀ (A : Around), A.handled = none → ∀ items : Array Value, _ := fun A hh items =>
    WalksT.zipD2 (prog := P) (w := w) (A := A) S (Draws.text (A := A.in1) hh i1 x t) (Draws.list (A := A.in1) hh i2 b hb items)
  have sub : ∀ c ∈ [z, TO, i1, i2], c ∈ [z, TO, i1, i2, TI] := fun c hc => List.mem_append_left [TI] hc
  have down : ∀ {items : Array Value} (j : Nat) (g : Heap), (IsZip g z TI TO .none ∧ IsTupOf2 g TI (.ref i1) (.ref i2) ∧ (∃ a1 a2, IsTupOf2 g TO a1 a2) ∧ g.IsStrIter i1 (strIterType x) x t j ∧ g.IsListIter i2 b j ∧ g.IsList b items) → ZipSL x t b z TI TO i1 i2 j g := fun j g st => ⟨st.1, st.2.1, st.2.2.1, st.2.2.2.1, st.2.2.2.2.1⟩
  refine turn_pairs (List.mem_cons_self ..) (fun i h st c hc => ?_) (fun i g g' st k => ?_) (fun A i s Q E st q => wpAny_pyIter_zip st.1 q) (fun X pins s σ H i eP ew eK hh inv st go => ?_) (fun X pins s σ H i eP ew eK hh inv st stop => ?_)
  · obtain ⟨s1, s2, ⟨u1, u2, s3⟩, ⟨o1, p1, _, d1⟩, ⟨o2, p2, _, d2⟩⟩ := st
    simp only [List.mem_cons, List.not_mem_nil, or_false] at hc
    rcases hc with rfl | rfl | rfl | rfl | rfl
    · exact ⟨_, s1, fun v q => nomatch q⟩
    · exact ⟨_, s3, fun v q => nomatch q⟩
    · exact ⟨o1, p1, fun v q => by rw [d1] at q; cases q⟩
    · exact ⟨o2, p2, fun v q => by rw [d2] at q; cases q⟩
    · exact ⟨_, s2, fun v q => nomatch q⟩
  · obtain ⟨s1, s2, ⟨u1, u2, s3⟩, ⟨o1, p1, r1⟩, s5⟩ := st
    have kk : ∀ c, c ∈ [z, TO, i1, i2, TI] → ∀ o, g.get? c = some o → g'.get? c = some o := k
    simp only [List.mem_cons, List.not_mem_nil, or_false, forall_eq_or_imp, forall_eq] at kk
    obtain ⟨k1, k2, k3, k4, k5⟩ := kk
    exact ⟨k1 _ s1, k5 _ s2, ⟨u1, u2, k2 _ s3⟩, ⟨o1, k3 _ p1, r1⟩, s5.at fun o q => k4 o q⟩
  · obtain ⟨ys, y, hq, hx, hy⟩ := go
    subst eK
    obtain ⟨its, rv, tup0, _⟩ := inv.list hq
    have tup := plain_isL tup0
    obtain ⟨u, hu, ru⟩ := rv.get hy
    have hu' : its.toArray[i]? = some u := by simpa using hu
    have hin : i < its.toArray.size := (Array.getElem?_eq_some_iff.mp hu').1
    have hc : x.cps[i]? = some x.cps[i] := Array.getElem?_eq_getElem hx
    refine ⟨.str ⟨#[x.cps[i]]⟩, y, ⟨_, _, _, _, _, _, W X.A hh its.toArray, sub, ⟨st.1, st.2.1, st.2.2.1, st.2.2.2.1, st.2.2.2.2, tup⟩, fun j g q => down j g q, fun _ => ⟨by omega, fun vals hP => ?_⟩, fun f => absurd trivial f⟩, fun T hT => ⟨T, x.cps[i], y, rfl, hT, rfl, hc, fun l hl => by rw [inv.list_inj hl hq]; exact hy⟩⟩
    obtain ⟨x1, x2, ⟨c, tc, e1, rfl⟩, e2, rfl⟩ := hP
    rw [hc] at e1
    have e2 : its.toArray[i]? = some x2 := e2
    rw [hu'] at e2
    refine ⟨_, x2, rfl, ⟨tc, by rw [Option.some.inj e1]⟩, by rw [← Option.some.inj e2]; exact ru⟩
  · obtain ⟨ys, hq, hi⟩ := stop
    subst eK
    obtain ⟨its, rv, tup0, _⟩ := inv.list hq
    have tup := plain_isL tup0
    have hl := rv.length
    exact ⟨_, _, _, _, _, _, W X.A hh its.toArray, sub, ⟨st.1, st.2.1, st.2.2.1, st.2.2.2.1, st.2.2.2.2, tup⟩, fun j g q => down j g q, fun f => f.elim, fun _ => (show i = min x.cps.size its.toArray.size from by
      have e : its.toArray.size = ys.length := by simpa using hl.symm
      rw [e]
      exact hi)⟩
def iZipSL (K : PySem.W.Frag) (ta : TA) : TI := fun σ H R => ta σ H fun vs H1 => ∃ z b ys, vs = [.str z, .ref b] ∧ SqL K H1 b ys ∧ R (IzSL K z b) H1
theorem pi_zipSL {X : Cx} {e e2 : Expr} {ta : TA} {p pos tpos : Pos} {elts : List Expr} {kk : Nat} (hg : Gl X "zip") (hm : X.mg "zip" = none) (ha : PA X [e, e2] ta)
    (s1 : starEach [e, e2] X.env = (false, eval e X.env) :: starEach [e2] X.env := by rfl) (s2 : (backTo pos (starEach [e2] X.env)).any (·.1) = false := by rfl) : PI X (.Tuple elts kk tpos) (.Call (.Name "zip" p) [e, e2] [] pos) (iZipSL X.K ta) where
  run pins s σ H R inv h := by
    refine Call_ (ld_blt inv hg hm PyProof.Rows.boot_zip (PyProof.Rows.callWith_type1 (thn (ha.run pos pins s σ H _ inv h) fun us s1 after => ?_) s1 s2))
    obtain ⟨vs, H1, inv1, rel, z, b, ys, rfl, hq, q⟩ := after
    obtain ⟨n, hn⟩ : ∃ n, n = s1.heap.objs.size := ⟨_, rfl⟩
    match us, rel with
    | [_, _], .cons r1 (.cons r2 .nil) =>
      obtain ⟨t, rfl⟩ := r1
      cases r2
      obtain ⟨its, _, tup0, _⟩ := inv1.list hq
      have tup := plain_isL tup0
      have lb : b < s1.heap.objs.size := by obtain ⟨ob, hob, _⟩ := id tup; exact Heap.lt_size hob
      refine zip_begins2 (begins_text z t) (begins_list b its.toArray) trivial tup fun g c1 c2 c3 c4 c5 _ k => wpAny_pyIter_zip c1 ?_
      have S : ZipSep2 (s1.heap.objs.size + 4) (s1.heap.objs.size + 2) (s1.heap.objs.size + 3) s1.heap.objs.size (s1.heap.objs.size + 1) [s1.heap.objs.size] [s1.heap.objs.size + 1, b] :=
        zip_sep2 (fp1 := []) (fp2 := [b]) (fun c hc => by cases hc) (fun c hc => by rw [List.mem_singleton.mp hc]; exact lb)
      refine ⟨_, [s1.heap.objs.size + 4, s1.heap.objs.size + 3, s1.heap.objs.size, s1.heap.objs.size + 1, s1.heap.objs.size + 2], ZipSL z t b _ _ _ _ _, IzSL X.K z b, H1, rfl, inv1.kept (t' := s1.toks) k, turn_zipSL S (Nat.ne_of_lt (Nat.lt_succ_of_lt lb)), ⟨c1, c2, ⟨_, _, c3⟩, ⟨_, c4, rfl, rfl⟩, ⟨_, c5, rfl, rfl⟩⟩, fun c hc => ?_, q⟩
      have up : s1.heap.objs.size ≤ c := by
        simp only [List.mem_cons, List.not_mem_nil, or_false] at hc
        rcases hc with rfl | rfl | rfl | rfl | rfl <;> first | exact Nat.le_refl _ | exact Nat.le_add_right _ _
      exact inv1.fpOk up (inv1.hok.fresh up)
theorem walk_zipSL {K : PySem.W.Frag} {z : Str} {b : Addr} {ys : List V} (hl : z.cps.size = ys.length) : Walk (IzSL K z b) ys.length (fun H => SqL K H b ys) (YPair (fun i => (z.cps[i]?).map fun c => V.str ⟨#[c]⟩) (fun i => ys[i]?)) where
  goes i H hi q := ⟨ys, ys[i], q, by omega, List.getElem?_eq_getElem hi⟩
  stops H q := ⟨ys, q, by omega⟩
  yields i H v H' _ q y := let ⟨T, c, y, h1, h2, h3, h4, h5⟩ := y; ⟨T, .str ⟨#[c]⟩, y, h1, h2, h3, by show Option.map _ z.cps[i]? = _; rw [h4]; rfl, h5 ys q⟩
end MyR

set_option Elab.async false
set_option linter.all false
set_option maxRecDepth 100000
set_option maxHeartbeats 1000000
namespace My
open PySem L2 MyR
structure Df (P : Program) (w : World) (K : PySem.W.Frag) (mg : Str → Option Value) (base : Heap) (k : Nat) (x : Str) (ps : List Str) (sp : Sp) where
  f : Addr
  fd : FuncData
  ok : FnOk P w K mg base CX0 k f fd ps sp
  g : mg x = some (.ref f)
  kp : PySem.W.keepIn K (.ref f) = true
  b : Binds K fd ps []
theorem Deal.new {H : Hp} {d l p : Addr} {o : HO} (D : Deal H d l) (h : H p = none) : Deal (upd H p o) d l := by
  obtain ⟨s, n, ns, hd, hl, r⟩ := D.ex
  exact ⟨⟨s, n, ns, by rw [upd_ne (ne_of_none hd h)]; exact hd, by rw [upd_ne (ne_of_none hl h)]; exact hl, r⟩⟩
theorem Deal.other {H : Hp} {d l p : Addr} {o : HO} (D : Deal H d l) (h1 : p ≠ d) (h2 : p ≠ l) : Deal (upd H p o) d l := by
  obtain ⟨s, n, ns, hd, hl, r⟩ := D.ex
  exact ⟨⟨s, n, ns, by rw [upd_ne (Ne.symm h1)]; exact hd, by rw [upd_ne (Ne.symm h2)]; exact hl, r⟩⟩
theorem Deal.free {H : Hp} {d l p : Addr} (D : Deal H d l) (h : H p = none) : p ≠ d ∧ p ≠ l := by
  obtain ⟨s, n, ns, hd, hl, r⟩ := D.ex
  exact ⟨Ne.symm (ne_of_none hd h), Ne.symm (ne_of_none hl h)⟩
theorem Deal.same {H H' : Hp} {d l : Addr} (D : Deal H d l) (s : Same H H') : Deal H' d l := by
  obtain ⟨z, n, ns, hd, hl, r⟩ := D.ex
  exact ⟨z, n, ns, s _ _ hd, s _ _ hl, r⟩
theorem Deal.nt {H : Hp} {d l p : Addr} {xs : List V} (D : Deal H d l) (h : H p = some (.tup xs)) : p ≠ d ∧ p ≠ l := by
  obtain ⟨z, n, ns, hd, hl, r⟩ := D.ex
  exact ⟨ne_of h hd (by intro z; cases z), ne_of h hl (by intro z; cases z)⟩
theorem Deal.ni {H : Hp} {d l p C dx : Addr} {fs : List (Str × V)} (D : Deal H d l) (h : H p = some (.ins C dx fs)) : p ≠ d ∧ p ≠ l := by
  obtain ⟨z, n, ns, hd, hl, r⟩ := D.ex
  exact ⟨ne_of h hd (by intro z; cases z), ne_of h hl (by intro z; cases z)⟩
theorem Kept.new {d l p : Addr} {H H1 : Hp} {o : HO} (a : Kept d l H H1) (h : H p = none) : Kept d l H (upd H1 p o) := fun c u e h1 h2 => by rw [upd_ne (ne_of_none e h)]; exact a c u e h1 h2
theorem Kept.of {d l : Addr} {H H' : Hp} (s : Same H H') : Kept d l H H' := fun b o e _ _ => s b o e
theorem Kept.free {d l p : Addr} {H H1 : Hp} (k : Kept d l H H1) (D : Deal H1 d l) (h : H1 p = none) : H p = none := by
  obtain ⟨n1, n2⟩ := D.free h
  cases e : H p with
  | none => rfl
  | some o => rw [k p o e n1 n2] at h; cases h
theorem new_same {H : Hp} {p : Addr} {o : HO} (h : H p = none) : Same H (upd H p o) := fun b q e => by rw [upd_ne (ne_of_none e h)]; exact e
theorem Same.tr {H H1 H2 : Hp} (a : Same H H1) (b : Same H1 H2) : Same H H2 := fun c o e => b c o (a c o e)
theorem same_free {H H1 : Hp} {p : Addr} (s : Same H H1) (h : H1 p = none) : H p = none := by
  cases e : H p with
  | none => rfl
  | some o => rw [s p o e] at h; cases h

/-! ### rows of code -/
structure Rw where
  w : Str
  xs : List Int
def Rw.vs (r : Rw) : List V := .str r.w :: r.xs.map V.int
def forms : List (Str × Str) := [("set", "WI"), ("copy", "WR"), ("add", "WRR"), ("sub", "WRR"), ("mul", "WRR"), ("left", "WR"), ("right", "WR"), ("load", "WS"), ("store", "SR"), ("skip", "RMCN")]
def mods : List Int := [1, 2, 4, 8, 16, 32, 64]
/-- a number that may stand behind a letter -/
def itOk (c : Nat) (z : Int) : Prop :=
  (c = 73 ∧ -18446744073709551616 < z ∧ z < 18446744073709551616) ∨ ((c = 87 ∨ c = 82) ∧ 0 ≤ z ∧ z ≤ 7) ∨ (c = 83 ∧ 0 ≤ z ∧ z ≤ 999) ∨ (c = 77 ∧ z ∈ mods) ∨ ((c = 67 ∨ c = 78) ∧ 0 ≤ z ∧ z ≤ 1000)
/-- a row that may stand -/
def Rw.ok (r : Rw) : Prop := (∃ f, (r.w, f) ∈ forms ∧ r.xs.length = f.cps.size ∧ ∀ (i c : Nat) (z : Int), f.cps[i]? = some c → r.xs[i]? = some z → itOk c z) ∧
  (r.w = ("skip" : Str) → ∃ a m c n : Int, r.xs = [a, m, c, n] ∧ c < m)
/-- it skips no rows that are not there: left rows stand behind it -/
def Rw.fits (r : Rw) (left : Int) : Prop := r.w = ("skip" : Str) → ∃ a m c n : Int, r.xs = [a, m, c, n] ∧ n ≤ left
def RowAt (H : Hp) (r : Rw) (p : Addr) : Prop := H p = some (.tup r.vs)
theorem RowAt.same {H H' : Hp} {r : Rw} {p : Addr} (h : RowAt H r p) (s : Same H H') : RowAt H' r p := s _ _ h
theorem RowAt.kept {H H' : Hp} {r : Rw} {p d l : Addr} (h : RowAt H r p) (D : Deal H d l) (k : Kept d l H H') : RowAt H' r p := k _ _ h (D.nt h).1 (D.nt h).2
/-- the tables of the program -/
structure Tabs (w : World) (K : PySem.W.Frag) (mg : Str → Option Value) : Prop where
  limit : ∃ t, mg "LIMIT" = some (.int 18446744073709551616 t)
  rows : ∃ t, mg "MOST_ROWS" = some (.int 1000 t)
  regs : ∃ t, mg "MOST_REGISTERS" = some (.int 8 t)
  slots : ∃ t, mg "SLOTS" = some (.int 1000 t)
  moduli : ∃ a, mg "MODULI" = some (.ref a) ∧ ∀ H, SqT K H a (mods.map V.int)
  forms : ∃ a, mg "FORMS" = some (.ref a) ∧ (∃ es n, KDict K w a es n) ∧ ∀ x f, (x, f) ∈ forms → KDct K w a x (.str f)
def sg (c : Nat) : Str := ⟨#[c]⟩
theorem sg_inj {a b : Nat} : sg a = sg b ↔ a = b := by
  constructor
  · intro h
    have h1 : (sg a).cps = (sg b).cps := congrArg Str.cps h
    have h2 : (#[a] : Array Nat) = #[b] := h1
    simpa using h2
  · intro h; rw [h]
theorem sg_eq (c b : Nat) (x : Str) (hx : x = sg b) : decide (V.str (sg c) = V.str x) = decide (c = b) := by
  subst hx
  refine decide_eq_decide.mpr ⟨fun h => ?_, fun h => by rw [h]⟩
  exact sg_inj.mp (V.str.inj h)
theorem sg_I : ("I" : Str) = sg 73 := by decide +kernel
theorem sg_S : ("S" : Str) = sg 83 := by decide +kernel
theorem sg_M : ("M" : Str) = sg 77 := by decide +kernel
theorem wr_cps : ("WR" : Str).cps.toList = [87, 82] := by decide +kernel

theorem in_mods {z : Int} (h : z ∈ mods) : inV (.int z) (mods.map V.int) = true := by
  unfold inV
  rw [List.any_map]
  exact List.any_eq_true.mpr ⟨z, h, by show (z == z) = true; exact beq_self_eq_true z⟩
theorem mods_bound : ∀ z ∈ mods, (1 : Int) ≤ z ∧ z ≤ 64 := by decide
theorem mods_flat : (mods.map V.int).all flatV = true := by decide
/-! ### rows in the heap -/
structure RowsAt (H : Hp) (rs : List Rw) (as : List Addr) : Prop where
  len : as.length = rs.length
  at_ : ∀ (i : Nat) r, rs[i]? = some r → ∃ p, as[i]? = some p ∧ RowAt H r p
theorem RowsAt.nil {H : Hp} : RowsAt H [] [] := ⟨rfl, fun i r h => by simp at h⟩
theorem RowsAt.same {H H' : Hp} {rs : List Rw} {as : List Addr} (h : RowsAt H rs as) (s : Same H H') : RowsAt H' rs as := ⟨h.len, fun i r e => let ⟨p, e1, e2⟩ := h.at_ i r e; ⟨p, e1, e2.same s⟩⟩
theorem RowsAt.kept {H H' : Hp} {rs : List Rw} {as : List Addr} {d l : Addr} (h : RowsAt H rs as) (D : Deal H d l) (k : Kept d l H H') : RowsAt H' rs as := ⟨h.len, fun i r e => let ⟨p, e1, e2⟩ := h.at_ i r e; ⟨p, e1, e2.kept D k⟩⟩
theorem RowsAt.upd {H : Hp} {rs : List Rw} {as : List Addr} {D : Addr} {xs : List V} {o : HO} (h : RowsAt H rs as) (hD : H D = some (.lst xs)) : RowsAt (upd H D o) rs as :=
  ⟨h.len, fun i r e => let ⟨p, e1, e2⟩ := h.at_ i r e; ⟨p, e1, by unfold RowAt; rw [upd_ne (ne_of e2 hD (by intro z; cases z))]; exact e2⟩⟩
theorem RowsAt.updN {H : Hp} {rs : List Rw} {as : List Addr} {D : Addr} {o : HO} (h : RowsAt H rs as) (hD : H D = none) : RowsAt (L2.upd H D o) rs as := h.same (new_same hD)
theorem RowsAt.snoc {H : Hp} {rs : List Rw} {as : List Addr} {r : Rw} {p : Addr} (h : RowsAt H rs as) (hp : RowAt H r p) : RowsAt H (rs ++ [r]) (as ++ [p]) := by
  refine ⟨by rw [List.length_append, List.length_append, h.len]; rfl, fun i r' e => ?_⟩
  by_cases hi : i < rs.length
  · rw [List.getElem?_append_left hi] at e
    obtain ⟨q, e1, e2⟩ := h.at_ i r' e
    exact ⟨q, by rw [List.getElem?_append_left (by rw [h.len]; exact hi)]; exact e1, e2⟩
  · rw [List.getElem?_append_right (by omega)] at e
    have h0 : i - rs.length = 0 := by
      by_cases h1 : i - rs.length = 0
      · exact h1
      · rw [List.getElem?_eq_none (by simp only [List.length_cons, List.length_nil]; omega)] at e
        cases e
    rw [h0] at e
    have e' : r = r' := Option.some.inj e
    refine ⟨p, ?_, by rw [← e']; exact hp⟩
    rw [List.getElem?_append_right (by rw [h.len]; omega), h.len, h0]
    rfl
def refs (as : List Addr) : List V := as.map V.ref
theorem refs_len (as : List Addr) : (refs as).length = as.length := List.length_map ..
theorem refs_at {as : List Addr} {i : Nat} {p : Addr} (h : as[i]? = some p) : (refs as)[i]? = some (.ref p) := by unfold refs; rw [List.getElem?_map, h]; rfl
def LstAt (H : Hp) (rs : List Rw) (a : Addr) : Prop := ∃ as : List Addr, H a = some (.lst (refs as)) ∧ RowsAt H rs as
theorem cut_front (a b : List V) (k : Nat) (hk : a.length = k) : cutV (a ++ b) none (some (k : Int)) = a := by
  unfold cutV
  rw [HT.sIx_nat]
  show ((a ++ b).drop 0).take (min k (a ++ b).length - 0) = a
  rw [List.drop_zero, List.length_append, Nat.sub_zero, show min k (a.length + b.length) = a.length by omega, List.take_left]
theorem not_whole_front (a b : List V) (k : Nat) (hk : a.length = k) (hb : b ≠ []) : ¬ (HT.sIx (a ++ b).length 0 none = 0 ∧ HT.sIx (a ++ b).length (a ++ b).length (some (k : Int)) = (a ++ b).length) := by
  rintro ⟨_, h⟩
  rw [HT.sIx_nat, List.length_append] at h
  have : 0 < b.length := List.length_pos_iff.mpr hb
  omega

/-! ### items and rows of any kind -/
inductive It
  | int (z : Int)
  | bl (b : Bool)
  | non
  | str (s : Str)
  | emp
inductive Rv
  | it (i : It)
  | tup (xs : List It)
  | lst (xs : List It)
inductive All2 {α β : Type} (R : α → β → Prop) : List α → List β → Prop
  | nil : All2 R [] []
  | cons {a : α} {b : β} {as : List α} {bs : List β} : R a b → All2 R as bs → All2 R (a :: as) (b :: bs)
namespace All2
variable {α β : Type} {R S : α → β → Prop}
theorem len : ∀ {as : List α} {bs : List β}, All2 R as bs → as.length = bs.length
  | _, _, .nil => rfl
  | _, _, .cons _ h => by rw [List.length_cons, List.length_cons, h.len]
theorem mono (f : ∀ a b, R a b → S a b) : ∀ {as : List α} {bs : List β}, All2 R as bs → All2 S as bs
  | _, _, .nil => .nil
  | _, _, .cons h t => .cons (f _ _ h) (t.mono f)
theorem app : ∀ {as : List α} {bs : List β} {cs : List α} {ds : List β}, All2 R as bs → All2 R cs ds → All2 R (as ++ cs) (bs ++ ds)
  | _, _, _, _, .nil, h => h
  | _, _, _, _, .cons x t, h => .cons x (t.app h)
theorem take : ∀ {as : List α} {bs : List β} (n : Nat), All2 R as bs → All2 R (as.take n) (bs.take n)
  | _, _, 0, _ => by rw [List.take_zero, List.take_zero]; exact .nil
  | _, _, _ + 1, .nil => .nil
  | _, _, n + 1, .cons x t => .cons x (t.take n)
theorem drop : ∀ {as : List α} {bs : List β} (n : Nat), All2 R as bs → All2 R (as.drop n) (bs.drop n)
  | _, _, 0, h => h
  | _, _, _ + 1, .nil => .nil
  | _, _, n + 1, .cons _ t => t.drop n
theorem get : ∀ {as : List α} {bs : List β} {i : Nat} {b : β}, All2 R as bs → bs[i]? = some b → ∃ a, as[i]? = some a ∧ R a b
  | _, _, _, _, .nil, h => by simp at h
  | _, _, 0, _, .cons x _, h => by
    obtain rfl := Option.some.inj h
    exact ⟨_, rfl, x⟩
  | _, _, i + 1, _, .cons _ t, h => t.get (i := i) h
theorem getL : ∀ {as : List α} {bs : List β} {i : Nat} {a : α}, All2 R as bs → as[i]? = some a → ∃ b, bs[i]? = some b ∧ R a b
  | _, _, _, _, .nil, h => by simp at h
  | _, _, 0, _, .cons x _, h => by
    obtain rfl := Option.some.inj h
    exact ⟨_, rfl, x⟩
  | _, _, i + 1, _, .cons _ t, h => t.getL (i := i) h
theorem set : ∀ {as : List α} {bs : List β} {a : α} {b : β} (i : Nat), All2 R as bs → R a b → All2 R (as.set i a) (bs.set i b)
  | _, _, _, _, _, .nil, _ => .nil
  | _, _, _, _, 0, .cons _ t, h => .cons h t
  | _, _, _, _, i + 1, .cons x t, h => .cons x (t.set i h)
theorem rev : ∀ {as : List α} {bs : List β}, All2 R as bs → All2 R as.reverse bs.reverse
  | _, _, .nil => .nil
  | _, _, .cons x t => by
    rw [List.reverse_cons, List.reverse_cons]
    exact t.rev.app (.cons x .nil)
end All2
def ItAt (H : Hp) (v : V) : It → Prop
  | .int z => v = .int z
  | .bl b => v = .bl b
  | .non => v = .non
  | .str s => v = .str s ∧ PyData.strOk s = true
  | .emp => ∃ p, v = .ref p ∧ H p = some (.tup [])
/-- d, l: what a draw may change -/
def RvAt (d l : Addr) (H : Hp) (v : V) : Rv → Prop
  | .it i => ItAt H v i
  | .tup xs => ∃ p vs, v = .ref p ∧ H p = some (.tup vs) ∧ All2 (ItAt H) vs xs
  | .lst xs => ∃ p vs, v = .ref p ∧ p ≠ d ∧ p ≠ l ∧ H p = some (.lst vs) ∧ All2 (ItAt H) vs xs
theorem ItAt.same {H H' : Hp} {v : V} {i : It} (s : Same H H') (h : ItAt H v i) : ItAt H' v i := by
  cases i with
  | emp => obtain ⟨p, e, q⟩ := h; exact ⟨p, e, s _ _ q⟩
  | int z => exact h
  | bl b => exact h
  | non => exact h
  | str z => exact h
theorem RvAt.same {d l : Addr} {H H' : Hp} {v : V} {r : Rv} (s : Same H H') (h : RvAt d l H v r) : RvAt d l H' v r := by
  cases r with
  | it i => exact ItAt.same s h
  | tup xs => obtain ⟨p, vs, e, q, a⟩ := h; exact ⟨p, vs, e, s _ _ q, a.mono fun _ _ => ItAt.same s⟩
  | lst xs => obtain ⟨p, vs, e, n1, n2, q, a⟩ := h; exact ⟨p, vs, e, n1, n2, s _ _ q, a.mono fun _ _ => ItAt.same s⟩
theorem ItAt.kept {d l : Addr} {H H' : Hp} {v : V} {i : It} (D : Deal H d l) (s : Kept d l H H') (h : ItAt H v i) : ItAt H' v i := by
  cases i with
  | emp => obtain ⟨p, e, q⟩ := h; exact ⟨p, e, s _ _ q (D.nt q).1 (D.nt q).2⟩
  | int z => exact h
  | bl b => exact h
  | non => exact h
  | str z => exact h
theorem RvAt.kept {d l : Addr} {H H' : Hp} {v : V} {r : Rv} (D : Deal H d l) (s : Kept d l H H') (h : RvAt d l H v r) : RvAt d l H' v r := by
  cases r with
  | it i => exact ItAt.kept D s h
  | tup xs => obtain ⟨p, vs, e, q, a⟩ := h; exact ⟨p, vs, e, s _ _ q (D.nt q).1 (D.nt q).2, a.mono fun _ _ => ItAt.kept D s⟩
  | lst xs => obtain ⟨p, vs, e, n1, n2, q, a⟩ := h; exact ⟨p, vs, e, n1, n2, s _ _ q n1 n2, a.mono fun _ _ => ItAt.kept D s⟩
abbrev RvsAt (d l : Addr) (H : Hp) (vs : List V) (rs : List Rv) : Prop := All2 (RvAt d l H) vs rs
/-- a row of a word and numbers -/
def Rw.rv (r : Rw) : Rv := .tup (.str r.w :: r.xs.map .int)
theorem ints_at {H : Hp} : ∀ xs : List Int, All2 (ItAt H) (xs.map V.int) (xs.map It.int)
  | [] => .nil
  | _ :: xs => .cons rfl (ints_at xs)
theorem RowAt.rv {d l : Addr} {H : Hp} {r : Rw} {p : Addr} (hw : PyData.strOk r.w = true) (h : RowAt H r p) : RvAt d l H (.ref p) r.rv := ⟨p, r.vs, rfl, h, .cons ⟨rfl, hw⟩ (ints_at r.xs)⟩
/-! ### what is asked of rows -/
instance : DecidablePred (itOk c) := fun z => by unfold itOk; infer_instance
def itB (c : Nat) : It → Bool
  | .int z => decide (itOk c z)
  | _ => false
def formOf (w : Str) : Option Str := forms.lookup w
def lessB : List It → Bool
  | [_, .int m, .int c, _] => decide (c < m)
  | _ => false
def good : Rv → Bool
  | .tup (.str w :: xs) => match formOf w with
    | some f => decide (xs.length = f.cps.size) && (((List.range xs.length).all fun j => itB (f.cps.toList.getD j 0) (xs.getD j .non)) && (!(decide (w = ("skip" : Str))) || lessB xs))
    | none => false
  | _ => false
def over (r : Rv) (left : Int) : Bool := match r with
  | .tup [.str w, _, _, _, .int n] => decide (w = ("skip" : Str)) && decide (left < n)
  | _ => false
def dueG (n : Int) : Nat → List Rv → Option (Str × Int)
  | _, [] => none
  | i, r :: rs => if good r = true then (if over r (n - 1 - (i : Int)) = true then some ("skip", (i : Int)) else dueG n (i + 1) rs) else some ("row", (i : Int))
def due (rs : List Rv) : Option (Str × Int) := if 1000 < rs.length then some ("count", -1) else dueG (rs.length : Int) 0 rs
/-! the law's own words -/
def lforms : List (Str × Str) := [("set", "RN"), ("copy", "RR"), ("add", "RRR"), ("sub", "RRR"), ("mul", "RRR"), ("left", "RR"), ("right", "RR"), ("load", "RS"), ("store", "SR"), ("skip", "RMCK")]
def fitB (c : Nat) (x m : It) : Bool := match x with
  | .int z => if c = 82 then decide (0 ≤ z ∧ z ≤ 7) else if c = 78 then decide (-18446744073709551616 < z ∧ z < 18446744073709551616) else if c = 83 then decide (0 ≤ z ∧ z ≤ 999) else if c = 77 then decide (z ∈ mods)
    else if c = 67 then (match m with | .int k => decide (0 ≤ z ∧ z < k) | _ => false) else decide (0 ≤ z ∧ z ≤ 1000)
  | _ => false
def fits : Rv → Bool
  | .tup (.str w :: xs) => match lforms.lookup w with
    | some f => decide (xs.length = f.cps.size) && ((List.range xs.length).all fun j => fitB (f.cps.toList.getD j 0) (xs.getD j .non) (xs.getD 1 .non))
    | none => false
  | _ => false
theorem fit_W (x m : It) : fitB 82 x m = itB 87 x := by
  cases x <;> try rfl
  rename_i z
  show decide (0 ≤ z ∧ z ≤ 7) = decide (itOk 87 z)
  exact decide_eq_decide.mpr ⟨fun h => by unfold itOk; omega, fun h => by unfold itOk at h; omega⟩
theorem fit_R (x m : It) : fitB 82 x m = itB 82 x := by
  cases x <;> try rfl
  rename_i z
  show decide (0 ≤ z ∧ z ≤ 7) = decide (itOk 82 z)
  exact decide_eq_decide.mpr ⟨fun h => by unfold itOk; omega, fun h => by unfold itOk at h; omega⟩
theorem fit_I (x m : It) : fitB 78 x m = itB 73 x := by
  cases x <;> try rfl
  rename_i z
  show decide (-18446744073709551616 < z ∧ z < 18446744073709551616) = decide (itOk 73 z)
  exact decide_eq_decide.mpr ⟨fun h => by unfold itOk; omega, fun h => by unfold itOk at h; omega⟩
theorem fit_S (x m : It) : fitB 83 x m = itB 83 x := by
  cases x <;> try rfl
  rename_i z
  show decide (0 ≤ z ∧ z ≤ 999) = decide (itOk 83 z)
  exact decide_eq_decide.mpr ⟨fun h => by unfold itOk; omega, fun h => by unfold itOk at h; omega⟩
theorem fit_M (x m : It) : fitB 77 x m = itB 77 x := by
  cases x <;> try rfl
  rename_i z
  show decide (z ∈ mods) = decide (itOk 77 z)
  exact decide_eq_decide.mpr ⟨fun h => .inr (.inr (.inr (.inl ⟨rfl, h⟩))), fun h => by
    rcases h with h | h | h | h | h
    · omega
    · omega
    · omega
    · exact h.2
    · omega⟩
theorem fit_K (x m : It) : fitB 75 x m = itB 78 x := by
  cases x <;> try rfl
  rename_i z
  show decide (0 ≤ z ∧ z ≤ 1000) = decide (itOk 78 z)
  exact decide_eq_decide.mpr ⟨fun h => by unfold itOk; omega, fun h => by unfold itOk at h; omega⟩
theorem mod_of {k : Int} (h : itOk 77 k) : k ∈ mods := by
  rcases h with h | h | h | h | h
  · omega
  · omega
  · omega
  · exact h.2
  · omega
theorem fit_C (x m : It) (hm : itB 77 m = true) : fitB 67 x m = (itB 67 x && lessB [m, m, x, m]) := by
  cases x with
  | int z =>
    cases m with
    | int k =>
      have hb := mods_bound k (mod_of (of_decide_eq_true hm))
      show decide (0 ≤ z ∧ z < k) = (decide (itOk 67 z) && decide (z < k))
      rw [← Bool.decide_and]
      exact decide_eq_decide.mpr ⟨fun h => by unfold itOk; omega, fun h => by unfold itOk at h; omega⟩
    | _ => cases hm
  | _ => rfl
theorem forms_at {w f : Str} (h : forms.lookup w = some f) : (w, f) ∈ forms := by
  have : ∀ (l : List (Str × Str)), l.lookup w = some f → (w, f) ∈ l := by
    intro l
    induction l with
    | nil => intro h; cases h
    | cons p l ih =>
      intro h
      obtain ⟨a, b⟩ := p
      rw [List.lookup_cons] at h
      by_cases e : w == a
      · rw [e] at h
        obtain rfl := Option.some.inj h
        rw [beq_iff_eq.mp e]
        exact List.mem_cons_self
      · rw [Bool.eq_false_iff.mpr e] at h
        exact List.mem_cons_of_mem _ (ih h)
  exact this forms h
theorem lf_none {w : Str} (h : formOf w = none) : lforms.lookup w = none := by
  unfold formOf forms at h
  unfold lforms
  simp only [List.lookup_cons, List.lookup_nil] at h ⊢
  split at h <;> try cases h
  split at h <;> try cases h
  split at h <;> try cases h
  split at h <;> try cases h
  split at h <;> try cases h
  split at h <;> try cases h
  split at h <;> try cases h
  split at h <;> try cases h
  split at h <;> try cases h
  split at h <;> try cases h
  simp only [*]
end My

set_option Elab.async false
set_option linter.all false
set_option maxRecDepth 100000
set_option maxHeartbeats 1000000
namespace My
open PySem L2 MyR
theorem len2 {α : Type} {xs : List α} (h : xs.length = 2) : ∃ a b, xs = [a, b] := by
  match xs, h with
  | [a, b], _ => exact ⟨a, b, rfl⟩
theorem len3 {α : Type} {xs : List α} (h : xs.length = 3) : ∃ a b c, xs = [a, b, c] := by
  match xs, h with
  | [a, b, c], _ => exact ⟨a, b, c, rfl⟩
theorem len4 {α : Type} {xs : List α} (h : xs.length = 4) : ∃ a b c d, xs = [a, b, c, d] := by
  match xs, h with
  | [a, b, c, d], _ => exact ⟨a, b, c, d, rfl⟩
theorem gf2 {w f f' : Str} {c0 c1 d0 d1 : Nat} {xs : List It} (h1 : formOf w = some f) (h2 : lforms.lookup w = some f') (e : f.cps = #[c0, c1]) (e' : f'.cps = #[d0, d1]) (ns : w ≠ ("skip" : Str)) (q0 : ∀ x m, fitB d0 x m = itB c0 x) (q1 : ∀ x m, fitB d1 x m = itB c1 x) :
    good (.tup (.str w :: xs)) = fits (.tup (.str w :: xs)) := by
  unfold good fits
  simp only [h1, h2, e, e', decide_eq_false ns]
  by_cases hl : xs.length = 2
  · obtain ⟨a, b, rfl⟩ := len2 hl
    have r : List.range [a, b].length = [0, 1] := rfl
    rw [r]
    simp [q0, q1]
  · have : decide (xs.length = (#[c0, c1] : Array Nat).size) = false := decide_eq_false hl
    have t : decide (xs.length = (#[d0, d1] : Array Nat).size) = false := decide_eq_false hl
    rw [this, t]
    rfl
theorem gf3 {w f f' : Str} {c0 c1 c2 d0 d1 d2 : Nat} {xs : List It} (h1 : formOf w = some f) (h2 : lforms.lookup w = some f') (e : f.cps = #[c0, c1, c2]) (e' : f'.cps = #[d0, d1, d2]) (ns : w ≠ ("skip" : Str)) (q0 : ∀ x m, fitB d0 x m = itB c0 x) (q1 : ∀ x m, fitB d1 x m = itB c1 x) (q2 : ∀ x m, fitB d2 x m = itB c2 x) :
    good (.tup (.str w :: xs)) = fits (.tup (.str w :: xs)) := by
  unfold good fits
  simp only [h1, h2, e, e', decide_eq_false ns]
  by_cases hl : xs.length = 3
  · obtain ⟨a, b, c, rfl⟩ := len3 hl
    have r : List.range [a, b, c].length = [0, 1, 2] := rfl
    rw [r]
    simp [q0, q1, q2]
  · have : decide (xs.length = (#[c0, c1, c2] : Array Nat).size) = false := decide_eq_false hl
    have t : decide (xs.length = (#[d0, d1, d2] : Array Nat).size) = false := decide_eq_false hl
    rw [this, t]
    rfl
theorem gf4 {xs : List It} : good (.tup (.str "skip" :: xs)) = fits (.tup (.str "skip" :: xs)) := by
  have h1 : formOf ("skip" : Str) = some ("RMCN" : Str) := by decide +kernel
  have h2 : lforms.lookup ("skip" : Str) = some ("RMCK" : Str) := by decide +kernel
  have e : ("RMCN" : Str).cps = #[82, 77, 67, 78] := by decide +kernel
  have e' : ("RMCK" : Str).cps = #[82, 77, 67, 75] := by decide +kernel
  have e3 : (#[82, 77, 67, 78] : Array Nat).size = 4 := rfl
  have e4 : (#[82, 77, 67, 75] : Array Nat).size = 4 := rfl
  unfold good fits
  simp only [h1, h2, e, e', e3, e4]
  by_cases hl : xs.length = 4
  · obtain ⟨a, m, c, n, rfl⟩ := len4 hl
    have r : List.range [a, m, c, n].length = [0, 1, 2, 3] := rfl
    rw [r]
    show (true && (([0, 1, 2, 3].all fun j => itB ([82, 77, 67, 78].getD j 0) ([a, m, c, n].getD j .non)) && (!(decide (("skip" : Str) = "skip")) || lessB [a, m, c, n]))) = (true && ([0, 1, 2, 3].all fun j => fitB ([82, 77, 67, 75].getD j 0) ([a, m, c, n].getD j .non) m))
    have es : decide (("skip" : Str) = "skip") = true := by decide +kernel
    rw [es]
    show (true && ((itB 82 a && (itB 77 m && (itB 67 c && (itB 78 n && true)))) && (!true || lessB [a, m, c, n]))) = (true && (fitB 82 a m && (fitB 77 m m && (fitB 67 c m && (fitB 75 n m && true)))))
    rw [fit_R, fit_M, fit_K]
    have el : lessB [a, m, c, n] = lessB [m, m, c, m] := by cases m <;> cases c <;> rfl
    rw [el]
    by_cases hm : itB 77 m = true
    · rw [fit_C c m hm]
      cases itB 82 a <;> cases itB 77 m <;> cases itB 67 c <;> cases itB 78 n <;> cases lessB [m, m, c, m] <;> rfl
    · rw [Bool.eq_false_iff.mpr hm]
      cases itB 82 a <;> rfl
  · rw [decide_eq_false hl]
    rfl
theorem good_fits (r : Rv) : good r = fits r := by
  cases r with
  | it i => rfl
  | lst xs => rfl
  | tup xs =>
    cases xs with
    | nil => rfl
    | cons x xs =>
      cases x with
      | str w =>
        cases h : formOf w with
        | none =>
          have h2 := lf_none h
          unfold good fits
          simp only [h, h2]
        | some f =>
          have hm := forms_at (show forms.lookup w = some f from h)
          have case : ∀ p ∈ forms, formOf p.1 = some p.2 → ∀ xs, good (.tup (.str p.1 :: xs)) = fits (.tup (.str p.1 :: xs)) := by
            intro p hp hf xs
            simp only [forms, List.mem_cons, List.not_mem_nil, or_false] at hp
            rcases hp with rfl | rfl | rfl | rfl | rfl | rfl | rfl | rfl | rfl | rfl
            · exact gf2 (c0 := 87) (c1 := 73) (d0 := 82) (d1 := 78) hf (f' := "RN") (by decide +kernel) (by decide +kernel) (by decide +kernel) (by decide +kernel) fit_W fit_I
            · exact gf2 (c0 := 87) (c1 := 82) (d0 := 82) (d1 := 82) hf (f' := "RR") (by decide +kernel) (by decide +kernel) (by decide +kernel) (by decide +kernel) fit_W fit_R
            · exact gf3 (c0 := 87) (c1 := 82) (c2 := 82) (d0 := 82) (d1 := 82) (d2 := 82) hf (f' := "RRR") (by decide +kernel) (by decide +kernel) (by decide +kernel) (by decide +kernel) fit_W fit_R fit_R
            · exact gf3 (c0 := 87) (c1 := 82) (c2 := 82) (d0 := 82) (d1 := 82) (d2 := 82) hf (f' := "RRR") (by decide +kernel) (by decide +kernel) (by decide +kernel) (by decide +kernel) fit_W fit_R fit_R
            · exact gf3 (c0 := 87) (c1 := 82) (c2 := 82) (d0 := 82) (d1 := 82) (d2 := 82) hf (f' := "RRR") (by decide +kernel) (by decide +kernel) (by decide +kernel) (by decide +kernel) fit_W fit_R fit_R
            · exact gf2 (c0 := 87) (c1 := 82) (d0 := 82) (d1 := 82) hf (f' := "RR") (by decide +kernel) (by decide +kernel) (by decide +kernel) (by decide +kernel) fit_W fit_R
            · exact gf2 (c0 := 87) (c1 := 82) (d0 := 82) (d1 := 82) hf (f' := "RR") (by decide +kernel) (by decide +kernel) (by decide +kernel) (by decide +kernel) fit_W fit_R
            · exact gf2 (c0 := 87) (c1 := 83) (d0 := 82) (d1 := 83) hf (f' := "RS") (by decide +kernel) (by decide +kernel) (by decide +kernel) (by decide +kernel) fit_W fit_S
            · exact gf2 (c0 := 83) (c1 := 82) (d0 := 83) (d1 := 82) hf (f' := "SR") (by decide +kernel) (by decide +kernel) (by decide +kernel) (by decide +kernel) fit_S fit_R
            · exact gf4
          exact case _ hm h xs
      | _ => rfl
/-- a good row has a word and numbers -/
theorem all_ints : ∀ (cs : List Nat) (xs : List It), ((List.range xs.length).all fun j => itB (cs.getD j 0) (xs.getD j .non)) = true → ∃ zs : List Int, xs = zs.map It.int
  | _, [], _ => ⟨[], rfl⟩
  | cs, x :: xs, h => by
    rw [List.all_eq_true] at h
    have h0 := h 0 (List.mem_range.mpr (by simp))
    obtain ⟨zs, hz⟩ := all_ints (cs.drop 1) xs (by
      rw [List.all_eq_true]
      intro j hj
      have := h (j + 1) (List.mem_range.mpr (by have := List.mem_range.mp hj; simp only [List.length_cons]; omega))
      have e : (cs.drop 1).getD j 0 = cs.getD (j + 1) 0 := by
        rw [List.getD_eq_getElem?_getD, List.getD_eq_getElem?_getD, List.getElem?_drop, Nat.add_comm 1 j]
      rw [e]
      exact this)
    cases x with
    | int z => exact ⟨z :: zs, by rw [hz]; rfl⟩
    | _ => cases h0
theorem good_form {r : Rv} (h : good r = true) : ∃ (w f : Str) (zs : List Int), r = .tup (.str w :: zs.map .int) ∧ formOf w = some f ∧ zs.length = f.cps.size ∧ (w = ("skip" : Str) → ∃ a m c n : Int, zs = [a, m, c, n] ∧ c < m) := by
  cases r with
  | it i => cases h
  | lst xs => cases h
  | tup xs =>
    cases xs with
    | nil => cases h
    | cons x xs =>
      cases x with
      | str w =>
        unfold good at h
        cases hf : formOf w with
        | none => simp only [hf] at h; cases h
        | some f =>
          simp only [hf] at h
          obtain ⟨h1, h2⟩ := Bool.and_eq_true_iff.mp h
          obtain ⟨h2, h3⟩ := Bool.and_eq_true_iff.mp h2
          obtain ⟨zs, rfl⟩ := all_ints _ _ h2
          refine ⟨w, f, zs, rfl, hf, by have := of_decide_eq_true h1; simpa using this, fun hw => ?_⟩
          rw [decide_eq_true hw] at h3
          have h3 : lessB (zs.map It.int) = true := by simpa using h3
          match zs, h3 with
          | [a, m, c, n], h3 => exact ⟨a, m, c, n, rfl, of_decide_eq_true h3⟩
          | [], h3 => cases h3
          | [_], h3 => cases h3
          | [_, _], h3 => cases h3
          | [_, _, _], h3 => cases h3
          | _ :: _ :: _ :: _ :: _ :: _, h3 => cases h3
      | _ => cases h
end My

set_option Elab.async false
set_option linter.all false
set_option maxRecDepth 100000
set_option maxHeartbeats 1000000
namespace My
open PySem L2 MyR
theorem cut_tail (x : V) (ys : List V) : cutV (x :: ys) (some 1) none = ys := by
  unfold cutV
  have e1 : HT.sIx (x :: ys).length 0 (some 1) = 1 := by
    show (if (1 : Int) < 0 then ((1 : Int) + ((x :: ys).length : Int)).toNat else min (1 : Int).toNat (x :: ys).length) = 1
    rw [if_neg (by decide), List.length_cons]
    show min 1 (ys.length + 1) = 1
    omega
  have e2 : HT.sIx (x :: ys).length (x :: ys).length none = (x :: ys).length := rfl
  rw [e1, e2, List.length_cons]
  show (ys.take (ys.length + 1 - 1)) = ys
  rw [Nat.add_sub_cancel, List.take_length]
theorem not_whole_tail (x : V) (ys : List V) : ¬ (HT.sIx (x :: ys).length 0 (some 1) = 0 ∧ HT.sIx (x :: ys).length (x :: ys).length none = (x :: ys).length) := by
  rintro ⟨h, _⟩
  have e1 : HT.sIx (x :: ys).length 0 (some 1) = 1 := by
    show (if (1 : Int) < 0 then ((1 : Int) + ((x :: ys).length : Int)).toNat else min (1 : Int).toNat (x :: ys).length) = 1
    rw [if_neg (by decide), List.length_cons]
    show min 1 (ys.length + 1) = 1
    omega
  omega

/-- the tables of the program -/
structure Tabs3 (w : World) (K : PySem.W.Frag) (mg : Str → Option Value) : Prop extends Tabs w K mg where
  miss : ∃ a, mg "FORMS" = some (.ref a) ∧ ∀ x, formOf x = none → PySem.W.nsIn K a x = some none
def It.bI : It → Bool | .int _ => true | .bl _ => true | _ => false
def It.bB : It → Bool | .bl _ => true | _ => false
def It.bS : It → Bool | .str _ => true | _ => false
def It.bW : It → Bool | .int _ => true | _ => false
theorem it_int {K : PySem.W.Frag} {H : Hp} {v : V} {x : It} (h : ItAt H v x) : ∃ t, TyX K H v t ∧ PySem.W.kitOne K t (.type "int") = some x.bI := by
  cases x with
  | non => subst h; exact ⟨_, .base .non, kit_ty (a := "NoneType") (b := "int") (r := false) (by decide +kernel)⟩
  | bl b => subst h; exact ⟨_, .base (.bl b), kit_ty (a := "bool") (b := "int") (r := true) (by decide +kernel)⟩
  | int i => subst h; exact ⟨_, .base (.int i), kit_ty (a := "int") (b := "int") (r := true) (by decide +kernel)⟩
  | str z => obtain ⟨rfl, _⟩ := h; exact ⟨_, .base (.str z), kit_ty (a := "str") (b := "int") (r := false) (by decide +kernel)⟩
  | emp => obtain ⟨p, rfl, e⟩ := h; exact ⟨_, .base (.tup e), kit_ty (a := "tuple") (b := "int") (r := false) (by decide +kernel)⟩
theorem it_bool {K : PySem.W.Frag} {H : Hp} {v : V} {x : It} (h : ItAt H v x) : ∃ t, TyX K H v t ∧ PySem.W.kitOne K t (.type "bool") = some x.bB := by
  cases x with
  | non => subst h; exact ⟨_, .base .non, kit_ty (a := "NoneType") (b := "bool") (r := false) (by decide +kernel)⟩
  | bl b => subst h; exact ⟨_, .base (.bl b), kit_ty (a := "bool") (b := "bool") (r := true) (by decide +kernel)⟩
  | int i => subst h; exact ⟨_, .base (.int i), kit_ty (a := "int") (b := "bool") (r := false) (by decide +kernel)⟩
  | str z => obtain ⟨rfl, _⟩ := h; exact ⟨_, .base (.str z), kit_ty (a := "str") (b := "bool") (r := false) (by decide +kernel)⟩
  | emp => obtain ⟨p, rfl, e⟩ := h; exact ⟨_, .base (.tup e), kit_ty (a := "tuple") (b := "bool") (r := false) (by decide +kernel)⟩
theorem it_str {K : PySem.W.Frag} {H : Hp} {v : V} {x : It} (h : ItAt H v x) : ∃ t, TyX K H v t ∧ PySem.W.kitOne K t (.type "str") = some x.bS := by
  cases x with
  | non => subst h; exact ⟨_, .base .non, kit_ty (a := "NoneType") (b := "str") (r := false) (by decide +kernel)⟩
  | bl b => subst h; exact ⟨_, .base (.bl b), kit_ty (a := "bool") (b := "str") (r := false) (by decide +kernel)⟩
  | int i => subst h; exact ⟨_, .base (.int i), kit_ty (a := "int") (b := "str") (r := false) (by decide +kernel)⟩
  | str z => obtain ⟨rfl, _⟩ := h; exact ⟨_, .base (.str z), kit_ty (a := "str") (b := "str") (r := true) (by decide +kernel)⟩
  | emp => obtain ⟨p, rfl, e⟩ := h; exact ⟨_, .base (.tup e), kit_ty (a := "tuple") (b := "str") (r := false) (by decide +kernel)⟩
def Rv.bT : Rv → Bool | .it .emp => true | .tup _ => true | _ => false
/-- the items of a tuple -/
def Rv.its : Rv → List It | .tup xs => xs | .lst xs => xs | _ => []
theorem rv_tup {K : PySem.W.Frag} {d l : Addr} {H : Hp} {v : V} {r : Rv} (h : RvAt d l H v r) : ∃ t, TyX K H v t ∧ PySem.W.kitOne K t (.type "tuple") = some r.bT := by
  cases r with
  | it x =>
    cases x with
    | non => subst h; exact ⟨_, .base .non, kit_ty (a := "NoneType") (b := "tuple") (r := false) (by decide +kernel)⟩
    | bl b => subst h; exact ⟨_, .base (.bl b), kit_ty (a := "bool") (b := "tuple") (r := false) (by decide +kernel)⟩
    | int i => subst h; exact ⟨_, .base (.int i), kit_ty (a := "int") (b := "tuple") (r := false) (by decide +kernel)⟩
    | str z => obtain ⟨rfl, _⟩ := h; exact ⟨_, .base (.str z), kit_ty (a := "str") (b := "tuple") (r := false) (by decide +kernel)⟩
    | emp => obtain ⟨p, rfl, e⟩ := h; exact ⟨_, .base (.tup e), kit_ty (a := "tuple") (b := "tuple") (r := true) (by decide +kernel)⟩
  | tup xs => obtain ⟨p, vs, rfl, e, _⟩ := h; exact ⟨_, .base (.tup e), kit_ty (a := "tuple") (b := "tuple") (r := true) (by decide +kernel)⟩
  | lst xs => obtain ⟨p, vs, rfl, _, _, e, _⟩ := h; exact ⟨_, .base (.lst e), kit_ty (a := "list") (b := "tuple") (r := false) (by decide +kernel)⟩
/-- a tuple's own list -/
theorem tup_at {d l : Addr} {H : Hp} {v : V} {r : Rv} (h : RvAt d l H v r) (ht : r.bT = true) : ∃ p vs, v = .ref p ∧ H p = some (.tup vs) ∧ All2 (ItAt H) vs r.its := by
  cases r with
  | it x =>
    cases x with
    | emp => obtain ⟨p, rfl, e⟩ := h; exact ⟨p, [], rfl, e, .nil⟩
    | _ => cases ht
  | tup xs => exact h
  | lst xs => cases ht
theorem good_empty {r : Rv} (h : r.its = []) : good r = false := by
  cases r with
  | tup xs => subst h; rfl
  | _ => rfl
theorem good_tup {r : Rv} (h : r.bT = true) (hn : r.its ≠ []) : r = .tup r.its := by
  cases r with
  | it x => exact absurd rfl hn
  | tup xs => rfl
  | lst xs => cases h
def btw : It → Int → Int → Bool
  | .int i, lo, hi => decide (lo ≤ i) && decide (i ≤ hi)
  | _, _, _ => false
def spInt : Sp := fun vs H Q _ => ∃ v x, vs = [v] ∧ ItAt H v x ∧ Q (.bl x.bW) H
def spBtw : Sp := fun vs H Q _ => ∃ v x lo hi, vs = [v, .int lo, .int hi] ∧ ItAt H v x ∧ Q (.bl (btw x lo hi)) H
def spSmall : Sp := fun vs H Q _ => ∃ v x, vs = [v] ∧ ItAt H v x ∧ Q (.bl (itB 73 x)) H
def lets : List Nat := [73, 87, 82, 83, 77, 67, 78]
def spItem : Sp := fun vs H Q _ => ∃ c v x, vs = [.str (sg c), v] ∧ c ∈ lets ∧ ItAt H v x ∧ Q (.bl (itB c x)) H
def spRow : Sp := fun vs H Q _ => ∃ (d l : Addr) (v : V) (r : Rv), vs = [v] ∧ RvAt d l H v r ∧ r.its.length ≤ 100 ∧ ∀ H', Same H H' → Q (.bl (good r)) H'
section
variable {P : Program} {w : World} {K : PySem.W.Frag} {mg : Str → Option Value} {base : Heap}
abbrev s_is_integer : Stmt := top 7
abbrev N_is_integer : List Str := ["value"]
theorem sc_is_integer : FnScope N_is_integer ["value"] (defScope s_is_integer) := ⟨rfl, rfl, rfl, by decide +kernel, rfl, by decide +kernel, by decide +kernel⟩
theorem ok_is_integer {f : Addr} {fd : FuncData} (F : Fun K "is_integer" "is_integer" s_is_integer f fd) (T : Glob mg) : FnOk P w K mg base CX0 1 f fd ["value"] spInt := by
  refine F.ok sc_is_integer (fun vs H Q E h => ?_) (fun cdv A outer s H vs Q E hr h => ?_)
  · obtain ⟨v, x, rfl, _⟩ := h
    rfl
  · obtain ⟨v, x, rfl, ha, k⟩ := h
    refine ⟨_, (pss_one (ps_ret (pe_and (pe_callB call_isi (by rfl) T.g_isinstance (by decide +kernel) (pa_cons (pv 0) (pa_cons (pe_bltn (v := .ty "int") (by rfl) T.g_int (by decide +kernel) rfl) pa_nil))) (pe_one (pe_not (pe_callB call_isi (by rfl) T.g_isinstance (by decide +kernel) (pa_cons (pv 0) (pa_cons (pe_bltn (v := .ty "bool") (by rfl) T.g_bool (by decide +kernel) rfl) pa_nil)))))))), ?_⟩
    obtain ⟨t, ht, e⟩ := it_int (K := K) ha
    obtain ⟨t2, ht2, e2⟩ := it_bool (K := K) ha
    refine ⟨_, rfl, _, _, t, _, x.bI, rfl, .ty "int", ht, e, _, rfl, ?_⟩
    cases x with
    | non => exact k
    | bl b => exact ⟨_, rfl, _, _, t2, _, true, rfl, .ty "bool", ht2, e2, _, rfl, k⟩
    | int i => exact ⟨_, rfl, _, _, t2, _, false, rfl, .ty "bool", ht2, e2, _, rfl, k⟩
    | str z => exact k
    | emp => exact k
abbrev s_is_between : Stmt := top 8
abbrev N_is_between : List Str := ["value", "least", "most"]
theorem sc_is_between : FnScope N_is_between ["value", "least", "most"] (defScope s_is_between) := ⟨rfl, rfl, rfl, by decide +kernel, rfl, by decide +kernel, by decide +kernel⟩
theorem ok_is_between {f : Addr} {fd : FuncData} (F : Fun K "is_between" "is_between" s_is_between f fd) (D_is_integer : Df P w K mg base 1 "is_integer" ["value"] spInt) : FnOk P w K mg base CX0 2 f fd ["value", "least", "most"] spBtw := by
  refine F.ok sc_is_between (fun vs H Q E h => ?_) (fun cdv A outer s H vs Q E hr h => ?_)
  · obtain ⟨v, x, lo, hi, rfl, _⟩ := h
    rfl
  · obtain ⟨v, x, lo, hi, rfl, ha, k⟩ := h
    refine ⟨_, (pss_one (ps_ret (pe_and (pe_call D_is_integer.ok (hr.mono (by decide)) (by rfl) D_is_integer.g D_is_integer.kp D_is_integer.b .nil pass0 (pa_cons (pv 0) pa_nil)) (pe_one (pe_chain op_le op_le (pv 1) (pv 0) (pv 2)))))), ?_⟩
    refine ⟨_, rfl, v, x, rfl, ha, _, rfl, ?_⟩
    cases x with
    | non => exact k
    | bl b => exact k
    | str z => exact k
    | emp => exact k
    | int i =>
      obtain rfl : v = .int i := ha
      refine ⟨_, rfl, _, rfl, _, _, rfl, rfl, _, rfl, ?_⟩
      refine ite2 (fun h1 => ?_) (fun h1 => ?_)
      · refine ⟨_, rfl, _, _, rfl, rfl, ?_⟩
        have e : btw (.int i) lo hi = decide (i ≤ hi) := by
          show (decide (lo ≤ i) && decide (i ≤ hi)) = _
          rw [h1, Bool.true_and]
        rw [e] at k
        exact k
      · have e : btw (.int i) lo hi = false := by
          show (decide (lo ≤ i) && decide (i ≤ hi)) = _
          rw [Bool.eq_false_iff.mpr h1, Bool.false_and]
        rw [e] at k
        exact k
abbrev s_is_small : Stmt := top 9
abbrev N_is_small : List Str := ["value"]
theorem sc_is_small : FnScope N_is_small ["value"] (defScope s_is_small) := ⟨rfl, rfl, rfl, by decide +kernel, rfl, by decide +kernel, by decide +kernel⟩
theorem ok_is_small {f : Addr} {fd : FuncData} (F : Fun K "is_small" "is_small" s_is_small f fd) (T2 : Tabs w K mg) (D_is_integer : Df P w K mg base 1 "is_integer" ["value"] spInt) : FnOk P w K mg base CX0 2 f fd ["value"] spSmall := by
  obtain ⟨tL, hL⟩ := T2.limit
  refine F.ok sc_is_small (fun vs H Q E h => ?_) (fun cdv A outer s H vs Q E hr h => ?_)
  · obtain ⟨v, x, rfl, _⟩ := h
    rfl
  · obtain ⟨v, x, rfl, ha, k⟩ := h
    refine ⟨_, (pss_one (ps_ret (pe_and (pe_call D_is_integer.ok (hr.mono (by decide)) (by rfl) D_is_integer.g D_is_integer.kp D_is_integer.b .nil pass0 (pa_cons (pv 0) pa_nil)) (pe_one (pe_chain op_lt op_lt (pe_un un_neg (pe_glob (v := .int 18446744073709551616) rfl hL ⟨_, rfl⟩)) (pv 0) (pe_glob (v := .int 18446744073709551616) rfl hL ⟨_, rfl⟩)))))), ?_⟩
    refine ⟨_, rfl, v, x, rfl, ha, _, rfl, ?_⟩
    cases x with
    | non => exact k
    | bl b => exact k
    | str z => exact k
    | emp => exact k
    | int i =>
      obtain rfl : v = .int i := ha
      refine ⟨_, rfl, _, rfl, _, _, rfl, rfl, _, rfl, ?_⟩
      refine ite2 (fun h1 => ?_) (fun h1 => ?_)
      · have h1 := of_decide_eq_true h1
        refine ⟨_, _, rfl, rfl, ?_⟩
        have e : itB 73 (.int i) = decide (i < 18446744073709551616) := decide_eq_decide.mpr ⟨fun h => by unfold itOk at h; omega, fun h => by unfold itOk; omega⟩
        rw [e] at k
        exact k
      · have h1 := of_decide_eq_false (Bool.eq_false_iff.mpr h1)
        have e : itB 73 (.int i) = false := decide_eq_false (fun h => by unfold itOk at h; omega)
        rw [e] at k
        exact k
abbrev s_is_item : Stmt := top 18
abbrev N_is_item : List Str := ["letter", "value"]
theorem sc_is_item : FnScope N_is_item ["letter", "value"] (defScope s_is_item) := ⟨rfl, rfl, rfl, by decide +kernel, rfl, by decide +kernel, by decide +kernel⟩
theorem ok_is_item {f : Addr} {fd : FuncData} (F : Fun K "is_item" "is_item" s_is_item f fd) (T2 : Tabs w K mg) (D_is_between : Df P w K mg base 2 "is_between" ["value", "least", "most"] spBtw) (D_is_small : Df P w K mg base 2 "is_small" ["value"] spSmall) : FnOk P w K mg base CX0 3 f fd ["letter", "value"] spItem := by
  obtain ⟨tR, hMR⟩ := T2.rows
  obtain ⟨tG, hMG⟩ := T2.regs
  obtain ⟨tS, hSL⟩ := T2.slots
  obtain ⟨aM, hM, hMs⟩ := T2.moduli
  refine F.ok sc_is_item (fun vs H Q E h => ?_) (fun cdv A outer s H vs Q E hr h => ?_)
  · obtain ⟨c, v, x, rfl, _⟩ := h
    rfl
  · obtain ⟨c, v, x, rfl, hc, ha, k⟩ := h
    have hc : c = 73 ∨ c = 87 ∨ c = 82 ∨ c = 83 ∨ c = 77 ∨ c = 67 ∨ c = 78 := by simpa [lets] using hc
    have eb : ∀ lo hi : Int, (∀ z : Int, itOk c z ↔ lo ≤ z ∧ z ≤ hi) → itB c x = btw x lo hi := by
      intro lo hi hz
      cases x with
      | int z =>
        show decide (itOk c z) = (decide (lo ≤ z) && decide (z ≤ hi))
        rw [← Bool.decide_and]
        exact decide_eq_decide.mpr (hz z)
      | _ => rfl
    refine ⟨_, (pss_cons (ps_if (pt_cmpR op_eq (pv 0) pe_str (nomark _))
    (pss_one (ps_ret (pe_call D_is_small.ok (hr.mono (by decide)) (by rfl) D_is_small.g D_is_small.kp D_is_small.b .nil pass0 (pa_cons (pv 1) pa_nil))))
    pss_nil)
    (pss_cons (ps_if (pt_cmpR op_in_sign (pv 0) pe_str (by rfl))
    (pss_one (ps_ret (pe_call D_is_between.ok (hr.mono (by decide)) (by rfl) D_is_between.g D_is_between.kp D_is_between.b .nil pass0 (pa_cons (pv 1) (pa_cons pe_int (pa_cons (pe_op op_sub (pe_glob (v := .int 8) rfl hMG ⟨_, rfl⟩) pe_int) pa_nil))))))
    pss_nil)
    (pss_cons (ps_if (pt_cmpR op_eq (pv 0) pe_str (nomark _))
    (pss_one (ps_ret (pe_call D_is_between.ok (hr.mono (by decide)) (by rfl) D_is_between.g D_is_between.kp D_is_between.b .nil pass0 (pa_cons (pv 1) (pa_cons pe_int (pa_cons (pe_op op_sub (pe_glob (v := .int 1000) rfl hSL ⟨_, rfl⟩) pe_int) pa_nil))))))
    pss_nil)
    (pss_cons (ps_if (pt_cmpR op_eq (pv 0) pe_str (nomark _))
    (pss_one (ps_ret (pe_and (pe_call D_is_between.ok (hr.mono (by decide)) (by rfl) D_is_between.g D_is_between.kp D_is_between.b .nil pass0 (pa_cons (pv 1) (pa_cons pe_int (pa_cons (pe_ix ix_tup (pe_glob (v := .ref aM) rfl hM rfl) (pe_un un_neg pe_int) (fun _ _ => rfl)) pa_nil)))) (pe_one (pe_cmpR op_in_seq (pv 1) (pe_glob (v := .ref aM) rfl hM rfl) (by rfl))))))
    pss_nil)
    (pss_one (ps_ret (pe_call D_is_between.ok (hr.mono (by decide)) (by rfl) D_is_between.g D_is_between.kp D_is_between.b .nil pass0 (pa_cons (pv 1) (pa_cons pe_int (pa_cons (pe_glob (v := .int 1000) rfl hMR ⟨_, rfl⟩) pa_nil)))))))))), ?_⟩
    refine ⟨_, rfl, rfl, _, rfl, ?_⟩
    rw [sg_eq c 73 _ sg_I]
    refine ite2 (fun h1 => ?_) (fun h1 => ?_)
    · have h1 := of_decide_eq_true h1
      subst h1
      exact ⟨_, rfl, v, x, rfl, ha, k⟩
    have h1 : ¬ c = 73 := fun e => h1 (decide_eq_true e)
    refine ⟨_, rfl, c, _, rfl, rfl, _, rfl, ?_⟩
    rw [wr_cps]
    refine ite2 (fun h2 => ?_) (fun h2 => ?_)
    · have h2 := of_decide_eq_true h2
      have h2 : c = 87 ∨ c = 82 := by simpa using h2
      refine ⟨_, rfl, _, _, rfl, rfl, v, x, 0, 7, rfl, ha, ?_⟩
      rw [← eb 0 7 (fun z => ⟨fun h => by unfold itOk at h; omega, fun h => by unfold itOk; omega⟩)]
      exact k
    have h2 : ¬ (c = 87 ∨ c = 82) := fun e => h2 (decide_eq_true (by simpa using e))
    refine ⟨_, rfl, rfl, _, rfl, ?_⟩
    rw [sg_eq c 83 _ sg_S]
    refine ite2 (fun h3 => ?_) (fun h3 => ?_)
    · have h3 := of_decide_eq_true h3
      refine ⟨_, rfl, _, _, rfl, rfl, v, x, 0, 999, rfl, ha, ?_⟩
      rw [← eb 0 999 (fun z => ⟨fun h => by unfold itOk at h; omega, fun h => by unfold itOk; omega⟩)]
      exact k
    have h3 : ¬ c = 83 := fun e => h3 (decide_eq_true e)
    refine ⟨_, rfl, rfl, _, rfl, ?_⟩
    rw [sg_eq c 77 _ sg_M]
    refine ite2 (fun h4 => ?_) (fun h4 => ?_)
    · have h4 := of_decide_eq_true h4
      subst h4
      refine ⟨_, rfl, _, rfl, aM, _, _, .int 64, rfl, rfl, hMs _, by rfl, v, x, 1, 64, rfl, ha, _, rfl, ?_⟩
      cases x with
      | non => exact k
      | bl b => exact k
      | str z => exact k
      | emp => exact k
      | int z =>
        obtain rfl : v = .int z := ha
        refine ite2 (fun hb => ?_) (fun hb => ?_)
        · refine ⟨_, rfl, aM, _, rfl, .inr (hMs _), rfl, mods_flat, ?_⟩
          by_cases hz : z ∈ mods
          · rw [in_mods hz]
            have e : itB 77 (.int z) = true := decide_eq_true (.inr (.inr (.inr (.inl ⟨rfl, hz⟩))))
            rw [e] at k
            exact k
          · have e : itB 77 (.int z) = false := decide_eq_false (fun h => hz (mod_of h))
            rw [e] at k
            have e2 : inV (.int z) (mods.map V.int) = false := by
              refine Bool.eq_false_iff.mpr fun q => hz ?_
              unfold inV at q
              rw [List.any_map] at q
              obtain ⟨y, hy, hq⟩ := List.any_eq_true.mp q
              have hq : (y == z) = true := hq
              rw [← beq_iff_eq.mp hq]
              exact hy
            rw [e2]
            exact k
        · have e : itB 77 (.int z) = false := decide_eq_false (fun h => hb (by
            have := mods_bound z (mod_of h)
            show (decide (1 ≤ z) && decide (z ≤ 64)) = true
            rw [decide_eq_true this.1, decide_eq_true this.2]
            rfl))
          rw [e] at k
          exact k
    have h4 : ¬ c = 77 := fun e => h4 (decide_eq_true e)
    refine ⟨_, rfl, v, x, 0, 1000, rfl, ha, ?_⟩
    rw [← eb 0 1000 (fun z => ⟨fun h => by unfold itOk at h; omega, fun h => by unfold itOk; omega⟩)]
    exact k
end
end My

set_option Elab.async false
set_option linter.all false
set_option maxRecDepth 100000
set_option maxHeartbeats 1000000
namespace My
open PySem L2 MyR
theorem range_snoc {α : Type} (f : Nat → α) (i : Nat) : (List.range (i + 1)).map f = (List.range i).map f ++ [f i] := by
  rw [List.range_succ, List.map_append]
  rfl
theorem ints_of {H : Hp} : ∀ {zs : List Int} {vs : List V}, All2 (ItAt H) vs (zs.map It.int) → vs = zs.map V.int
  | [], _, .nil => rfl
  | _ :: _, _, .cons h t => by
    rw [List.map_cons, ← ints_of t]
    exact congrArg (· :: _) h
theorem lets_ok {w f : Str} (h : formOf w = some f) {i c : Nat} (hc : f.cps[i]? = some c) : c ∈ lets := by
  have q : ∀ p ∈ forms, ∀ c ∈ p.2.cps.toList, c ∈ lets := by decide +kernel
  exact q _ (forms_at h) c (List.mem_of_getElem? (by rw [Array.getElem?_toList]; exact hc))
theorem getD_of {α : Type} {xs : List α} {i : Nat} {x d : α} (h : xs[i]? = some x) : xs.getD i d = x := by
  rw [List.getD_eq_getElem?_getD, h]
  rfl
theorem good_none {w : Str} {xs : List It} (h : formOf w = none) : good (.tup (.str w :: xs)) = false := by
  unfold good
  simp only [h]
theorem good_some {w f : Str} {xs : List It} (h : formOf w = some f) : good (.tup (.str w :: xs)) = (decide (xs.length = f.cps.size) && (((List.range xs.length).all fun j => itB (f.cps.toList.getD j 0) (xs.getD j .non)) && (!(decide (w = ("skip" : Str))) || lessB xs))) := by
  unfold good
  simp only [h]
theorem form_size {w f : Str} (h : formOf w = some f) : f.cps.size ≤ 4 := by
  have q : ∀ p ∈ forms, p.2.cps.size ≤ 4 := by decide +kernel
  exact q _ (forms_at h)
section
variable {P : Program} {w : World} {K : PySem.W.Frag} {mg : Str → Option Value} {base : Heap}
abbrev s_is_row : Stmt := top 19
abbrev N_is_row : List Str := ["row", "form", "letter", "value"]
theorem sc_is_row : FnScope N_is_row ["row"] (defScope s_is_row) := ⟨rfl, rfl, rfl, by decide +kernel, rfl, by decide +kernel, by decide +kernel⟩
theorem ok_is_row {f : Addr} {fd : FuncData} (F : Fun K "is_row" "is_row" s_is_row f fd) (T : Glob mg) (T2 : Tabs3 w K mg) (D_is_item : Df P w K mg base 3 "is_item" ["letter", "value"] spItem) : FnOk P w K mg base CX0 4 f fd ["row"] spRow := by
  obtain ⟨aF, hF, ⟨es, n0, DF⟩, hFs⟩ := T2.forms
  obtain ⟨aF', hF', hmiss⟩ := T2.miss
  have eF : aF' = aF := by
    rw [hF] at hF'
    exact (Value.ref.inj (Option.some.inj hF')).symm
  rw [eF] at hmiss
  refine F.ok sc_is_row (fun vs H Q E h => ?_) (fun cdv A outer s H vs Q E hr h => ?_)
  · obtain ⟨d, l, v, r, rfl, _⟩ := h
    rfl
  · obtain ⟨d, l, v, r, rfl, ha, hlong, k⟩ := h
    have hu := hu_of hr
    have nd := sc_is_row.nd
    refine ⟨_, (pss_cons (ps_if (PW.pt (pw_or (pt_not (pt_val (pe_callB call_isi (by rfl) T.g_isinstance (by decide +kernel) (pa_cons (pv 0) (pa_cons (pe_bltn (v := .ty "tuple") (by rfl) T.g_tuple (by decide +kernel) rfl) pa_nil))))) (pw_or (pt_cmpR op_eq (pe_callB call_len_seq (by rfl) T.g_len PySem.boot_len (pa_cons (pv 0) pa_nil)) pe_int (nomark _)) (pw_or (pt_not (pt_val (pe_callB call_isi (by rfl) T.g_isinstance (by decide +kernel) (pa_cons (pe_ix ix_tup (pv 0) pe_int (fun _ _ => rfl)) (pa_cons (pe_bltn (v := .ty "str") (by rfl) T.g_str (by decide +kernel) rfl) pa_nil))))) (pw_or1 (pt_cmpR (op_notIn_kd DF) (pe_ix ix_tup (pv 0) pe_int (fun _ _ => rfl)) (pe_glob (v := .ref aF) rfl hF rfl) (by rfl)))))))
    (pss_one (ps_ret pe_bl))
    pss_nil)
    (pss_cons (ps_set (i := 1) nd rfl (Or.inl rfl) (pe_ix ix_kdict (pe_glob (v := .ref aF) rfl hF rfl) (pe_ix ix_tup (pv 0) pe_int (fun _ _ => rfl)) (fun _ _ => rfl)))
    (pss_cons (ps_if (PW.pt (pw_or (pt_cmpR op_ne (pe_callB call_len_seq (by rfl) T.g_len PySem.boot_len (pa_cons (pv 0) pa_nil)) (pe_op op_add (pe_callB call_len_str (by rfl) T.g_len PySem.boot_len (pa_cons (pv 1) pa_nil)) pe_int) (nomark _)) (pw_or1 (pt_not (pt_val (pe_callB (cr_all rfl) (by rfl) T.g_all (by decide +kernel) (pa_cons (pe_lc (own := [("letter", 2), ("value", 3)]) (g := gTup K 2 (gCons (gName 2) (gCons (gName 3) gNil))) (tt := tYes) rfl nd (pi_zipST (by rfl) T.g_zip (pa_cons (pv 1) (pa_cons (pe_slice sl_tup (pv 0) (po_some pe_int) po_none) pa_nil))) (blkOk_by (N := N_is_row) (sc := defScope s_is_row) (by decide +kernel)) (fun _ _ _ _ _ => pg_tup (by rfl) (pgs_cons (pg_name (i := 2) nd rfl (Or.inl rfl)) (pgs_cons (pg_name (i := 3) nd rfl (Or.inl rfl)) pgs_nil))) (fun _ _ _ _ _ => pts_nil) (fun _ _ _ _ _ => (pe_call D_is_item.ok (hr.mono (by decide)) (by rfl) D_is_item.g D_is_item.kp D_is_item.b .nil pass0 (pa_cons (pv 2) (pa_cons (pv 3) pa_nil))))) pa_nil)))))))
    (pss_one (ps_ret pe_bl))
    pss_nil)
    (pss_one (ps_ret (pe_or (pe_cmpR op_ne (pe_ix ix_tup (pv 0) pe_int (fun _ _ => rfl)) pe_str (nomark _)) (pe_one (pe_cmpR op_lt (pe_ix ix_tup (pv 0) pe_int (fun _ _ => rfl)) (pe_ix ix_tup (pv 0) pe_int (fun _ _ => rfl)) (nomark _))))))))), ?_⟩
    obtain ⟨tT, hTy, hkit⟩ := rv_tup (K := K) ha
    refine ⟨_, rfl, _, _, tT, _, r.bT, rfl, .ty "tuple", hTy, hkit, _, rfl, ?_⟩
    cases hT : r.bT with
    | false =>
      have e : good r = false := by
        cases r with
        | tup xs => cases hT
        | _ => rfl
      have k0 := k H (Same.refl H)
      rw [e] at k0
      exact k0
    | true =>
    obtain ⟨p, vs, rfl, hp, hal⟩ := tup_at ha hT
    have hl := hal.len
    have sq0 : ∀ H', Same H H' → SqT K H' p vs := fun H' sm => SqT.of (sm _ _ hp)
    refine ⟨_, rfl, p, _, rfl, .inr (sq0 H (Same.refl H)), rfl, _, rfl, ?_⟩
    refine ite2 (fun h0 => ?_) (fun h0 => ?_)
    · have h0 := V.int.inj (of_decide_eq_true h0)
      have e : good r = false := good_empty (List.eq_nil_of_length_eq_zero (by omega))
      have k0 := k H (Same.refl H)
      rw [e] at k0
      exact k0
    have hne : r.its ≠ [] := by
      intro e
      rw [e] at hl
      exact h0 (decide_eq_true (by rw [hl]; rfl))
    have er := good_tup hT hne
    obtain ⟨x, xs, ex⟩ : ∃ x xs, r.its = x :: xs := by
      cases e : r.its with
      | nil => exact absurd e hne
      | cons x xs => exact ⟨x, xs, rfl⟩
    rw [ex] at hal er hlong hl
    subst er
    cases hal with
    | @cons v0 _ vs' _ hx hxs =>
    have hl' := hxs.len
    have sqc : ∀ H', Same H H' → SqT K H' p (v0 :: vs') := fun H' sm => sq0 H' sm
    obtain ⟨tS, hTyS, hkitS⟩ := it_str (K := K) hx
    refine ⟨_, rfl, p, _, _, v0, rfl, rfl, sqc H (Same.refl H), atI_nat (j := 0) rfl, ?_⟩
    refine ⟨_, _, tS, _, x.bS, rfl, .ty "str", hTyS, hkitS, _, rfl, ?_⟩
    cases x with
    | int z => exact k H (Same.refl H)
    | bl z => exact k H (Same.refl H)
    | non => exact k H (Same.refl H)
    | emp => exact k H (Same.refl H)
    | str w0 =>
    obtain ⟨rfl, hstr⟩ := hx
    refine ⟨_, rfl, p, _, _, .str w0, rfl, rfl, sqc H (Same.refl H), atI_nat (j := 0) rfl, ?_⟩
    cases hf : formOf w0 with
    | none =>
      refine ⟨w0, none, rfl, rfl, hmiss w0 hf, _, rfl, ?_⟩
      have k0 := k H (Same.refl H)
      rw [good_none hf] at k0
      exact k0
    | some fm =>
    obtain ⟨es', n', u, hl0, _, hu', ru⟩ := hFs _ _ (forms_at hf)
    refine ⟨w0, some u, rfl, rfl, hu', _, rfl, ?_⟩
    refine ⟨_, rfl, p, _, _, .str w0, rfl, rfl, sqc H (Same.refl H), atI_nat (j := 0) rfl, aF, w0, .str fm, rfl, rfl, hFs _ _ (forms_at hf), ?_⟩
    have hfl : fm.length = fm.cps.size := rfl
    have h4 := form_size hf
    rw [good_some hf] at k
    refine ⟨_, rfl, p, _, rfl, .inr (sqc H (Same.refl H)), _, rfl, fm, rfl, Nat.le_of_lt (small1000 (by rw [hfl]; omega)), _, _, rfl, rfl, rfl, _, rfl, ?_⟩
    by_cases hlen : xs.length = fm.cps.size
    case neg =>
      rw [decide_eq_false hlen, Bool.false_and] at k
      refine ite2 (fun _ => k H (Same.refl H)) (fun hz => absurd ?_ hz)
      refine Bool.not_eq_true' _ ▸ ?_
      refine decide_eq_false fun e => hlen ?_
      have := V.int.inj e
      rw [List.length_cons, hl', hfl] at this
      omega
    rw [decide_eq_true hlen, Bool.true_and] at k
    refine iteNS (by rw [hfl, ← hlen, List.length_cons, hl']; simp) ?_
    -- the items
    refine ⟨_, rfl, _, rfl, _, rfl, p, _, rfl, sqc H (Same.refl H), not_whole_tail _ _, fun q hq => ?_⟩
    rw [show cutV (V.str w0 :: vs') (some 1) none = vs' from cut_tail _ _]
    refine ⟨fm, q, _, rfl, SqT.of upd_same, fun D hD => ?_⟩
    have hqH : H q = none := hq
    have hDq : q ≠ D := fun e => by rw [e, upd_same] at hD; cases hD
    have hDH : H D = none := by rw [← upd_ne (H := H) (Ne.symm hDq)]; exact hD
    have hvl : fm.cps.size = vs'.length := by rw [← hlen, hl']
    let bs : Nat → Bool := fun j => itB (fm.cps.toList.getD j 0) (xs.getD j .non)
    refine lc_it (walk_zipST hvl) (fun i H1 => Same H H1 ∧ H1 q = some (.tup vs') ∧ H1 D = some (.lst (((List.range i).map bs).map V.bl))) ⟨fun b o e => by rw [upd_ne (ne_of_none e hDH), upd_ne (ne_of_none e hqH)]; exact e, by rw [upd_ne hDq, upd_same], upd_same⟩ (fun i H1 _ h1 => SqT.of h1.2.1) ?_ ?_
    · rintro i v H1 H2 hi ⟨sm, h1, h2⟩ ⟨Tt, x, y, rfl, hTt, rfl, hx, hy⟩
      replace hx : (fm.cps[i]?).map (fun c => V.str ⟨#[c]⟩) = some x := hx
      replace hy : vs'[i]? = some y := hy
      obtain ⟨c, hc, rfl⟩ : ∃ c, fm.cps[i]? = some c ∧ x = V.str (sg c) := by
        cases e : fm.cps[i]? with
        | none => rw [e] at hx; cases hx
        | some c => rw [e] at hx; exact ⟨c, rfl, (Option.some.inj hx).symm⟩
      obtain ⟨z, hz, hzy⟩ := hxs.getL hy
      have nqT : q ≠ Tt := ne_of_none h1 hTt
      have nDT : D ≠ Tt := ne_of_none h2 hTt
      have smT := sm.trans (new_same (o := .tup [V.str (sg c), y]) hTt)
      refine ⟨Tt, _, rfl, SqT.of upd_same, rfl, _, _, rfl, _, _, rfl, rfl, rfl, ?_⟩
      refine ⟨_, rfl, _, rfl, c, y, z, rfl, lets_ok hf hc, hzy.same smT, ?_⟩
      have eb : itB c z = bs i := by
        show _ = itB _ _
        rw [getD_of hz, getD_of (show fm.cps.toList[i]? = some c by rw [Array.getElem?_toList]; exact hc)]
      rw [eb]
      refine ⟨((List.range i).map bs).map V.bl, by rw [upd_ne nDT]; exact h2, by rw [List.length_map, List.length_map, List.length_range]; exact small1000 (by omega), fun b o e => ?_, ?_, ?_⟩
      · rw [upd_ne (ne_of_none e hDH), upd_ne (ne_of_none (sm _ _ e) hTt)]
        exact sm _ _ e
      · rw [upd_ne hDq, upd_ne nqT]
        exact h1
      · rw [upd_same, range_snoc, List.map_append]
        rfl
    · rintro H1 ⟨sm, h1, h2⟩
      refine ⟨D, (List.range vs'.length).map bs, rfl, SqL.of h2, ?_⟩
      have k1 := k H1 sm
      have ea : ((List.range vs'.length).map bs).all id = (List.range xs.length).all bs := by
        rw [List.all_map, hl']
        rfl
      rw [ea]
      cases hb : (List.range xs.length).all bs with
      | false =>
        have hb' : ((List.range xs.length).all fun j => itB (fm.cps.toList.getD j 0) (xs.getD j .non)) = false := hb
        rw [hb'] at k1
        exact ⟨_, rfl, k1⟩
      | true =>
      have hb' : ((List.range xs.length).all fun j => itB (fm.cps.toList.getD j 0) (xs.getD j .non)) = true := hb
      rw [hb', Bool.true_and] at k1
      refine ⟨_, rfl, ?_⟩
      have sq1 := sqc H1 sm
      refine ⟨_, rfl, p, _, _, .str w0, rfl, rfl, sq1, atI_nat (j := 0) rfl, rfl, _, rfl, ?_⟩
      by_cases hs : w0 = ("skip" : Str)
      · obtain ⟨zs, ez⟩ := all_ints _ _ hb'
        subst ez
        have hf2 : fm = ("RMCN" : Str) := by
          subst hs
          have e0 : formOf ("skip" : Str) = some ("RMCN" : Str) := by decide +kernel
          rw [e0] at hf
          exact (Option.some.inj hf).symm
        subst hf2
        have h44 : zs.length = 4 := by
          rw [List.length_map] at hlen
          rw [hlen]
          decide +kernel
        obtain rfl := ints_of hxs
        obtain ⟨a, m, c, n, rfl⟩ := len4 h44
        rw [decide_eq_true (show V.str w0 = V.str "skip" by rw [hs])]
        refine ⟨_, rfl, p, _, _, .int c, rfl, rfl, sq1, atI_nat (j := 3) rfl, _, rfl, p, _, _, .int m, rfl, rfl, sq1, atI_nat (j := 2) rfl, _, _, rfl, rfl, ?_⟩
        rw [decide_eq_true hs] at k1
        exact k1
      · rw [decide_eq_false (show ¬ V.str w0 = V.str "skip" from fun e => hs (V.str.inj e))]
        rw [decide_eq_false hs] at k1
        exact k1
end
end My

set_option Elab.async false
set_option linter.all false
set_option maxRecDepth 100000
set_option maxHeartbeats 1000000
namespace MyR
open PySem PySem.Spec PyProof.Rows L2
/-! ### isinstance of a caught error that has fields -/
section
variable {X : Cx} {a D dd : Addr} {oe : Obj} {pn : List (Addr × Obj)} {pins : List (Addr × Obj)} {σ : L2.St} {H : Hp} {s : Shared} {fs : List (Str × V)}
theorem xd_inst (hz : Zc (.ref D) (some dd) oe) (hf : ∃ vs, oe.data = .fields vs) (I : Inv (X.suite a ((a, oe) :: pn)) pins σ H s) (hd : H dd = some (.xd fs)) : ∃ od, PySem.W.InstAt s.heap a oe D (some od) := by
  obtain ⟨ha, _⟩ := I.pin (a, oe) (List.mem_append_left _ List.mem_cons_self)
  obtain ⟨vs, hv⟩ := hf
  have hx : ObjOk X.prog X.w H s.heap dd (.xd fs) := I.hok dd _ hd
  obtain ⟨mA, hns, _⟩ := hx
  obtain ⟨od, ho, _⟩ := lookIn_ns hns
  exact ⟨od, ha, hz.1, by unfold PySem.W.notCls; rw [hv] <;> rfl, by rw [hz.2]; exact ho⟩
def clsV : V → Value
  | .ref C => .ref C
  | _ => .none
/-- isinstance(e, C), isinstance(e, (C, ..)) -/
def rIsD (K : PySem.W.Frag) (D a dd : Addr) : List V → Hp → VK → Prop := fun xs H Q => ∃ (fs : List (Str × V)) (b : Bool), H dd = some (.xd fs) ∧ Q (.bl b) H ∧
  ((∃ C : Addr, xs = [.ref a, .ref C] ∧ PySem.W.kitOne K (.ref D) (.ref C) = some b) ∨ ∃ (t : Addr) (Cs : List Addr), xs = [.ref a, .ref t] ∧ H t = some (.tup (Cs.map V.ref)) ∧ PySem.W.kitAny K (.ref D) (Cs.map Value.ref) = some b)
theorem refs_vals : ∀ {Cs : List Addr} {us : List Value}, Vals (Cs.map V.ref) us → us = Cs.map Value.ref
  | [], _, .nil => rfl
  | C :: Cs, _, .cons h t => by
    obtain rfl := (show _ = Value.ref C from h)
    rw [List.map_cons, ← refs_vals t]
theorem call_isD (C : ExcC X.K D) (hz : Zc (.ref D) (some dd) oe) (hf : ∃ vs, oe.data = .fields vs) : CallR (X.suite a ((a, oe) :: pn)) (.builtin "isinstance") (rIsD X.K D a dd) := by
  intro pins s σ H xs us Q I r h
  obtain ⟨fs, b, hd, q, h⟩ := h
  obtain ⟨od, J⟩ := xd_inst hz hf I hd
  have hcl : (PySem.W.clsIn X.K D).isSome = true := by
    have := C.hd
    unfold PySem.W.hasDictIn at this
    obtain ⟨cd, hc, _⟩ := PySem.W.any_some this
    rw [hc]
    rfl
  rcases h with ⟨E, rfl, e⟩ | ⟨t, Cs, rfl, ht, e⟩
  · cases r with
    | cons rx rr =>
    cases rr with
    | cons rt rr =>
    cases rr
    cases rx
    cases rt
    exact PySem.W.kia_one (PySem.W.kitx_exc hcl C.hg C.hk C.hs C.ha C.hn C.ht C.hm) I.kIn J e (fun z => nomatch z) fun tk => ⟨.bl b, H, I.kept (t' := tk) fun _ _ z => z, rfl, q⟩
  · cases r with
    | cons rx rr =>
    cases rr with
    | cons rt rr =>
    cases rr
    cases rx
    cases rt
    have hx : ObjOk X.prog X.w H s.heap t (.tup (Cs.map V.ref)) := I.hok t _ ht
    obtain ⟨_, its, rv, tup⟩ := hx
    obtain rfl := refs_vals rv
    obtain ⟨⟨oc, odd, odt, osl⟩, h1, h2, n, h3⟩ := tup
    dsimp only at h2 h3
    subst h2 h3
    exact PySem.W.kia_tup (PySem.W.kitx_exc hcl C.hg C.hk C.hs C.ha C.hn C.ht C.hm) I.kIn J h1 e (fun z => nomatch z) fun tk => ⟨.bl b, H, I.kept (t' := tk) fun _ _ z => z, rfl, q⟩
end
end MyR

set_option Elab.async false
set_option linter.all false
set_option maxRecDepth 100000
set_option maxHeartbeats 1000000
namespace My
open PySem L2 MyR
/-! ### the errors -/
def spInv (cI : Addr) : Sp := fun vs H Q _ => ∃ (a : Addr) (y z : V), vs = [.ref a, y, z] ∧ H a = some (exo a cI none) ∧
  ∀ (d : Addr) H', H d = none → H' a = some (exo a cI (some d)) → H' d = some (exd d [("row", z), ("word", y)]) → (∀ b o, H b = some o → b ≠ a → H' b = some o) → Q .non H'
structure ErrI (P : Program) (w : World) (K : PySem.W.Frag) (mg : Str → Option Value) (base : Heap) (cI : Addr) where
  f : Addr
  fd : FuncData
  x : OexC K cI
  i : PySem.W.findIn K (.ref cI) "__init__" = some (some (.ref f))
  t : PySem.W.typeIn K (.ref f) = some (.type "function")
  ok : FnOk P w K mg base CX0 1 f fd ["self", "word", "row"] (spInv cI)
  b : Binds K fd ["self", "word", "row"] []
  g : mg "InvalidCode" = some (.ref cI)
/-- what a code is made of: the rows, whole or not -/
def RowsOk (rs : List Rv) : Prop := rs.length ≤ 1500 ∧ ∀ r ∈ rs, r.its.length ≤ 100
def IniC (H : Hp) (p C dx t : Addr) (H' : Hp) : Prop := H' p = some (.ins C dx [("rows", .ref t)]) ∧ ∀ b o, H b = some o → b ≠ p → H' b = some o
def spCode (C cI : Addr) : Sp := fun vs H Q E => ∃ (p dx a d l : Addr) (us : List V) (rs : List Rv), vs = [.ref p, .ref a] ∧ H p = some (.ins C dx []) ∧ (H a = some (.lst us) ∨ H a = some (.tup us)) ∧ RvsAt d l H us rs ∧ RowsOk rs ∧
  (due rs = none → ∀ (t : Addr) H', IniC H p C dx t H' → H' t = some (.tup us) → Q .non H') ∧
  (∀ w i, due rs = some (w, i) → ∀ (x : Addr) H', (∀ b o, H b = some o → b ≠ p → H' b = some o) → H' x = some (.xd [("row", .int i), ("word", .str w)]) → E (.ref cI) (some x) H')
theorem good_row {d l : Addr} {H : Hp} {v : V} {r : Rv} (h : RvAt d l H v r) (g : good r = true) : ∃ (q : Rw) (p : Addr), v = .ref p ∧ RowAt H q p ∧ r = q.rv ∧ (q.w = ("skip" : Str) → ∃ a m c n : Int, q.xs = [a, m, c, n] ∧ c < m) := by
  obtain ⟨w, f, zs, rfl, hf, hl, hs⟩ := good_form g
  obtain ⟨p, us, rfl, hp, hal⟩ := h
  refine ⟨⟨w, zs⟩, p, rfl, ?_, rfl, hs⟩
  cases hal with
  | cons h0 h1 =>
    obtain ⟨rfl, _⟩ := h0
    obtain rfl := ints_of h1
    exact hp
theorem over_row (q : Rw) (left a m c n : Int) (h : q.w = ("skip" : Str)) (hx : q.xs = [a, m, c, n]) : over q.rv left = decide (left < n) := by
  obtain ⟨w, xs⟩ := q
  subst hx
  show (decide (w = ("skip" : Str)) && decide (left < n)) = _
  rw [decide_eq_true h, Bool.true_and]
theorem over_not (q : Rw) (left : Int) (h : ¬ q.w = ("skip" : Str)) : over q.rv left = false := by
  obtain ⟨w, xs⟩ := q
  unfold over Rw.rv
  split
  · rename_i s _ _ _ n e
    have := (List.cons.inj (Rv.tup.inj e)).1
    have := It.str.inj this
    rw [decide_eq_false (by rw [← this]; exact h)]
    rfl
  · rfl
section
variable {P : Program} {w : World} {K : PySem.W.Frag} {mg : Str → Option Value} {base : Heap}
abbrev s_InvalidCode_init : Stmt := inClass (top 3) 0
abbrev N_InvalidCode_init : List Str := ["self", "word", "row"]
theorem sc_InvalidCode_init : FnScope N_InvalidCode_init ["self", "word", "row"] (defScope s_InvalidCode_init) := ⟨rfl, rfl, rfl, by decide +kernel, rfl, by decide +kernel, by decide +kernel⟩
theorem ok_InvalidCode_init {f cI : Addr} {fd : FuncData} (F : Fun K "__init__" "InvalidCode.__init__" s_InvalidCode_init f fd) (x : OexC K cI) (n1 : PySem.W.findIn K (.ref cI) "word" = some none) (n2 : PySem.W.findIn K (.ref cI) "row" = some none) : FnOk P w K mg base CX0 1 f fd ["self", "word", "row"] (spInv cI) := by
  refine F.ok sc_InvalidCode_init (fun vs H Q E h => ?_) (fun cdv A outer s H vs Q E hr h => ?_)
  · obtain ⟨a, y, z, rfl, _⟩ := h
    rfl
  · obtain ⟨a, y, z, rfl, ha, k⟩ := h
    refine ⟨_, (pss_cons (ps_ost (pv 0) (pv 1))
    (pss_one (ps_ost (pv 0) (pv 2)))), ?_⟩
    refine ⟨_, rfl, _, rfl, a, cI, rfl, x, n1, .inl ⟨ha, fun dx hdx hne => ?_⟩⟩
    refine ⟨_, rfl, _, rfl, a, cI, rfl, x, n2, .inr ⟨dx, _, upd_same, by rw [upd_ne hne]; exact upd_same, (by show 1 ≤ 900; decide), ?_⟩⟩
    refine k dx _ hdx (by rw [upd_ne (Ne.symm hne)]; exact upd_same) upd_same fun b o e hb => ?_
    have nb := ne_of_none e hdx
    rw [upd_ne nb, upd_ne hb, upd_ne nb]
    exact e
abbrev s_Code_init : Stmt := inClass (top 22) 0
abbrev N_Code_init : List Str := ["self", "rows", "at", "row"]
theorem sc_Code_init : FnScope N_Code_init ["self", "rows"] (defScope s_Code_init) := ⟨rfl, rfl, rfl, by decide +kernel, rfl, by decide +kernel, by decide +kernel⟩
theorem ok_Code_init {f C cI : Addr} {fd : FuncData} (F : Fun K "__init__" "Code.__init__" s_Code_init f fd) (T : Glob mg) (T2 : Tabs w K mg) (cl : Cls K C) (n1 : NoAttr K C "rows") (EI : ErrI P w K mg base cI) (D_is_row : Df P w K mg base 4 "is_row" ["row"] spRow) : FnOk P w K mg base (L2.CX P w) 5 f fd ["self", "rows"] (spCode C cI) := by
  obtain ⟨tR, hMR⟩ := T2.rows
  refine F.okX sc_Code_init (fun vs H Q E h => ?_) (fun cdv A outer s H vs Q E hr h => ?_)
  · obtain ⟨p, dx, a, d, l, us, rs, rfl, _⟩ := h
    rfl
  · obtain ⟨p, dx, a, d, l, us, rs, rfl, hp, ha, hrs, hok, k, kE⟩ := h
    have nd := sc_Code_init.nd
    have hu := hu_of hr
    refine ⟨_, (pss_cons (ps_if (pt_cmpR op_gt (pe_callB call_len_seq (by rfl) T.g_len PySem.boot_len (pa_cons (pv 1) pa_nil)) (pe_glob (v := .int 1000) rfl hMR ⟨_, rfl⟩) (nomark _))
    (pss_one (ps_raise rfl (takes_of rfl rfl rfl rfl) (pmk_oex EI.x EI.i EI.t EI.ok (hr.mono (by decide)) EI.b .nil pass0 (by rfl) EI.g (pa_cons pe_str (pa_cons (pe_un un_neg pe_int) pa_nil)))))
    pss_nil)
    (pss_cons (ps_fld (pv 0) (pe_callTy call_tuple_of (by rfl) T.g_tuple (by decide +kernel) (pa_cons (pv 1) pa_nil)) rfl)
    (pss_one (ps_for (passes_of rfl) rfl (pi_enumT (by rfl) T.g_enumerate (pa_cons (pe_fld (pv 0) rfl) pa_nil)) (pg_tup (by rfl) (pgs_cons (pg_name (i := 2) nd rfl (Or.inl rfl)) (pgs_cons (pg_name (i := 3) nd rfl (Or.inl rfl)) pgs_nil)))
    (pss_cons (ps_if (pt_not (pt_val (pe_call D_is_row.ok (hr.mono (by decide)) (by rfl) D_is_row.g D_is_row.kp D_is_row.b .nil pass0 (pa_cons (pv 3) pa_nil))))
    (pss_one (ps_raise rfl (takes_of rfl rfl rfl rfl) (pmk_oex EI.x EI.i EI.t EI.ok (hr.mono (by decide)) EI.b .nil pass0 (by rfl) EI.g (pa_cons pe_str (pa_cons (pv 2) pa_nil)))))
    pss_nil)
    (pss_one (ps_if (PW.pt (pw_and (pt_cmpR op_eq (pe_ix ix_tup (pv 3) pe_int (fun _ _ => rfl)) pe_str (nomark _)) (pw_and1 (pt_cmpR op_gt (pe_op op_add (pe_op op_add (pv 2) pe_int) (pe_ix ix_tup (pv 3) pe_int (fun _ _ => rfl))) (pe_callB call_len_seq (by rfl) T.g_len PySem.boot_len (pa_cons (pe_fld (pv 0) rfl) pa_nil)) (nomark _)))))
    (pss_one (ps_raise rfl (takes_of rfl rfl rfl rfl) (pmk_oex EI.x EI.i EI.t EI.ok (hr.mono (by decide)) EI.b .nil pass0 (by rfl) EI.g (pa_cons pe_str (pa_cons (pv 2) pa_nil)))))
    pss_nil))))))), ?_⟩
    have hrl : us.length = rs.length := hrs.len
    have hsq : SqL K H a us ∨ SqT K H a us := by
      rcases ha with h | h
      · exact .inl (SqL.of h)
      · exact .inr (SqT.of h)
    -- an error that is raised
    have bad : ∀ (H1 : Hp) (w : Str) (i : Int), due rs = some (w, i) → (∀ b o, H b = some o → b ≠ p → H1 b = some o) → ∀ x, H1 x = none → spInv cI [.ref x, .str w, .int i] (upd H1 x (exo x cI none))
        (fun v H2 => v = .non ∧ ∃ (d : Addr) (fs : List (Str × V)), H2 x = some (exo x cI (some d)) ∧ H2 d = some (exd d fs) ∧ H1 d = none ∧ E (.ref cI) (some d) (upd (del H2 x) d (.xd fs))) (fun _ _ _ => False) := by
      intro H1 w i hdue sm x hx
      refine ⟨x, _, _, rfl, upd_same, fun d2 H2 hd2 e1 e2 keep => ⟨rfl, d2, _, e1, e2, ?_, ?_⟩⟩
      · by_cases e : d2 = x
        · rw [e]; exact hx
        · rw [upd_ne e] at hd2; exact hd2
      · refine kE w i hdue d2 _ (fun b o e hb => ?_) upd_same
        have e1' := sm b o e hb
        have nbx := ne_of_none e1' hx
        have hd2' : H1 d2 = none := by
          by_cases e : d2 = x
          · rw [e]; exact hx
          · rw [upd_ne e] at hd2; exact hd2
        have nbd := ne_of_none e1' hd2'
        rw [upd_ne nbd, del_ne nbx]
        exact keep b o (by rw [upd_ne nbx]; exact e1') nbx
    refine seq_by (fun σ H1 => σ = [some (.ref p), some (.ref a), none, none] ∧ H = H1 ∧ rs.length ≤ 1000) (fun D' hD' => ?_) ?_
    · refine ⟨_, rfl, a, _, rfl, hsq, _, _, rfl, rfl, _, rfl, ?_⟩
      refine ite2 (fun h0 => ?_) (fun h0 => hD' _ _ ⟨rfl, rfl, ?_⟩)
      · have h0 := of_decide_eq_true h0
        have hd : due rs = some (("count" : Str), (-1 : Int)) := if_pos (by omega)
        exact ⟨_, rfl, (by show 2 ≤ 1000; decide), fun x hx => bad H _ _ hd (fun b o e _ => e) x hx⟩
      · by_cases e : rs.length ≤ 1000
        · exact e
        · exact absurd (decide_eq_true (by omega)) h0
    rintro σ0 H0 ⟨rfl, rfl, hl1000⟩
    have hdueG : due rs = dueG (rs.length : Int) 0 rs := if_neg (by omega)
    refine seq_by (fun σ H1 => ∃ t, σ = [some (.ref p), some (.ref a), none, none] ∧ IniC H p C dx t H1 ∧ H1 t = some (.tup us)) (fun D' hD' => ?_) ?_
    · have fin : ∀ (t : Addr) (H1 : Hp), Same H H1 → H1 t = some (.tup us) → t ≠ p → D'.nx [some (.ref p), some (.ref a), none, none] (upd H1 p (.ins C dx [("rows", .ref t)])) := fun t H1 sm h2 ne => by
        exact hD' _ _ ⟨t, rfl, ⟨upd_same, fun b o e hb => by rw [upd_ne hb]; exact sm b o e⟩, by rw [upd_ne ne]; exact h2⟩
      rcases ha with ha | ha
      · refine ⟨_, rfl, a, _, rfl, .inl ⟨SqL.of ha, fun t ht => ?_⟩⟩
        have np : p ≠ t := ne_of_none hp ht
        refine ⟨_, rfl, p, C, dx, _, rfl, by rw [upd_ne np]; exact hp, cl, n1, (by show 0 < 1000; decide), ?_⟩
        exact fin t _ (new_same ht) upd_same (Ne.symm np)
      · refine ⟨_, rfl, a, _, rfl, .inr ⟨SqT.of ha, ?_⟩⟩
        refine ⟨_, rfl, p, C, dx, _, rfl, hp, cl, n1, (by show 0 < 1000; decide), ?_⟩
        exact fin a H (Same.refl H) ha (ne_of ha hp (by intro z; cases z))
    · rintro σ H1 ⟨t, rfl, ini, ht⟩
      refine ⟨_, rfl, p, C, dx, _, _, rfl, ini.1, cl, n1, rfl, t, _, rfl, SqT.of ht, ?_⟩
      -- the rows stand as they stood, the new object aside
      have rv1 : ∀ {v : V} {r : Rv} {H2 : Hp}, Same H1 H2 → RvAt d l H v r → RvAt d l H2 v r := fun {v r H2} sm h => by
        have put : ∀ (q : Addr) (o : HO), H q = some o → (o ≠ .ins C dx []) → H2 q = some o := fun q o e ne => sm _ _ (ini.2 q o e (fun z => by subst z; rw [hp] at e; exact ne (Option.some.inj e).symm))
        have iti : ∀ {v : V} {x : It}, ItAt H v x → ItAt H2 v x := fun {v x} h => by
          cases x with
          | emp => obtain ⟨q, e, z⟩ := h; exact ⟨q, e, put _ _ z (by intro z; cases z)⟩
          | int z => exact h
          | bl b => exact h
          | non => exact h
          | str z => exact h
        cases r with
        | it i => exact iti h
        | tup xs => obtain ⟨q, vs, e, z, al⟩ := h; exact ⟨q, vs, e, put _ _ z (by intro z; cases z), al.mono fun _ _ => iti⟩
        | lst xs => obtain ⟨q, vs, e, m1, m2, z, al⟩ := h; exact ⟨q, vs, e, m1, m2, put _ _ z (by intro z; cases z), al.mono fun _ _ => iti⟩
      refine for_it walk_enumT (fun i σ H2 => ∃ b c : Option V, σ = [some (.ref p), some (.ref a), b, c] ∧ Same H1 H2 ∧ due rs = dueG (rs.length : Int) i (rs.drop i)) ⟨none, none, rfl, Same.refl _, hdueG⟩ (fun i σ H2 _ ⟨_, _, _, sm, _⟩ => SqT.of (sm _ _ ht)) ?_ ?_
      · rintro i x σ H2 H3 hi ⟨b, c, rfl, sm, hdue⟩ ⟨Tt, y, z, rfl, hT, rfl, hy, hz⟩
        have ey := Option.some.inj hy
        subst ey
        have hil : i < rs.length := by rw [← hrl]; exact hi
        have hdr : rs.drop i = rs[i] :: rs.drop (i + 1) := List.drop_eq_getElem_cons hil
        rw [hdr] at hdue
        obtain ⟨r, hr0, hat⟩ := hrs.getL (show us[i]? = some z from hz)
        have er : r = rs[i] := by
          rw [List.getElem?_eq_getElem hil] at hr0
          exact (Option.some.inj hr0).symm
        subst er
        have sm3 : Same H1 (upd H2 Tt (.tup [.int (i : Nat), z])) := sm.trans (new_same hT)
        refine ⟨Tt, _, rfl, SqT.of upd_same, rfl, _, _, rfl, _, _, rfl, rfl, ?_⟩
        refine ⟨_, rfl, d, l, z, rs[i], rfl, rv1 sm3 hat, hok.2 _ (List.getElem_mem hil), fun H4 sm4 => ?_⟩
        have sm14 := sm3.trans sm4
        have gone : ∀ b o, H b = some o → b ≠ p → H4 b = some o := fun b o e hb => sm14 _ _ (ini.2 b o e hb)
        refine ⟨_, rfl, ?_⟩
        cases hg : good rs[i] with
        | false =>
          refine iteT ?_
          have hd : due rs = some (("row" : Str), (i : Int)) := by
            rw [hdue]
            show (if good rs[i] = true then _ else _) = _
            rw [hg, if_neg Bool.false_ne_true]
          exact ⟨_, rfl, (by show 2 ≤ 1000; decide), fun x hx => bad H4 _ _ hd gone x hx⟩
        | true =>
        refine iteF ?_
        obtain ⟨q, pq, rfl, hq, eq, hskip⟩ := good_row (rv1 sm14 hat) hg
        have next : over rs[i] ((rs.length : Int) - 1 - (i : Int)) = false → due rs = dueG (rs.length : Int) (i + 1) (rs.drop (i + 1)) := fun ho => by
          rw [hdue]
          show (if good rs[i] = true then (if over rs[i] _ = true then _ else _) else _) = _
          rw [hg, if_pos rfl, ho, if_neg Bool.false_ne_true]
        refine ⟨_, rfl, pq, _, _, .str q.w, rfl, rfl, SqT.of hq, atI_nat (j := 0) rfl, rfl, _, rfl, ?_⟩
        refine ite2 (fun hs => ?_) (fun hs => ?_)
        · have hs := V.str.inj (of_decide_eq_true hs)
          obtain ⟨a1, m, c1, n, ex, hn⟩ := hskip hs
          have evs : q.vs = [.str q.w, .int a1, .int m, .int c1, .int n] := by unfold Rw.vs; rw [ex]; rfl
          have sq4 : SqT K H4 pq q.vs := SqT.of hq
          rw [evs] at sq4
          have hp4 : H4 p = some (.ins C dx [("rows", .ref t)]) := sm14 _ _ ini.1
          have ho := over_row q ((rs.length : Int) - 1 - (i : Int)) a1 m c1 n hs ex
          rw [← eq] at ho
          refine ⟨_, rfl, _, _, rfl, rfl, _, rfl, pq, _, _, .int n, rfl, rfl, sq4, atI_nat (j := 4) rfl, _, _, rfl, rfl, ?_⟩
          refine ⟨_, rfl, p, C, dx, _, _, rfl, hp4, cl, n1, rfl, t, _, rfl, .inr (SqT.of (sm14 _ _ ht)), _, _, rfl, rfl, _, rfl, ?_⟩
          refine ite2 (fun h0 => ?_) (fun h0 => ?_)
          · have h0 := of_decide_eq_true h0
            rw [hrl] at h0
            have hd : due rs = some (("skip" : Str), (i : Int)) := by
              rw [hdue]
              show (if good rs[i] = true then (if over rs[i] _ = true then _ else _) else _) = _
              rw [hg, if_pos rfl, ho, if_pos (decide_eq_true (by omega))]
            exact ⟨_, rfl, (by show 2 ≤ 1000; decide), fun x hx => bad H4 _ _ hd gone x hx⟩
          · refine ⟨_, _, rfl, sm14, next ?_⟩
            rw [ho]
            refine decide_eq_false fun z => h0 (decide_eq_true ?_)
            rw [hrl]
            omega
        · refine iteF ?_
          refine ⟨_, _, rfl, sm14, next ?_⟩
          rw [eq]
          exact over_not q _ (fun e => hs (decide_eq_true (by rw [e])))
      · rintro σ H2 ⟨b, c, rfl, sm, hdue⟩
        rw [hrl, List.drop_length] at hdue
        exact k hdue t H2 ⟨sm _ _ ini.1, fun b o e hb => sm _ _ (ini.2 b o e hb)⟩ (sm _ _ ht)
end
end My

set_option Elab.async false
set_option linter.all false
set_option maxRecDepth 100000
set_option maxHeartbeats 1000000
namespace MyR
open PySem PySem.Spec PyProof.Rows L2
/-! ### C(e, ..) where C may raise; suites by a weaker reading -/
def tMakeS (C : Addr) (sp : Sp) (E : L2.St → XK) (t : TA) : TE := fun σ H Q => t σ H fun vs H1 => ∀ x dx, H1 x = none → H1 dx = none → dx ≠ x →
  sp (.ref x :: vs) (upd (upd H1 dx (.own x)) x (.ins C dx [])) (fun v H2 => v = .non ∧ Q (.ref x) H2) (E σ)
section
variable {X : Cx} {CX : CXT} {k : Nat} {f C : Addr} {fd : FuncData} {ps : List Str} {sp : Sp} {E : L2.St → XK} {x : Str} {p pos : Pos} {e : Expr} {es : List Expr} {t : TA}
theorem run_makeS {pins : List (Addr × Obj)} {σ : L2.St} {H : Hp} {s : Shared} {Q : VK} {us : List Value} {vs : List V} (M : Mk X.K C f) (F : FnOk X.prog X.w X.K X.mg X.base CX k f fd ps sp) (hr : Room (k + 1) X.A) (hb : Binds X.K fd ps [])
    (hx : PassesAt CX X σ (E σ)) (I : Inv X pins σ H s) (r : Vals vs us)
    (h : ∀ x dx, H x = none → H dx = none → dx ≠ x → sp (.ref x :: vs) (upd (upd H dx (.own x)) x (.ins C dx [])) (fun v H2 => v = .non ∧ Q (.ref x) H2) (E σ)) :
    wpAny (model X.prog X.w) X.A (call (.ref C) us) (EP X pins σ Q) X.xe s := by
  have hq := h (s.heap.objs.size + 1) s.heap.objs.size (I.hok.fresh (Nat.le_succ _)) (I.hok.fresh (Nat.le_refl _)) (Nat.ne_of_lt (Nat.lt_succ_self _))
  have I2 := Inv.made (C := C) I
  have r2 : Vals (V.ref (s.heap.objs.size + 1) :: vs) (Value.ref (s.heap.objs.size + 1) :: us) := .cons rfl r
  have hl : (Value.ref (s.heap.objs.size + 1) :: us).length = ps.length := by
    have e := r2.length
    rw [F.len _ _ _ _ hq] at e
    exact e.symm
  have b := hb _ (Value.ref (s.heap.objs.size + 1) :: us) I2.kIn (by rw [List.append_nil]; exact hl)
  rw [List.append_nil] at b
  refine wpAny_call (make_map (f := f) I.kIn M.makes M.init (beq_iff_eq.mp M.fn) (codeAny_mono (F.run _ X.stack _ _ ⟨Value.ref (s.heap.objs.size + 1) :: us, []⟩ (Value.ref (s.heap.objs.size + 1) :: us) _ _ (E σ) (hr.make C us [])
    (I2.env0.make C us []) b r2 hq) fun r s' hq' => ?_))
  cases r with
  | error e => exact hx pins _ _ e s' I2 hq'
  | ok fl =>
    cases fl with
    | ret u =>
      obtain ⟨v, H', I3, rv, ev, q3⟩ := I2.after hq'
      subst ev
      exact ⟨rv, ⟨V.ref (s.heap.objs.size + 1), H', I3, rfl, q3⟩⟩
    | next => exact False.elim hq'
    | brk => exact False.elim hq'
    | cont => exact False.elim hq'
theorem pe_makeS (M : Mk X.K C f) (F : FnOk X.prog X.w X.K X.mg X.base CX k f fd ps sp) (hr : Room (k + 1) X.A) (hg : Gl X x) (hm : X.mg x = some (.ref C)) (hb : Binds X.K fd ps []) (hx : ∀ σ, PassesAt CX X σ (E σ))
    (ha : PA X (e :: es) t) (hdb : (x == ("__debug__" : Str)) = false := by decide) (he : starEach (e :: es) X.env = (false, eval e X.env) :: starEach es X.env := by rfl) (hpl : (backTo pos (starEach es X.env)).any (·.1) = false := by rfl) :
    PE X (.Call (.Name x p) (e :: es) [] pos) (tMakeS C sp E t) := by
  refine ⟨fun pins s σ H Q I h => ?_⟩
  refine wpAny_Call_Name_kw (ld_glob I hg hm ?_ hdb)
  refine PySem.W.callWith_K (h₀ := X.base) I.ok.mod.kin M.kp (thn (ha.run pos pins s σ H _ I h) fun us s1 ⟨vs, H1, I1, r, q⟩ => ⟨I1.kIn, ?_⟩) he hpl
  exact run_makeS M F hr hb (hx σ) I1 r q
theorem pss_when {ss : List Stmt} {p : Prop} {ts : TS} (h : p → PSs X ss ts) : PSs X ss (fun D σ H => p ∧ ts D σ H) := ⟨fun pins s σ H D I q => (h q.1).run pins s σ H D I q.2⟩
end
theorem pss_weak {X : Cx} {ss : List Stmt} {t u : TS} (h : PSs X ss t) (f : ∀ D σ H, u D σ H → t D σ H) : PSs X ss u := ⟨fun pins s σ H D I q => h.run pins s σ H D I (f D σ H q)⟩
end MyR

set_option Elab.async false
set_option linter.all false
set_option maxRecDepth 100000
set_option maxHeartbeats 1000000
namespace My
open PySem L2 MyR TL NumText
/-! ### numbers written in digits -/
def digB (c : Nat) : Bool := decide (48 ≤ c) && decide (c ≤ 57)
/-- digits that are a number: one to twenty, no zero ahead -/
def numB (l : List Nat) : Bool := decide (1 ≤ l.length) && decide (l.length ≤ 20) && !(decide (l.head? = some 48) && !decide (l = [48])) && l.all digB
def numV (l : List Nat) : Option Int := if numB l = true then some ((digitsVal l : Nat) : Int) else none
def optV : Option Int → V
  | none => .non
  | some z => .int z
theorem all_digits {l : List Nat} (h : l.all digB = true) : AllDigits l := fun c hc => by
  have := List.all_eq_true.mp h c hc
  obtain ⟨h1, h2⟩ := Bool.and_eq_true_iff.mp this
  exact ⟨of_decide_eq_true h1, of_decide_eq_true h2⟩
theorem lt_sign (a b : Nat) : decide (([a] : List Nat) < [b]) = decide (a < b) := decide_eq_decide.mpr ⟨fun h => by
  rcases List.cons_lt_cons_iff.mp h with q | ⟨_, q⟩
  · exact q
  · exact absurd q (List.not_lt_nil _), fun h => List.cons_lt_cons_iff.mpr (.inl h)⟩
theorem le_0 (c : Nat) : (!decide ((sg c).cps.toList < (Str.ofString "0").cps.toList)) = decide (48 ≤ c) := by
  rw [show (Str.ofString "0").cps.toList = [48] from by decide +kernel, show (sg c).cps.toList = [c] from rfl, lt_sign]
  by_cases h : c < 48
  · rw [decide_eq_true h, decide_eq_false (by omega)]; rfl
  · rw [decide_eq_false h, decide_eq_true (by omega)]; rfl
theorem le_9 (c : Nat) : (!decide ((Str.ofString "9").cps.toList < (sg c).cps.toList)) = decide (c ≤ 57) := by
  rw [show (Str.ofString "9").cps.toList = [57] from by decide +kernel, show (sg c).cps.toList = [c] from rfl, lt_sign]
  by_cases h : 57 < c
  · rw [decide_eq_true h, decide_eq_false (by omega)]; rfl
  · rw [decide_eq_false h, decide_eq_true (by omega)]; rfl
/-- a text begins with this sign -/
theorem starts_sign (w : Str) (c : Nat) : Txt.startswith w (sg c) = decide ((tl w).head? = some c) := by
  unfold Txt.startswith Builtin.Str.subAt
  have e1 : (sg c).length = 1 := rfl
  rw [e1, Nat.zero_add]
  have hx : (w.cps.extract 0 1 == (sg c).cps) = decide (w.cps.toList.take 1 = [c]) := by
    rw [Bool.eq_iff_iff, beq_iff_eq, decide_eq_true_iff]
    constructor
    · intro h
      have := congrArg Array.toList h
      rw [Array.toList_extract] at this
      simpa [sg] using this
    · intro h
      apply Array.toList_inj.mp
      rw [Array.toList_extract]
      simpa [sg] using h
  rw [hx, len_tl w]
  show (decide (1 ≤ (tl w).length) && decide ((tl w).take 1 = [c])) = _
  cases tl w with
  | nil => rfl
  | cons a l =>
    have : decide (1 ≤ (a :: l).length) = true := decide_eq_true (by simp)
    rw [this, Bool.true_and]
    exact decide_eq_decide.mpr ⟨fun h => by simpa using h, fun h => by simpa using h⟩
theorem sg_0 : ("0" : Str) = sg 48 := by decide +kernel
theorem str_sg (w : Str) (c : Nat) : decide (V.str w = V.str (sg c)) = decide (tl w = [c]) := decide_eq_decide.mpr ⟨fun h => by rw [V.str.inj h]; rfl, fun h => congrArg V.str (ext_tl (by rw [h]; rfl))⟩
/-- as seq_by, where what is returned counts too -/
theorem seq_rt {t u : TS} {D : Ends} {σ : St} {H : Hp} (Pv : St → Hp → Prop) (h1 : ∀ nx', (∀ σ H, Pv σ H → nx' σ H) → t { D with nx := nx' } σ H) (h2 : ∀ σ H, Pv σ H → u D σ H) : tSeq t u D σ H := h1 (u D) h2
def spDigits : Sp := fun vs H Q _ => ∃ w : Str, vs = [.str w] ∧ w.length ≤ 50000 ∧ ∀ H', Same H H' → Q (optV (numV (tl w))) H'
section
variable {P : Program} {w : World} {K : PySem.W.Frag} {mg : Str → Option Value} {base : Heap}
abbrev s_digits_value : Stmt := top 10
abbrev N_digits_value : List Str := ["word", "letter"]
theorem sc_digits_value : FnScope N_digits_value ["word"] (defScope s_digits_value) := ⟨rfl, rfl, rfl, by decide +kernel, rfl, by decide +kernel, by decide +kernel⟩
theorem ok_digits_value {f : Addr} {fd : FuncData} (F : Fun K "digits_value" "digits_value" s_digits_value f fd) (T : Glob mg) (tD : Tok) (hMD : mg "MOST_DIGITS" = some (.int 20 tD)) : FnOk P w K mg base CX0 1 f fd ["word"] spDigits := by
  refine F.ok sc_digits_value (fun vs H Q E h => ?_) (fun cdv A outer s H vs Q E hr h => ?_)
  · obtain ⟨w, rfl, _⟩ := h
    rfl
  · obtain ⟨w, rfl, hl, k⟩ := h
    have nd := sc_digits_value.nd
    have hu := hu_of hr
    refine ⟨_, (pss_cons (ps_if (PW.pt (pw_or (pt_not (pt_chain op_le op_le pe_int (pe_callB call_len_str (by rfl) T.g_len PySem.boot_len (pa_cons (pv 0) pa_nil)) (pe_glob (v := .int 20) rfl hMD ⟨_, rfl⟩))) (pw_or1 (PW.pt (pw_and (pt_val (pe_m1 PySem.F.slot_str_startswith PySem.F.type_str_startswith mt_startswith (pv 0) pe_str)) (pw_and1 (pt_cmpR op_ne (pv 0) pe_str (nomark _))))))))
    (pss_one (ps_ret pe_non))
    pss_nil)
    (pss_cons (ps_if (pt_not (pt_val (pe_callB (cr_all rfl) (by rfl) T.g_all (by decide +kernel) (pa_cons (pe_lc (own := [("letter", 1)]) (g := gName 1) (tt := tYes) rfl nd (pi_str (pv 0)) (blkOk_by (N := N_digits_value) (sc := defScope s_digits_value) (by decide +kernel)) (fun _ _ _ _ _ => pg_name (i := 1) nd rfl (Or.inl rfl)) (fun _ _ _ _ _ => pts_nil) (fun _ _ _ _ _ => (pe_chain op_le_str op_le_str pe_str (pv 1) pe_str))) pa_nil))))
    (pss_one (ps_ret pe_non))
    pss_nil)
    (pss_one (ps_ret (pe_callTy call_int_str (by rfl) T.g_int (by decide +kernel) (pa_cons (pv 0) pa_nil)))))), ?_⟩
    have hlen : w.length = (tl w).length := len_tl w
    have hls : w.length ≤ sizeLine := Nat.le_trans hl (by decide +kernel)
    have no : ∀ H', Same H H' → numB (tl w) = false → Q .non H' := fun H' s e => by
      have q := k H' s
      unfold numV at q
      rw [e, if_neg Bool.false_ne_true] at q
      exact q
    have hnb : numB (tl w) = (decide (1 ≤ (tl w).length) && decide ((tl w).length ≤ 20) && !(decide ((tl w).head? = some 48) && !decide (tl w = [48])) && (tl w).all digB) := rfl
    have hin : ∀ b : Bool, (decide ((tl w).head? = some 48) && !decide (tl w = [48])) = false → 1 ≤ (tl w).length → (tl w).length ≤ 20 → numB (tl w) = (tl w).all digB := fun _ h0 h1 h20 => by
      rw [hnb, h0, decide_eq_true h1, decide_eq_true h20]
      rfl
    refine seq_rt (fun σ H' => σ = [some (.str w), none] ∧ H' = H ∧ 1 ≤ (tl w).length ∧ (tl w).length ≤ 20 ∧ (decide ((tl w).head? = some 48) && !decide (tl w = [48])) = false) (fun nx' hn => ?_) ?_
    · refine ⟨_, rfl, w, rfl, hls, _, _, rfl, rfl, _, rfl, ?_⟩
      refine ite2 (fun h1 => ?_) (fun h1 => ?_)
      case refine_2 =>
        refine ⟨_, rfl, no H (Same.refl H) ?_⟩
        have h1 := of_decide_eq_false (Bool.eq_false_iff.mpr h1)
        rw [hnb, decide_eq_false (show ¬ 1 ≤ (tl w).length by omega)]
        rfl
      have h1' := of_decide_eq_true h1
      refine ⟨_, _, rfl, rfl, _, rfl, ?_⟩
      by_cases h20 : (w.length : Int) ≤ 20
      case neg =>
        rw [decide_eq_false h20]
        refine no H (Same.refl H) ?_
        rw [hnb, decide_eq_false (show ¬ (tl w).length ≤ 20 by omega)]
        cases decide (1 ≤ (tl w).length) <;> rfl
      rw [decide_eq_true h20]
      refine ⟨_, rfl, ?_⟩
      refine ⟨⟨_, rfl⟩, w, ("0" : Str), rfl, rfl, _, rfl, ?_⟩
      rw [sg_0, starts_sign]
      refine ite2 (fun hz => ?_) (fun hz => ?_)
      · refine ⟨_, rfl, rfl, _, rfl, ?_⟩
        rw [str_sg]
        refine ite2 (fun h0 => ?_) (fun h0 => ?_)
        · refine no H (Same.refl H) ?_
          rw [hnb, hz, h0]
          cases decide (1 ≤ (tl w).length) <;> cases decide ((tl w).length ≤ 20) <;> rfl
        · exact hn _ _ ⟨rfl, rfl, by omega, by omega, by rw [Bool.eq_false_iff.mpr h0, Bool.and_false]⟩
      · exact hn _ _ ⟨rfl, rfl, by omega, by omega, by rw [Bool.eq_false_iff.mpr hz, Bool.false_and]⟩
    rintro σ H' ⟨rfl, rfl, h1, h20, hz⟩
    have hB := hin true hz h1 h20
    refine seq_rt (fun σ H1 => σ = [some (.str w), none] ∧ Same H' H1 ∧ (tl w).all digB = true) (fun nx' hn => ?_) ?_
    · refine ⟨_, rfl, w, rfl, fun D hD => ?_⟩
      refine lc_it walk_str (fun i H1 => Same H' H1 ∧ H1 D = some (.lst (((tl w).take i).map fun c => V.bl (digB c)))) ⟨new_same hD, upd_same⟩ (fun _ _ _ _ => trivial) ?_ ?_
      · rintro i x H1 H2 hi ⟨sm, h2⟩ ⟨rfl, c, hc, rfl⟩
        refine ⟨rfl, ?_⟩
        have hc2 : (tl w)[i]? = some c := by rw [Array.getElem?_toList]; exact hc
        have fin : ∀ (b : Bool), b = digB c → ∃ acc, H2 D = some (.lst acc) ∧ acc.length < sizeLine ∧ (Same H' (upd H2 D (.lst (acc ++ [.bl b]))) ∧ (upd H2 D (.lst (acc ++ [.bl b]))) D = some (.lst (((tl w).take (i + 1)).map fun c => V.bl (digB c)))) := fun b hb => by
          subst hb
          refine ⟨_, h2, by rw [List.length_map, List.length_take]; exact small1000 (by omega), fun a o e => ?_, ?_⟩
          · rw [upd_ne (ne_of_none e hD)]; exact sm a o e
          · rw [upd_same, List.take_add_one, hc2, List.map_append]
            rfl
        refine ⟨_, rfl, "0", sg c, rfl, rfl, _, rfl, ?_⟩
        refine ite2 (fun ha => ?_) (fun ha => ?_)
        · refine ⟨sg c, "9", rfl, rfl, fin _ ?_⟩
          rw [le_9]
          rw [le_0] at ha
          unfold digB
          rw [ha, Bool.true_and]
        · refine fin _ ?_
          rw [le_0] at ha
          unfold digB
          rw [Bool.eq_false_iff.mpr ha, Bool.false_and]
      · rintro H1 ⟨sm, h2⟩
        have hl : (tl w).take w.cps.size = tl w := List.take_of_length_le (by rw [Array.length_toList]; exact Nat.le_refl _)
        rw [hl] at h2
        refine ⟨D, (tl w).map digB, rfl, SqL.of (by rw [List.map_map]; exact h2), ?_⟩
        have e5 : ((tl w).map digB).all id = (tl w).all digB := by rw [List.all_map]; rfl
        rw [e5]
        cases hd : (tl w).all digB with
        | false => exact ⟨_, rfl, no H1 sm (by rw [hB, hd])⟩
        | true => exact ⟨_, rfl, hn _ _ ⟨rfl, sm, hd⟩⟩
    rintro σ H1 ⟨rfl, sm, hd⟩
    have hne : tl w ≠ [] := by intro e; rw [e] at h1; simp at h1
    refine ⟨_, rfl, w, _, rfl, intText_digits (all_digits hd) hne (by omega), by omega, ?_⟩
    have q := k H1 sm
    unfold numV at q
    rw [hB, hd, if_pos rfl] at q
    exact q
end
end My

set_option Elab.async false
set_option linter.all false
set_option maxRecDepth 100000
set_option maxHeartbeats 1000000
namespace My
open PySem L2 MyR TL NumText
/-- a number with a sign, if it has one; no sign before a nought -/
def sgV (l : List Nat) : Option Int := if l.head? = some 45 then (match numV (l.drop 1) with | some z => if z = 0 then none else some (-z) | none => none) else numV l
def spSigned : Sp := fun vs H Q _ => ∃ w : Str, vs = [.str w] ∧ w.length ≤ 50000 ∧ ∀ H', Same H H' → Q (optV (sgV (tl w))) H'
theorem tl_cut1 (w : Str) : tl (cutS w (some 1) none) = (tl w).drop 1 := by
  unfold cutS
  rw [len_tl w, show ((1 : Int)) = ((1 : Nat) : Int) from rfl, HT.sIx_nat]
  show (((tl w).drop (min 1 (tl w).length)).take ((tl w).length - min 1 (tl w).length)) = (tl w).drop 1
  rw [List.take_of_length_le (by rw [List.length_drop]; omega)]
  by_cases h : 1 ≤ (tl w).length
  · rw [Nat.min_eq_left h]
  · rw [Nat.min_eq_right (by omega), List.drop_length, List.drop_eq_nil_of_le (by omega)]
theorem sg_m : ("-" : Str) = sg 45 := by decide +kernel
section
variable {P : Program} {w : World} {K : PySem.W.Frag} {mg : Str → Option Value} {base : Heap}
abbrev s_signed_value : Stmt := top 11
abbrev N_signed_value : List Str := ["word", "value"]
theorem sc_signed_value : FnScope N_signed_value ["word"] (defScope s_signed_value) := ⟨rfl, rfl, rfl, by decide +kernel, rfl, by decide +kernel, by decide +kernel⟩
theorem ok_signed_value {f : Addr} {fd : FuncData} (F : Fun K "signed_value" "signed_value" s_signed_value f fd) (D_digits_value : Df P w K mg base 1 "digits_value" ["word"] spDigits) : FnOk P w K mg base CX0 2 f fd ["word"] spSigned := by
  refine F.ok sc_signed_value (fun vs H Q E h => ?_) (fun cdv A outer s H vs Q E hr h => ?_)
  · obtain ⟨w, rfl, _⟩ := h
    rfl
  · obtain ⟨w, rfl, hl, k⟩ := h
    have nd := sc_signed_value.nd
    have hu := hu_of hr
    have hls : w.length ≤ sizeLine := Nat.le_trans hl (by decide +kernel)
    refine ⟨_, (pss_cons (ps_if (pt_not (pt_val (pe_m1 PySem.F.slot_str_startswith PySem.F.type_str_startswith mt_startswith (pv 0) pe_str)))
    (pss_one (ps_ret (pe_call D_digits_value.ok (hr.mono (by decide)) (by rfl) D_digits_value.g D_digits_value.kp D_digits_value.b .nil pass0 (pa_cons (pv 0) pa_nil))))
    pss_nil)
    (pss_cons (ps_set (i := 1) nd rfl (Or.inl rfl) (pe_call D_digits_value.ok (hr.mono (by decide)) (by rfl) D_digits_value.g D_digits_value.kp D_digits_value.b .nil pass0 (pa_cons (pe_slice sl_str (pv 0) (po_some pe_int) po_none) pa_nil)))
    (pss_one (ps_ret (pe_ifExp (PW.pt (pw_or (pt_cmpR op_isN (pv 1) pe_non (nomark _)) (pw_or1 (pt_cmpR op_eq (pv 1) pe_int (nomark _))))) pe_non (pe_un un_neg (pv 1))))))), ?_⟩
    refine ⟨_, rfl, ⟨_, rfl⟩, w, ("-" : Str), rfl, rfl, _, rfl, ?_⟩
    rw [sg_m, starts_sign]
    by_cases h : (tl w).head? = some 45
    · rw [decide_eq_true h]
      have e : sgV (tl w) = (match numV ((tl w).drop 1) with | some z => if z = 0 then none else some (-z) | none => none) := if_pos h
      rw [e] at k
      refine ⟨_, rfl, _, rfl, w, rfl, hls, cutS w (some 1) none, rfl, by rw [len_tl, tl_cut1, List.length_drop]; rw [len_tl] at hl; omega, fun H' sm => ?_⟩
      rw [tl_cut1]
      have q := k H' sm
      cases hv : numV ((tl w).drop 1) with
      | none =>
        rw [hv] at q
        refine ⟨_, rfl, rfl, _, rfl, ?_⟩
        exact q
      | some z =>
        rw [hv] at q
        have q : Q (optV (if z = 0 then none else some (-z))) H' := q
        refine ⟨_, rfl, rfl, _, rfl, ?_⟩
        refine ⟨_, rfl, rfl, _, rfl, ?_⟩
        by_cases hz : z = 0
        · subst hz
          exact q
        · rw [if_neg hz] at q
          rw [decide_eq_false (show ¬ optV (some z) = V.int 0 from fun e => hz (V.int.inj e))]
          exact ⟨_, rfl, _, rfl, q⟩
    · rw [decide_eq_false h]
      have e : sgV (tl w) = numV (tl w) := if_neg h
      rw [e] at k
      exact ⟨_, rfl, w, rfl, hl, k⟩
end
end My

set_option pp.maxSteps 400
set_option Elab.async false
set_option linter.all false
set_option maxRecDepth 100000
set_option maxHeartbeats 1000000
namespace My
open PySem L2 MyR TL StX
/-! ### a row that is read -/
def litV (c : Nat) (w : Str) : Option Int := if c = 73 then sgV (tl w) else numV (tl w)
def rowW : List Str → Option Rw
  | [] => none
  | w0 :: rest => match formOf w0 with
    | none => none
    | some f => if rest.length = f.cps.size then (if ((List.range rest.length).all fun j => (litV (f.cps.toList.getD j 0) (rest.getD j Str.empty)).isSome) = true then some ⟨w0, (List.range rest.length).map fun j => (litV (f.cps.toList.getD j 0) (rest.getD j Str.empty)).getD 0⟩ else none) else none
def RowO (H : Hp) (v : V) : Option Rw → Prop
  | none => v = .non
  | some r => ∃ p, v = .ref p ∧ RowAt H r p
def spReadRow : Sp := fun vs H Q _ => ∃ t : Str, vs = [.str t] ∧ t.length ≤ 50000 ∧ (∀ w ∈ Txt.split t " ", w.length ≤ 50000) ∧ Txt.split t " " ≠ [] ∧ ∀ v H', Same H H' → RowO H' v (rowW (Txt.split t " ")) → Q v H'
section
variable {P : Program} {w : World} {K : PySem.W.Frag} {mg : Str → Option Value} {base : Heap}
abbrev s_read_code_row : Stmt := top 20
abbrev N_read_code_row : List Str := ["text", "words", "form", "items", "letter", "word", "item"]
theorem sc_read_code_row : FnScope N_read_code_row ["text"] (defScope s_read_code_row) := ⟨rfl, rfl, rfl, by decide +kernel, rfl, by decide +kernel, by decide +kernel⟩
theorem ok_read_code_row {f : Addr} {fd : FuncData} (F : Fun K "read_code_row" "read_code_row" s_read_code_row f fd) (T : Glob mg) (g_any : mg "any" = none) (T2 : Tabs3 w K mg) (D_digits_value : Df P w K mg base 1 "digits_value" ["word"] spDigits) (D_signed_value : Df P w K mg base 2 "signed_value" ["word"] spSigned) : FnOk P w K mg base CX0 3 f fd ["text"] spReadRow := by
  obtain ⟨aF, hF, ⟨es, n0, DF⟩, hFs⟩ := T2.forms
  obtain ⟨aF', hF', hmiss⟩ := T2.miss
  have eF : aF' = aF := by
    rw [hF] at hF'
    exact (Value.ref.inj (Option.some.inj hF')).symm
  rw [eF] at hmiss
  refine F.ok sc_read_code_row (fun vs H Q E h => ?_) (fun cdv A outer s H vs Q E hr h => ?_)
  · obtain ⟨t, rfl, _⟩ := h
    rfl
  · obtain ⟨t, rfl, hl, hws, hne, k⟩ := h
    have nd := sc_read_code_row.nd
    have hu := hu_of hr
    refine ⟨_, (pss_cons (ps_set (i := 1) nd rfl (Or.inl rfl) (pe_split (pv 0) pe_str))
    (pss_cons (ps_set (i := 2) nd rfl (Or.inl rfl) (pe_kget DF (pe_glob (v := .ref aF) rfl hF rfl) (pe_ix ix_list (pv 1) pe_int (fun _ _ => rfl)) pe_str ⟨rfl, rfl, rfl, rfl⟩))
    (pss_cons (ps_if (PW.pt (pw_or (pt_cmpR op_eq (pv 2) pe_str (nomark _)) (pw_or1 (pt_cmpR op_ne (pe_callB call_len_seq (by rfl) T.g_len PySem.boot_len (pa_cons (pv 1) pa_nil)) (pe_op op_add (pe_callB call_len_str (by rfl) T.g_len PySem.boot_len (pa_cons (pv 2) pa_nil)) pe_int) (nomark _)))))
    (pss_one (ps_ret pe_non))
    pss_nil)
    (pss_cons (ps_setLc (i := 3) (own := [("letter", 4), ("word", 5)]) (g := gTup K 2 (gCons (gName 4) (gCons (gName 5) gNil))) (tt := tYes) rfl nd rfl rfl (sw_true rfl rfl rfl (by decide +kernel)) (pi_zipSL (by rfl) T.g_zip (pa_cons (pv 2) (pa_cons (pe_slice sl_list (pv 1) (po_some pe_int) po_none) pa_nil))) (blkOk_by (N := N_read_code_row) (sc := defScope s_read_code_row) (by decide +kernel)) (fun _ _ _ _ _ => pg_tup (by rfl) (pgs_cons (pg_name (i := 4) nd rfl (Or.inl rfl)) (pgs_cons (pg_name (i := 5) nd rfl (Or.inl rfl)) pgs_nil))) (fun _ _ _ _ _ => pts_nil) (fun _ _ _ _ _ => (pe_ifExp (pt_cmpR op_eq (pv 4) pe_str (nomark _)) (pe_call D_signed_value.ok (hr.mono (by decide)) (by rfl) D_signed_value.g D_signed_value.kp D_signed_value.b .nil pass0 (pa_cons (pv 5) pa_nil)) (pe_call D_digits_value.ok (hr.mono (by decide)) (by rfl) D_digits_value.g D_digits_value.kp D_digits_value.b .nil pass0 (pa_cons (pv 5) pa_nil)))))
    (pss_one (ps_ret (pe_ifExp (pt_val (pe_callB (cr_any rfl) (by rfl) g_any (by decide +kernel) (pa_cons (pe_lc (own := [("item", 6)]) (g := gName 6) (tt := tYes) rfl nd (pi_list (pv 3)) (blkOk_by (N := N_read_code_row) (sc := defScope s_read_code_row) (by decide +kernel)) (fun _ _ _ _ _ => pg_name (i := 6) nd rfl (Or.inl rfl)) (fun _ _ _ _ _ => pts_nil) (fun _ _ _ _ _ => (pe_cmpR op_isN (pv 6) pe_non (nomark _)))) pa_nil))) pe_non (pe_tup (pa_cons (pe_ix ix_list (pv 1) pe_int (fun _ _ => rfl)) (pa_star (pv 3) pa_nil)))))))))), ?_⟩
    have hls : t.length + 2 ≤ sizeLine := Nat.le_trans (Nat.add_le_add_right hl 2) (by decide +kernel)
    refine ⟨_, rfl, ⟨_, rfl⟩, t, " ", rfl, rfl, by decide +kernel, hls, fun p hp => ?_⟩
    generalize Txt.split t " " = ws at hws hne k ⊢
    obtain ⟨w0, rest, rfl⟩ : ∃ w0 rest, ws = w0 :: rest := by
      cases ws with
      | nil => exact absurd rfl hne
      | cons a l => exact ⟨a, l, rfl⟩
    have sp := new_same (o := .lst ((w0 :: rest).map V.str)) hp
    have vp : upd H p (.lst ((w0 :: rest).map V.str)) p = some (.lst ((w0 :: rest).map V.str)) := upd_same
    generalize upd H p (.lst ((w0 :: rest).map V.str)) = H1 at sp vp ⊢
    dsimp only [List.set_cons_succ, List.set_cons_zero]
    have no : ∀ H', Same H1 H' → rowW (w0 :: rest) = none → Q .non H' := fun H' s e => k _ _ (sp.trans s) (by rw [e]; rfl)
    cases hf : formOf w0 with
    | none =>
      refine ⟨rfl, _, rfl, p, _, _, .str w0, rfl, rfl, SqL.of vp, atI_nat (j := 0) rfl, w0, none, rfl, hmiss w0 hf, fun _ => ?_, fun u e => by cases e⟩
      refine ⟨_, rfl, rfl, _, rfl, ?_⟩
      exact no H1 (Same.refl _) (by unfold rowW; simp only [hf])
    | some fm =>
    obtain ⟨es', n', u, hl0, _, hu', ru⟩ := hFs _ _ (forms_at hf)
    refine ⟨rfl, _, rfl, p, _, _, .str w0, rfl, rfl, SqL.of vp, atI_nat (j := 0) rfl, w0, some u, rfl, hu', ?_, ?_⟩
    · intro e
      cases e
    intro u' e
    obtain rfl := Option.some.inj e
    refine ⟨.str fm, ru, ?_⟩
    have hfe : fm ≠ ("" : Str) := by
      have q : ∀ p ∈ forms, p.2 ≠ ("" : Str) := by decide +kernel
      exact q _ (forms_at hf)
    have hfl : fm.length = fm.cps.size := rfl
    have h4 := form_size hf
    have er : rowW (w0 :: rest) = if rest.length = fm.cps.size then (if ((List.range rest.length).all fun j => (litV (fm.cps.toList.getD j 0) (rest.getD j Str.empty)).isSome) = true then some ⟨w0, (List.range rest.length).map fun j => (litV (fm.cps.toList.getD j 0) (rest.getD j Str.empty)).getD 0⟩ else none) else none := by
      unfold rowW
      simp only [hf]
    refine ⟨_, rfl, rfl, _, rfl, ?_⟩
    rw [decide_eq_false (show ¬ V.str fm = V.str "" from fun e => hfe (V.str.inj e))]
    refine ⟨_, rfl, p, _, rfl, .inl (SqL.of vp), _, rfl, fm, rfl, Nat.le_of_lt (small1000 (by rw [hfl]; omega)), _, _, rfl, rfl, rfl, _, rfl, ?_⟩
    by_cases hlen : rest.length = fm.cps.size
    case neg =>
      refine ite2 (fun _ => no H1 (Same.refl _) (by rw [er, if_neg hlen])) (fun hz => absurd ?_ hz)
      refine Bool.not_eq_true' _ ▸ ?_
      refine decide_eq_false fun e => hlen ?_
      have := V.int.inj e
      rw [List.length_map, List.length_cons, hfl] at this
      omega
    rw [if_pos hlen] at er
    refine iteNS (by rw [List.length_map, List.length_cons, hfl, hlen]; rfl) ?_
    -- the items
    refine ⟨_, rfl, _, rfl, _, rfl, p, _, rfl, SqL.of vp, fun q hq => ?_⟩
    rw [show cutV ((w0 :: rest).map V.str) (some 1) none = rest.map V.str from cut_tail _ _]
    refine ⟨fm, q, _, rfl, SqL.of upd_same, fun D hD => ?_⟩
    have hvl : fm.cps.size = (rest.map V.str).length := by rw [List.length_map, hlen]
    have sq' := new_same (o := .lst (rest.map V.str)) hq
    have vq : upd H1 q (.lst (rest.map V.str)) q = some (.lst (rest.map V.str)) := upd_same
    generalize upd H1 q (.lst (rest.map V.str)) = H2 at sq' vq hD ⊢
    let lit : Nat → Option Int := fun j => litV (fm.cps.toList.getD j 0) (rest.getD j Str.empty)
    refine lc_it (walk_zipSL hvl) (fun i H3 => Same H2 H3 ∧ H3 D = some (.lst ((List.range i).map fun j => optV (lit j)))) ⟨new_same hD, upd_same⟩ (fun i H3 _ h => SqL.of (h.1 _ _ vq)) ?_ ?_
    · rintro i v H3 H4 hi ⟨sm, h3⟩ ⟨Tt, x, y, rfl, hTt, rfl, hx, hy⟩
      rw [List.length_map] at hi
      replace hx : (fm.cps[i]?).map (fun c => V.str ⟨#[c]⟩) = some x := hx
      replace hy : (rest.map V.str)[i]? = some y := hy
      obtain ⟨c, hc, rfl⟩ : ∃ c, fm.cps[i]? = some c ∧ x = V.str (sg c) := by
        cases e : fm.cps[i]? with
        | none => rw [e] at hx; cases hx
        | some c => rw [e] at hx; exact ⟨c, rfl, (Option.some.inj hx).symm⟩
      obtain ⟨wi, hwi, rfl⟩ : ∃ wi, rest[i]? = some wi ∧ y = V.str wi := by
        rw [List.getElem?_map] at hy
        cases e : rest[i]? with
        | none => rw [e] at hy; cases hy
        | some z => rw [e] at hy; exact ⟨z, rfl, (Option.some.inj hy).symm⟩
      have nqT : q ≠ Tt := ne_of_none (sm _ _ vq) hTt
      have nDT : D ≠ Tt := ne_of_none h3 hTt
      have el : lit i = litV c wi := by
        show litV _ _ = _
        rw [getD_of (show fm.cps.toList[i]? = some c by rw [Array.getElem?_toList]; exact hc), getD_of hwi]
      have hwl := hws wi (List.mem_cons_of_mem _ (List.mem_of_getElem? hwi))
      have smT := sm.trans (new_same (o := .tup [V.str (sg c), V.str wi]) hTt)
      have fin : ∀ H5, Same (upd H3 Tt (.tup [V.str (sg c), V.str wi])) H5 → ∃ acc, H5 D = some (.lst acc) ∧ acc.length < sizeLine ∧ (Same H2 (upd H5 D (.lst (acc ++ [optV (lit i)]))) ∧ (upd H5 D (.lst (acc ++ [optV (lit i)]))) D = some (.lst ((List.range (i + 1)).map fun j => optV (lit j)))) := fun H5 s5 => by
        refine ⟨(List.range i).map fun j => optV (lit j), s5 _ _ (by rw [upd_ne nDT]; exact h3), by rw [List.length_map, List.length_range]; exact small1000 (by omega), fun b o e => ?_, ?_⟩
        · rw [upd_ne (ne_of_none e hD)]
          exact s5 _ _ (smT _ _ e)
        · rw [upd_same, range_snoc]
      refine ⟨Tt, _, rfl, SqT.of upd_same, rfl, _, _, rfl, _, _, rfl, rfl, rfl, ?_⟩
      refine ⟨_, rfl, rfl, _, rfl, ?_⟩
      rw [sg_eq c 73 _ sg_I]
      refine ite2 (fun hI => ?_) (fun hI => ?_)
      · have hI := of_decide_eq_true hI
        refine ⟨_, rfl, wi, rfl, hwl, fun H5 s5 => ?_⟩
        have e2 : sgV (tl wi) = lit i := by rw [el, hI]; rfl
        rw [e2]
        exact fin H5 s5
      · have hI := of_decide_eq_false (Bool.eq_false_iff.mpr hI)
        refine ⟨_, rfl, wi, rfl, hwl, fun H5 s5 => ?_⟩
        have e2 : numV (tl wi) = lit i := by rw [el]; exact (if_neg hI).symm
        rw [e2]
        exact fin H5 s5
    · rintro H3 ⟨sm, h3⟩
      rw [List.length_map] at h3
      dsimp only [List.set_cons_succ, List.set_cons_zero]
      -- whether one of them is none
      refine ⟨_, rfl, D, rfl, ⟨_, SqL.of h3⟩, fun D2 hD2 => ?_⟩
      refine lc_it walk_list (fun i H4 => Same H3 H4 ∧ H4 D2 = some (.lst (((List.range i).map fun j => !(lit j).isSome).map V.bl))) ⟨new_same hD2, upd_same⟩ (fun i H4 _ h => SqL.of (h.1 _ _ h3)) ?_ ?_
      · rintro i x H4 H5 hi ⟨s4, h4⟩ ⟨rfl, hx⟩
        rw [List.length_map, List.length_range] at hi
        have ex : x = optV (lit i) := by
          rw [List.getElem?_map, List.getElem?_range hi] at hx
          exact (Option.some.inj hx).symm
        subst ex
        refine ⟨rfl, ?_⟩
        refine ⟨_, rfl, rfl, ?_⟩
        have eb : decide (optV (lit i) = V.non) = !(lit i).isSome := by
          cases lit i with
          | none => rfl
          | some z => exact decide_eq_false fun e => by cases e
        rw [eb]
        refine ⟨_, h4, by rw [List.length_map, List.length_map, List.length_range]; exact small1000 (by omega), fun b o e => ?_, ?_⟩
        · rw [upd_ne (ne_of_none e hD2)]
          exact s4 _ _ e
        · rw [upd_same, range_snoc, List.map_append]
          rfl
      · rintro H4 ⟨s4, h4⟩
        rw [List.length_map, List.length_range] at h4
        refine ⟨D2, (List.range rest.length).map fun j => !(lit j).isSome, rfl, SqL.of h4, ?_⟩
        have s14 := (sq'.trans sm).trans s4
        have eany : ((List.range rest.length).map fun j => !(lit j).isSome).any id = !((List.range rest.length).all fun j => (lit j).isSome) := by
          rw [List.any_map]
          have : ∀ l : List Nat, l.any (id ∘ fun j => !(lit j).isSome) = !(l.all fun j => (lit j).isSome) := by
            intro l
            induction l with
            | nil => rfl
            | cons a l ih => rw [List.any_cons, List.all_cons, ih, Bool.not_and]; rfl
          exact this _
        rw [eany]
        have er2 : rowW (w0 :: rest) = if ((List.range rest.length).all fun j => (lit j).isSome) = true then some ⟨w0, (List.range rest.length).map fun j => (lit j).getD 0⟩ else none := er
        cases hall : (List.range rest.length).all fun j => (lit j).isSome with
        | false =>
          rw [hall, if_neg Bool.false_ne_true] at er2
          refine ⟨_, rfl, ?_⟩
          exact no H4 s14 er2
        | true =>
          rw [hall, if_pos rfl] at er2
          refine ⟨_, rfl, ?_⟩
          have evs : ((List.range rest.length).map fun j => optV (lit j)) = ((List.range rest.length).map fun j => (lit j).getD 0).map V.int := by
            rw [List.map_map]
            refine List.map_congr_left fun j hj => ?_
            have := List.all_eq_true.mp hall j hj
            cases hlj : lit j with
            | none => rw [hlj] at this; cases this
            | some z => show optV (some z) = V.int ((lit j).getD 0); rw [hlj]; rfl
          refine ⟨_, rfl, p, _, _, .str w0, rfl, rfl, SqL.of (s14 _ _ vp), atI_nat (j := 0) rfl, _, rfl, D, _, rfl, .inr (SqL.of (s4 _ _ h3)), ?_⟩
          dsimp only [tNil]
          rw [List.append_nil, evs]
          refine ⟨Nat.le_of_lt (small1000 (by show (((List.range rest.length).map fun j => (lit j).getD 0).map V.int).length + 1 ≤ 1000; rw [List.length_map, List.length_map, List.length_range]; omega)), fun p2 hp2 => ?_⟩
          refine k _ _ ((sp.trans s14).trans (new_same hp2)) ?_
          rw [er2]
          exact ⟨p2, rfl, upd_same⟩
end
end My

set_option Elab.async false
set_option linter.all false
set_option maxRecDepth 100000
set_option maxHeartbeats 1000000
namespace My
open PySem L2 MyR
/-- rows that a Code may have -/
def RsOk (rs : List Rw) : Prop := ∀ (i : Nat) r, rs[i]? = some r → r.ok ∧ r.fits ((rs.length : Int) - 1 - (i : Int))
theorem atI_in {xs : List V} {i : Int} (h0 : 0 ≤ i) (h1 : i < xs.length) : ∃ v, v ∈ xs ∧ atI xs i = some v := by
  obtain ⟨j, rfl⟩ : ∃ j : Nat, i = (j : Int) := ⟨i.toNat, by omega⟩
  have hj : j < xs.length := by omega
  exact ⟨xs[j], List.getElem_mem hj, atI_nat (List.getElem?_eq_getElem hj)⟩
theorem ix_draw {K : PySem.W.Frag} {H : Hp} {L : Addr} {xs : List V} {r : Int} {Q : VK} (h : H L = some (.lst xs)) (h0 : 0 ≤ r) (h1 : r < xs.length) (k : ∀ v ∈ xs, Q v H) : rIxL K (.ref L) (.int r) H Q := by
  obtain ⟨v, hv, e⟩ := atI_in h0 h1
  exact ⟨L, xs, r, v, rfl, rfl, SqL.of h, e, k v hv⟩
theorem pow_le {j : Nat} (h : j < 64) : (1 : Int) ≤ 2 ^ j ∧ (2 : Int) ^ j ≤ 9223372036854775808 := by
  have q : ∀ j < 64, (1 : Int) ≤ 2 ^ j ∧ (2 : Int) ^ j ≤ 9223372036854775808 := by decide +kernel
  exact q j h
theorem pow_mods {j : Nat} (h : j < 7) : (1 : Int) * 2 ^ j ∈ mods := by
  have q : ∀ j < 7, (1 : Int) * 2 ^ j ∈ mods := by decide +kernel
  exact q j h
/-! ### rows by their forms -/
theorem ok_of {w f : Str} {xs : List Int} {cs : List Nat} (hm : (w, f) ∈ forms) (hf : f.cps = cs.toArray) (hl : xs.length = cs.length) (hit : ∀ (i c : Nat) (z : Int), cs[i]? = some c → xs[i]? = some z → itOk c z) (ns : w = ("skip" : Str) → ∃ a m c n : Int, xs = [a, m, c, n] ∧ c < m) : Rw.ok ⟨w, xs⟩ :=
  ⟨⟨f, hm, by rw [hf]; simpa using hl, fun i c z hc hz => hit i c z (by rw [hf] at hc; simpa using hc) hz⟩, ns⟩
theorem ok2 {w f : Str} {a b : Int} {c0 c1 : Nat} (hm : (w, f) ∈ forms) (hf : f.cps = #[c0, c1]) (ns : w ≠ ("skip" : Str)) (h0 : itOk c0 a) (h1 : itOk c1 b) : Rw.ok ⟨w, [a, b]⟩ :=
  ok_of (cs := [c0, c1]) hm hf rfl (fun i c z hc hz => by
    match i, hc, hz with
    | 0, hc, hz => cases hc; cases hz; exact h0
    | 1, hc, hz => cases hc; cases hz; exact h1
    | i + 2, hc, hz => simp at hc) (fun e => absurd e ns)
theorem ok3 {w f : Str} {a b c : Int} {c0 c1 c2 : Nat} (hm : (w, f) ∈ forms) (hf : f.cps = #[c0, c1, c2]) (ns : w ≠ ("skip" : Str)) (h0 : itOk c0 a) (h1 : itOk c1 b) (h2 : itOk c2 c) : Rw.ok ⟨w, [a, b, c]⟩ :=
  ok_of (cs := [c0, c1, c2]) hm hf rfl (fun i c z hc hz => by
    match i, hc, hz with
    | 0, hc, hz => cases hc; cases hz; exact h0
    | 1, hc, hz => cases hc; cases hz; exact h1
    | 2, hc, hz => cases hc; cases hz; exact h2
    | i + 3, hc, hz => simp at hc) (fun e => absurd e ns)
theorem ok4 {a m c n : Int} (h0 : 0 ≤ a) (h0' : a ≤ 7) (h1 : m ∈ mods) (h2 : 0 ≤ c) (h2' : c < m) (h3 : 0 ≤ n) (h3' : n ≤ 1000) : Rw.ok ⟨"skip", [a, m, c, n]⟩ :=
  ok_of (f := "RMCN") (cs := [82, 77, 67, 78]) (by decide +kernel) (by decide +kernel) rfl (fun i cc z hc hz => by
    have hb := mods_bound m h1
    match i, hc, hz with
    | 0, hc, hz => cases hc; cases hz; unfold itOk; omega
    | 1, hc, hz => cases hc; cases hz; exact .inr (.inr (.inr (.inl ⟨rfl, h1⟩)))
    | 2, hc, hz => cases hc; cases hz; unfold itOk; omega
    | 3, hc, hz => cases hc; cases hz; unfold itOk; omega
    | i + 4, hc, hz => simp at hc) (fun _ => ⟨a, m, c, n, rfl, h2'⟩)
theorem itW {c : Nat} {z : Int} (h : c = 87 ∨ c = 82) (h0 : 0 ≤ z) (h1 : z ≤ 7) : itOk c z := .inr (.inl ⟨h, h0, h1⟩)
theorem itS {z : Int} (h0 : 0 ≤ z) (h1 : z ≤ 999) : itOk 83 z := .inr (.inr (.inl ⟨rfl, h0, h1⟩))
def spNum : Sp := fun vs H Q _ => ∃ (d l : Addr), vs = [.ref d] ∧ Deal H d l ∧
  ∀ (z : Int) (H' : Hp), -18446744073709551616 < z → z < 18446744073709551616 → Deal H' d l → Kept d l H H' → Q (.int z) H'
/-- a row that may stand at a place behind which `left` rows stand -/
def spRowL : Sp := fun vs H Q _ => ∃ (d l : Addr) (m left : Int), vs = [.ref d, .int m, .int left] ∧ Deal H d l ∧ 1 ≤ m ∧ m ≤ 8 ∧ 0 ≤ left ∧ left ≤ 900 ∧
  ∀ (q : Addr) (r : Rw) (H' : Hp), Deal H' d l → Kept d l H H' → RowAt H' r q → r.ok → r.fits left → Q (.ref q) H'
section
variable {P : Program} {w : World} {K : PySem.W.Frag} {mg : Str → Option Value} {base : Heap}
abbrev s_law_number : Stmt := top 26
abbrev N_law_number : List Str := ["_law_deal_here", "_law_form", "_law_number_here"]
theorem sc_law_number : FnScope N_law_number ["_law_deal_here"] (defScope s_law_number) := ⟨rfl, rfl, rfl, by decide +kernel, rfl, by decide +kernel, by decide +kernel⟩
theorem ok_law_number {f : Addr} {fd : FuncData} (F : Fun K "_law_number" "_law_number" s_law_number f fd) (T : Glob mg) (D_law_draw : Df P w K mg base 1 "_law_draw" ["_law_deal_here", "_law_many"] spDraw) :
    FnOk P w K mg base CX0 2 f fd ["_law_deal_here"] spNum := by
  refine F.ok sc_law_number (fun vs H Q E h => ?_) (fun cdv A outer s H vs Q E hr h => ?_)
  · obtain ⟨d, l, rfl, _⟩ := h
    rfl
  · obtain ⟨d, l, rfl, D, k⟩ := h
    have hu := hu_of hr
    have nd := sc_law_number.nd
    refine ⟨_, (pss_cons (ps_set (i := 1) nd rfl (Or.inl rfl) (pe_call D_law_draw.ok (hr.mono (by decide)) (by rfl) D_law_draw.g D_law_draw.kp D_law_draw.b .nil pass0 (pa_cons (pv 0) (pa_cons pe_int pa_nil))))
    (pss_cons (ps_set (i := 2) nd rfl (Or.inl rfl) (pe_call D_law_draw.ok (hr.mono (by decide)) (by rfl) D_law_draw.g D_law_draw.kp D_law_draw.b .nil pass0 (pa_cons (pv 0) (pa_cons pe_int pa_nil))))
    (pss_cons (ps_if (pt_cmpR op_eq (pv 1) pe_int (nomark _))
    (pss_one (ps_set (i := 2) nd rfl (Or.inl rfl) (pe_op op_sub (pe_op op_shl pe_int (pe_call D_law_draw.ok (hr.mono (by decide)) (by rfl) D_law_draw.g D_law_draw.kp D_law_draw.b .nil pass0 (pa_cons (pv 0) (pa_cons pe_int pa_nil)))) (pe_call D_law_draw.ok (hr.mono (by decide)) (by rfl) D_law_draw.g D_law_draw.kp D_law_draw.b .nil pass0 (pa_cons (pv 0) (pa_cons pe_int pa_nil))))))
    pss_nil)
    (pss_cons (ps_if (pt_cmpR op_eq (pv 1) pe_int (nomark _))
    (pss_one (ps_set (i := 2) nd rfl (Or.inl rfl) (pe_call D_law_draw.ok (hr.mono (by decide)) (by rfl) D_law_draw.g D_law_draw.kp D_law_draw.b .nil pass0 (pa_cons (pv 0) (pa_cons (pe_op op_shl pe_int pe_int) pa_nil)))))
    pss_nil)
    (pss_one (ps_ret (pe_ix ix_list (pe_lst (pa_cons (pv 2) (pa_cons (pe_op op_sub pe_int (pv 2)) pa_nil))) (pe_call D_law_draw.ok (hr.mono (by decide)) (by rfl) D_law_draw.g D_law_draw.kp D_law_draw.b .nil pass0 (pa_cons (pv 0) (pa_cons pe_int pa_nil))) (fun _ _ => rfl)))))))), ?_⟩
    refine ⟨_, rfl, d, l, _, rfl, D, by decide, by decide, fun fo H1 fo0 fo1 D1 kp1 => ?_⟩
    refine ⟨_, rfl, d, l, _, rfl, D1, by decide, by decide, fun a H2 a0 a1 D2 kp2 => ?_⟩
    dsimp only
    refine seq_by (fun σ H3 => ∃ z : Int, σ = [some (.ref d), some (.int fo), some (.int z)] ∧ 0 ≤ z ∧ z < 18446744073709551616 ∧ Deal H3 d l ∧ Kept d l H H3) (fun D' hD' => ?_) ?_
    · refine ⟨_, rfl, rfl, _, rfl, ?_⟩
      refine ite2 (fun _ => ?_) (fun _ => hD' _ _ ⟨a, rfl, a0, by omega, D2, kp1.trans kp2⟩)
      refine ⟨_, rfl, d, l, _, rfl, D2, by decide, by decide, fun b H3 b0 b1 D3 kp3 => ?_⟩
      refine ⟨_, _, rfl, rfl, ⟨by omega, by omega, by decide⟩, ?_⟩
      refine ⟨_, rfl, d, l, _, rfl, D3, by decide, by decide, fun e H4 e0 e1 D4 kp4 => ?_⟩
      have hb := pow_le (j := b.toNat) (by omega)
      exact ⟨_, _, rfl, rfl, hD' _ _ ⟨_, rfl, by omega, by omega, D4, ((kp1.trans kp2).trans kp3).trans kp4⟩⟩
    rintro σ H3 ⟨z, rfl, z0, z1, D3, kp3⟩
    refine seq_by (fun σ H4 => ∃ z : Int, σ = [some (.ref d), some (.int fo), some (.int z)] ∧ 0 ≤ z ∧ z < 18446744073709551616 ∧ Deal H4 d l ∧ Kept d l H H4) (fun D' hD' => ?_) ?_
    · refine ⟨_, rfl, rfl, _, rfl, ?_⟩
      refine ite2 (fun _ => ?_) (fun _ => hD' _ _ ⟨z, rfl, z0, z1, D3, kp3⟩)
      refine ⟨_, rfl, _, _, rfl, rfl, ⟨by decide, by decide, by decide⟩, d, l, _, rfl, D3, by decide, by decide, fun b H4 b0 b1 D4 kp4 => ?_⟩
      have e64 : (1 : Int) * 2 ^ (64 : Int).toNat = 18446744073709551616 := by decide +kernel
      rw [e64] at b1
      exact hD' _ _ ⟨b, rfl, b0, b1, D4, kp3.trans kp4⟩
    rintro σ H4 ⟨y, rfl, y0, y1, D4, kp4⟩
    refine ⟨_, rfl, _, rfl, _, _, rfl, rfl, (by show 2 ≤ sizeLine; decide), fun t ht => ?_⟩
    obtain ⟨ntd, ntl⟩ := D4.free ht
    have D5 := D4.new (o := .lst [V.int y, V.int (0 - y)]) ht
    refine ⟨_, rfl, d, l, _, rfl, D5, by decide, by decide, fun j H6 j0 j1 D6 kp6 => ?_⟩
    have h6 : H6 t = some (.lst [V.int y, V.int (0 - y)]) := kp6 _ _ upd_same ntd ntl
    have kp : Kept d l H H6 := (kp4.new (kp4.free D4 ht)).trans kp6
    refine ix_draw h6 j0 j1 (fun v hv => ?_)
    have hv' : v = V.int y ∨ v = V.int (0 - y) := by simpa using hv
    rcases hv' with rfl | rfl
    · exact k y H6 (by omega) (by omega) D6 kp
    · exact k (0 - y) H6 (by omega) (by omega) D6 kp
abbrev s_law_row : Stmt := top 28
abbrev N_law_row : List Str := ["_law_deal_here", "_law_registers", "_law_left", "_law_words", "_law_word", "_law_r", "_law_a", "_law_b", "_law_turn", "_law_modulus"]
theorem sc_law_row : FnScope N_law_row ["_law_deal_here", "_law_registers", "_law_left"] (defScope s_law_row) := ⟨rfl, rfl, rfl, by decide +kernel, rfl, by decide +kernel, by decide +kernel⟩
def wordsL : List Str := ["set", "copy", "add", "sub", "mul", "add", "mul", "left", "right", "right", "load", "store", "skip"]
theorem word_cases : ∀ z ∈ wordsL, z = ("set" : Str) ∨ (z = ("copy" : Str) ∨ z = ("left" : Str) ∨ z = ("right" : Str)) ∨ z = ("load" : Str) ∨ z = ("store" : Str) ∨ z = ("skip" : Str) ∨ (z = ("add" : Str) ∨ z = ("sub" : Str) ∨ z = ("mul" : Str)) := by decide +kernel
def two : List Str := ["copy", "left", "right"]
theorem inV_strs (z : Str) (zs : List Str) : inV (.str z) (zs.map V.str) = true ↔ z ∈ zs := by
  unfold inV
  rw [List.any_map, List.any_eq_true]
  constructor
  · rintro ⟨y, hy, e⟩
    have e' : (y == z) = true := e
    rw [← beq_iff_eq.mp e']
    exact hy
  · intro h
    exact ⟨z, h, by show (z == z) = true; exact beq_self_eq_true z⟩
theorem ok_law_row {f : Addr} {fd : FuncData} (F : Fun K "_law_row" "_law_row" s_law_row f fd) (T : Glob mg) (D_law_draw : Df P w K mg base 1 "_law_draw" ["_law_deal_here", "_law_many"] spDraw) (D_law_number : Df P w K mg base 2 "_law_number" ["_law_deal_here"] spNum) :
    FnOk P w K mg base CX0 3 f fd ["_law_deal_here", "_law_registers", "_law_left"] spRowL := by
  refine F.ok sc_law_row (fun vs H Q E h => ?_) (fun cdv A outer s H vs Q E hr h => ?_)
  · obtain ⟨d, l, m, left, rfl, _⟩ := h
    rfl
  · obtain ⟨d, l, m, left, rfl, D, m1, m8, l0, l9, k⟩ := h
    have hu := hu_of hr
    have nd := sc_law_row.nd
    refine ⟨_, (pss_cons (ps_set (i := 3) nd rfl (Or.inl rfl) (pe_tup (pa_cons pe_str (pa_cons pe_str (pa_cons pe_str (pa_cons pe_str (pa_cons pe_str (pa_cons pe_str (pa_cons pe_str (pa_cons pe_str (pa_cons pe_str (pa_cons pe_str (pa_cons pe_str (pa_cons pe_str (pa_cons pe_str pa_nil)))))))))))))))
    (pss_cons (ps_set (i := 4) nd rfl (Or.inl rfl) (pe_ix ix_tup (pv 3) (pe_call D_law_draw.ok (hr.mono (by decide)) (by rfl) D_law_draw.g D_law_draw.kp D_law_draw.b .nil pass0 (pa_cons (pv 0) (pa_cons pe_int pa_nil))) (fun _ _ => rfl)))
    (pss_cons (ps_asg (pe_lc (own := [("_law_turn", 8)]) (g := gName 8) (tt := tYes) rfl nd (pi_range1 (by rfl) T.g_range (pa_cons pe_int pa_nil)) (blkOk_by (N := N_law_row) (sc := defScope s_law_row) (by decide +kernel)) (fun _ _ _ _ _ => pg_name (i := 8) nd rfl (Or.inl rfl)) (fun _ _ _ _ _ => pts_nil) (fun _ _ _ _ _ => (pe_call D_law_draw.ok (hr.mono (by decide)) (by rfl) D_law_draw.g D_law_draw.kp D_law_draw.b .nil pass0 (pa_cons (pv 0) (pa_cons (pv 1) pa_nil))))) (pg_unl (by rfl) (pgs_cons (pg_name (i := 5) nd rfl (Or.inl rfl)) (pgs_cons (pg_name (i := 6) nd rfl (Or.inl rfl)) (pgs_cons (pg_name (i := 7) nd rfl (Or.inl rfl)) pgs_nil)))))
    (pss_cons (ps_if (pt_cmpR op_eq (pv 4) pe_str (nomark _))
    (pss_one (ps_ret (pe_tup (pa_cons (pv 4) (pa_cons (pv 5) (pa_cons (pe_call D_law_number.ok (hr.mono (by decide)) (by rfl) D_law_number.g D_law_number.kp D_law_number.b .nil pass0 (pa_cons (pv 0) pa_nil)) pa_nil))))))
    pss_nil)
    (pss_cons (ps_if (pt_cmpR op_in_seq (pv 4) (pe_tup (pa_cons pe_str (pa_cons pe_str (pa_cons pe_str pa_nil)))) (by rfl))
    (pss_one (ps_ret (pe_tup (pa_cons (pv 4) (pa_cons (pv 5) (pa_cons (pv 6) pa_nil))))))
    pss_nil)
    (pss_cons (ps_if (pt_cmpR op_eq (pv 4) pe_str (nomark _))
    (pss_one (ps_ret (pe_tup (pa_cons (pv 4) (pa_cons (pv 5) (pa_cons (pe_ix ix_list (pe_lst (pa_cons pe_int (pa_cons pe_int (pa_cons pe_int pa_nil)))) (pe_call D_law_draw.ok (hr.mono (by decide)) (by rfl) D_law_draw.g D_law_draw.kp D_law_draw.b .nil pass0 (pa_cons (pv 0) (pa_cons pe_int pa_nil))) (fun _ _ => rfl)) pa_nil))))))
    pss_nil)
    (pss_cons (ps_if (pt_cmpR op_eq (pv 4) pe_str (nomark _))
    (pss_one (ps_ret (pe_tup (pa_cons (pv 4) (pa_cons (pe_ix ix_list (pe_lst (pa_cons pe_int (pa_cons pe_int (pa_cons pe_int pa_nil)))) (pe_call D_law_draw.ok (hr.mono (by decide)) (by rfl) D_law_draw.g D_law_draw.kp D_law_draw.b .nil pass0 (pa_cons (pv 0) (pa_cons pe_int pa_nil))) (fun _ _ => rfl)) (pa_cons (pv 6) pa_nil))))))
    pss_nil)
    (pss_cons (ps_if (pt_cmpR op_eq (pv 4) pe_str (nomark _))
    (pss_cons (ps_set (i := 9) nd rfl (Or.inl rfl) (pe_op op_shl pe_int (pe_call D_law_draw.ok (hr.mono (by decide)) (by rfl) D_law_draw.g D_law_draw.kp D_law_draw.b .nil pass0 (pa_cons (pv 0) (pa_cons pe_int pa_nil)))))
    (pss_one (ps_ret (pe_tup (pa_cons (pv 4) (pa_cons (pv 6) (pa_cons (pv 9) (pa_cons (pe_call D_law_draw.ok (hr.mono (by decide)) (by rfl) D_law_draw.g D_law_draw.kp D_law_draw.b .nil pass0 (pa_cons (pv 0) (pa_cons (pv 9) pa_nil))) (pa_cons (pe_call D_law_draw.ok (hr.mono (by decide)) (by rfl) D_law_draw.g D_law_draw.kp D_law_draw.b .nil pass0 (pa_cons (pv 0) (pa_cons (pe_op op_add (pv 2) pe_int) pa_nil))) pa_nil)))))))))
    pss_nil)
    (pss_one (ps_ret (pe_tup (pa_cons (pv 4) (pa_cons (pv 5) (pa_cons (pv 6) (pa_cons (pv 7) pa_nil))))))))))))))), ?_⟩
    refine ⟨(by show 13 ≤ sizeLine; decide), fun t ht => ?_⟩
    obtain ⟨ntd, ntl⟩ := D.free ht
    have D1 := D.new (o := .tup (wordsL.map V.str)) ht
    refine ⟨_, rfl, _, rfl, d, l, _, rfl, D1, by decide, by decide, fun wi H1 w0 w1 D2 kp2 => ?_⟩
    have ht1 : H1 t = some (.tup (wordsL.map V.str)) := kp2 _ _ upd_same ntd ntl
    have kpA : Kept d l H H1 := (Kept.refl.new ht).trans kp2
    obtain ⟨v, hv, hat⟩ := atI_in (xs := wordsL.map V.str) w0 (by show wi < (13 : Int); exact w1)
    obtain ⟨z, hz, rfl⟩ := List.mem_map.mp hv
    have hz := word_cases z hz
    refine ⟨t, _, _, _, rfl, rfl, SqT.of ht1, hat, ?_⟩
    -- three registers
    refine ⟨3, rfl, by decide, by decide, fun L hL => ?_⟩
    obtain ⟨nLd, nLl⟩ := D2.free hL
    refine lc_range (lo := 0) (n := 3) (fun i H2 => ∃ rs : List Int, H2 L = some (.lst (rs.map V.int)) ∧ rs.length = i ∧ (∀ r ∈ rs, 0 ≤ r ∧ r ≤ 7) ∧ Deal H2 d l ∧ Kept d l H H2) ⟨[], upd_same, rfl, fun r h => (nomatch h), D2.new hL, kpA.new (kpA.free D2 hL)⟩ ?_ ?_
    · rintro i H2 hi ⟨rs, h2, hl2, hrs, D3, kp3⟩
      refine ⟨rfl, ?_⟩
      refine ⟨_, rfl, _, rfl, d, l, _, rfl, D3, by omega, by omega, fun x H3 x0 x1 D4 kp4 => ?_⟩
      refine ⟨rs.map V.int, kp4 _ _ h2 nLd nLl, by rw [List.length_map]; exact small1000 (by omega), rs ++ [x], ?_, by rw [List.length_append, hl2]; rfl, fun r hr => ?_, D4.other nLd nLl, (kp3.trans kp4).new (kpA.free D2 hL)⟩
      · rw [upd_same, List.map_append]
        rfl
      · rcases List.mem_append.mp hr with h | h
        · exact hrs r h
        · rw [List.mem_singleton.mp h]
          omega
    rintro H2 ⟨rs, h2, hl2, hrs, D3, kp3⟩
    obtain ⟨x, a, b, rfl⟩ : ∃ x a b, rs = [x, a, b] := by
      match rs, hl2 with
      | [x, a, b], _ => exact ⟨x, a, b, rfl⟩
    have hx := hrs x (by simp)
    have ha := hrs a (by simp)
    have hb := hrs b (by simp)
    refine ⟨L, _, rfl, SqL.of h2, rfl, _, _, rfl, _, _, rfl, _, _, rfl, rfl, ?_⟩
    -- a new row
    have fin : ∀ (H3 : Hp) (r : Rw), Deal H3 d l → Kept d l H H3 → r.ok → r.fits left → ∀ q, H3 q = none → Q (.ref q) (upd H3 q (.tup r.vs)) := fun H3 r D4 kp4 ok hf q hq => k q r _ (D4.new hq) (kp4.new (kp4.free D4 hq)) upd_same ok hf
    have nofit : ∀ {w : Str} {xs : List Int}, w ≠ ("skip" : Str) → Rw.fits ⟨w, xs⟩ left := fun h e => absurd e h
    refine ⟨_, rfl, rfl, _, rfl, ?_⟩
    refine ite2 (fun h => ?_) (fun n1 => ?_)
    · obtain rfl := V.str.inj (of_decide_eq_true h)
      refine ⟨_, rfl, _, rfl, _, rfl, d, l, rfl, D3, fun n H3 n0 n1 D4 kp4 => ?_⟩
      refine ⟨(by show 3 ≤ sizeLine; decide), fin H3 ⟨"set", [x, n]⟩ D4 (kp3.trans kp4) (ok2 (f := "WI") (c0 := 87) (c1 := 73) (by decide +kernel) (by decide +kernel) (by decide +kernel) (itW (.inl rfl) hx.1 hx.2) (.inl ⟨rfl, n0, n1⟩)) (nofit (by decide +kernel))⟩
    have n1 : ¬ z = ("set" : Str) := fun e => n1 (decide_eq_true (by rw [e]))
    refine ⟨_, rfl, (by show 3 ≤ sizeLine; decide), fun u hu0 => ?_⟩
    have D4 := D3.new (o := .tup (two.map V.str)) hu0
    have kp4 : Kept d l H (upd H2 u (.tup (two.map V.str))) := kp3.new (kp3.free D3 hu0)
    refine ⟨u, _, rfl, .inr (SqT.of upd_same), rfl, by rfl, _, rfl, ?_⟩
    refine ite2 (fun h => ?_) (fun n2 => ?_)
    · have h := (inV_strs z two).mp h
      have h : z = ("copy" : Str) ∨ z = ("left" : Str) ∨ z = ("right" : Str) := by simpa [two] using h
      refine ⟨_, rfl, _, rfl, _, rfl, (by show 3 ≤ sizeLine; decide), ?_⟩
      have go : ∀ w : Str, (w, ("WR" : Str)) ∈ forms → w ≠ ("skip" : Str) → ∀ q, upd H2 u (.tup (two.map V.str)) q = none → Q (.ref q) (upd (upd H2 u (.tup (two.map V.str))) q (.tup (Rw.vs ⟨w, [x, a]⟩))) := fun w hm ns =>
        fin _ ⟨w, [x, a]⟩ D4 kp4 (ok2 (f := "WR") (c0 := 87) (c1 := 82) hm (by decide +kernel) ns (itW (.inl rfl) hx.1 hx.2) (itW (.inr rfl) ha.1 ha.2)) (nofit ns)
      rcases h with rfl | rfl | rfl
      · exact go "copy" (by decide +kernel) (by decide +kernel)
      · exact go "left" (by decide +kernel) (by decide +kernel)
      · exact go "right" (by decide +kernel) (by decide +kernel)
    have n2 : ¬ (z = ("copy" : Str) ∨ z = ("left" : Str) ∨ z = ("right" : Str)) := fun e => n2 ((inV_strs z two).mpr (by simpa [two] using e))
    refine ⟨_, rfl, rfl, _, rfl, ?_⟩
    refine ite2 (fun h => ?_) (fun n3 => ?_)
    · obtain rfl := V.str.inj (of_decide_eq_true h)
      refine ⟨_, rfl, _, rfl, (by show 3 ≤ sizeLine; decide), fun t2 ht2 => ?_⟩
      obtain ⟨nad, nal⟩ := D4.free ht2
      have D5 := D4.new (o := .lst ([0, 7, 999].map V.int)) ht2
      have kp5 := kp4.new (o := .lst ([0, 7, 999].map V.int)) (kp4.free D4 ht2)
      refine ⟨_, rfl, d, l, _, rfl, D5, by decide, by decide, fun j H6 j0 j1 D6 kp6 => ?_⟩
      refine ix_draw (xs := [0, 7, 999].map V.int) (kp6 _ _ upd_same nad nal) j0 j1 (fun v hv => ?_)
      obtain ⟨s0, hs0, rfl⟩ := List.mem_map.mp hv
      have hs : 0 ≤ s0 ∧ s0 ≤ 999 := by
        have q : ∀ s ∈ ([0, 7, 999] : List Int), 0 ≤ s ∧ s ≤ 999 := by decide
        exact q s0 hs0
      exact ⟨(by show 3 ≤ sizeLine; decide), fin H6 ⟨"load", [x, s0]⟩ D6 (kp5.trans kp6) (ok2 (f := "WS") (c0 := 87) (c1 := 83) (by decide +kernel) (by decide +kernel) (by decide +kernel) (itW (.inl rfl) hx.1 hx.2) (itS hs.1 hs.2)) (nofit (by decide +kernel))⟩
    have n3 : ¬ z = ("load" : Str) := fun e => n3 (decide_eq_true (by rw [e]))
    refine ⟨_, rfl, rfl, _, rfl, ?_⟩
    refine ite2 (fun h => ?_) (fun n4 => ?_)
    · obtain rfl := V.str.inj (of_decide_eq_true h)
      refine ⟨_, rfl, (by show 3 ≤ sizeLine; decide), fun t2 ht2 => ?_⟩
      obtain ⟨nad, nal⟩ := D4.free ht2
      have D5 := D4.new (o := .lst ([0, 7, 999].map V.int)) ht2
      have kp5 := kp4.new (o := .lst ([0, 7, 999].map V.int)) (kp4.free D4 ht2)
      refine ⟨_, rfl, d, l, _, rfl, D5, by decide, by decide, fun j H6 j0 j1 D6 kp6 => ?_⟩
      refine ix_draw (xs := [0, 7, 999].map V.int) (kp6 _ _ upd_same nad nal) j0 j1 (fun v hv => ?_)
      obtain ⟨s0, hs0, rfl⟩ := List.mem_map.mp hv
      have hs : 0 ≤ s0 ∧ s0 ≤ 999 := by
        have q : ∀ s ∈ ([0, 7, 999] : List Int), 0 ≤ s ∧ s ≤ 999 := by decide
        exact q s0 hs0
      exact ⟨_, rfl, (by show 3 ≤ sizeLine; decide), fin H6 ⟨"store", [s0, a]⟩ D6 (kp5.trans kp6) (ok2 (f := "SR") (c0 := 83) (c1 := 82) (by decide +kernel) (by decide +kernel) (by decide +kernel) (itS hs.1 hs.2) (itW (.inr rfl) ha.1 ha.2)) (nofit (by decide +kernel))⟩
    have n4 : ¬ z = ("store" : Str) := fun e => n4 (decide_eq_true (by rw [e]))
    refine ⟨_, rfl, rfl, _, rfl, ?_⟩
    refine ite2 (fun h => ?_) (fun n5 => ?_)
    · obtain rfl := V.str.inj (of_decide_eq_true h)
      refine ⟨_, rfl, d, l, _, rfl, D4, by decide, by decide, fun j H5 j0 j1 D5 kp5 => ?_⟩
      refine ⟨_, _, rfl, rfl, ⟨by omega, by omega, by decide⟩, ?_⟩
      have hm := pow_mods (j := j.toNat) (by omega)
      have hmb := mods_bound _ hm
      refine ⟨_, rfl, _, rfl, _, rfl, _, rfl, _, rfl, d, l, _, rfl, D5, by omega, by omega, fun c H6 c0 c1 D6 kp6 => ?_⟩
      refine ⟨_, rfl, _, rfl, _, _, rfl, rfl, d, l, _, rfl, D6, by omega, by omega, fun n H7 n0 n1 D7 kp7 => ?_⟩
      exact ⟨(by show 5 ≤ sizeLine; decide), fin H7 ⟨"skip", [a, 1 * 2 ^ j.toNat, c, n]⟩ D7 (((kp4.trans kp5).trans kp6).trans kp7) (ok4 ha.1 ha.2 hm c0 c1 n0 (by omega)) (fun _ => ⟨_, _, _, n, rfl, by omega⟩)⟩
    have n5 : ¬ z = ("skip" : Str) := fun e => n5 (decide_eq_true (by rw [e]))
    refine ⟨_, rfl, _, rfl, _, rfl, _, rfl, (by show 4 ≤ sizeLine; decide), ?_⟩
    have go : ∀ w : Str, (w, ("WRR" : Str)) ∈ forms → w ≠ ("skip" : Str) → ∀ q, upd H2 u (.tup (two.map V.str)) q = none → Q (.ref q) (upd (upd H2 u (.tup (two.map V.str))) q (.tup (Rw.vs ⟨w, [x, a, b]⟩))) := fun w hm ns =>
      fin _ ⟨w, [x, a, b]⟩ D4 kp4 (ok3 (f := "WRR") (c0 := 87) (c1 := 82) (c2 := 82) hm (by decide +kernel) ns (itW (.inl rfl) hx.1 hx.2) (itW (.inr rfl) ha.1 ha.2) (itW (.inr rfl) hb.1 hb.2)) (nofit ns)
    rcases hz with h | h | h | h | h | h | h | h
    · exact absurd h n1
    · exact absurd h n2
    · exact absurd h n3
    · exact absurd h n4
    · exact absurd h n5
    · subst h; exact go "add" (by decide +kernel) (by decide +kernel)
    · subst h; exact go "sub" (by decide +kernel) (by decide +kernel)
    · subst h; exact go "mul" (by decide +kernel) (by decide +kernel)
end
end My

set_option Elab.async false
set_option linter.all false
set_option maxRecDepth 100000
set_option maxHeartbeats 1000000
namespace My
open PySem L2 MyR
theorem form_of : ∀ p ∈ forms, (p.1 = ("load" : Str) → p.2.cps = #[87, 83]) ∧ (p.1 = ("store" : Str) → p.2.cps = #[83, 82]) ∧ (p.1 = ("skip" : Str) → p.2.cps = #[82, 77, 67, 78]) := by decide +kernel
theorem load_xs {r : Rw} (h : r.ok) (hw : r.w = ("load" : Str)) : ∃ a s, r.xs = [a, s] ∧ itOk 87 a := by
  obtain ⟨⟨f, hf, hl, hit⟩, _⟩ := h
  have hc := (form_of _ hf).1 hw
  have e : f.cps = #[87, 83] := hc
  rw [e] at hl hit
  match hx : r.xs, hl with
  | [a, s], _ => exact ⟨a, s, rfl, hit 0 87 a rfl (by rw [hx]; rfl)⟩
theorem store_xs {r : Rw} (h : r.ok) (hw : r.w = ("store" : Str)) : ∃ s a, r.xs = [s, a] ∧ itOk 82 a := by
  obtain ⟨⟨f, hf, hl, hit⟩, _⟩ := h
  have e : f.cps = #[83, 82] := (form_of _ hf).2.1 hw
  rw [e] at hl hit
  match hx : r.xs, hl with
  | [s, a], _ => exact ⟨s, a, rfl, hit 1 82 a rfl (by rw [hx]; rfl)⟩
theorem skip_xs {r : Rw} (h : r.ok) (hw : r.w = ("skip" : Str)) : ∃ a m c n, r.xs = [a, m, c, n] ∧ itOk 82 a ∧ itOk 78 n := by
  obtain ⟨⟨f, hf, hl, hit⟩, _⟩ := h
  have e : f.cps = #[82, 77, 67, 78] := (form_of _ hf).2.2 hw
  rw [e] at hl hit
  match hx : r.xs, hl with
  | [a, m, c, n], _ => exact ⟨a, m, c, n, rfl, hit 0 82 a rfl (by rw [hx]; rfl), hit 3 78 n rfl (by rw [hx]; rfl)⟩
/-- drawn rows, a new list -/
def spRows : Sp := fun vs H Q _ => ∃ (d l : Addr) (n : Nat), vs = [.ref d, .int 8, .int (n : Int)] ∧ Deal H d l ∧ n ≤ 900 ∧
  ∀ (q : Addr) (rs : List Rw) (H' : Hp), H q = none → Deal H' d l → Kept d l H H' → LstAt H' rs q → RsOk rs → rs.length = n → Q (.ref q) H'
section
variable {P : Program} {w : World} {K : PySem.W.Frag} {mg : Str → Option Value} {base : Heap}
abbrev s_law_far_row : Stmt := top 29
abbrev N_law_far_row : List Str := ["_law_deal_here", "_law_registers", "_law_left", "_law_row_here", "_law_modulus"]
theorem sc_law_far_row : FnScope N_law_far_row ["_law_deal_here", "_law_registers", "_law_left"] (defScope s_law_far_row) := ⟨rfl, rfl, rfl, by decide +kernel, rfl, by decide +kernel, by decide +kernel⟩
theorem ok_law_far_row {f : Addr} {fd : FuncData} (F : Fun K "_law_far_row" "_law_far_row" s_law_far_row f fd) (T : Glob mg) (D_law_draw : Df P w K mg base 1 "_law_draw" ["_law_deal_here", "_law_many"] spDraw)
    (D_law_row : Df P w K mg base 3 "_law_row" ["_law_deal_here", "_law_registers", "_law_left"] spRowL) : FnOk P w K mg base CX0 4 f fd ["_law_deal_here", "_law_registers", "_law_left"] spRowL := by
  refine F.ok sc_law_far_row (fun vs H Q E h => ?_) (fun cdv A outer s H vs Q E hr h => ?_)
  · obtain ⟨d, l, m, left, rfl, _⟩ := h
    rfl
  · obtain ⟨d, l, m, left, rfl, D, m1, m8, l0, l9, k⟩ := h
    have hu := hu_of hr
    have nd := sc_law_far_row.nd
    refine ⟨_, (pss_cons (ps_set (i := 3) nd rfl (Or.inl rfl) (pe_call D_law_row.ok (hr.mono (by decide)) (by rfl) D_law_row.g D_law_row.kp D_law_row.b .nil pass0 (pa_cons (pv 0) (pa_cons (pv 1) (pa_cons (pv 2) pa_nil)))))
    (pss_cons (ps_if (pt_cmpR op_eq (pe_ix ix_tup (pv 3) pe_int (fun _ _ => rfl)) pe_str (nomark _))
    (pss_one (ps_ret (pe_op op_catT (pe_slice sl_tup (pv 3) po_none (po_some pe_int)) (pe_tup (pa_cons (pe_call D_law_draw.ok (hr.mono (by decide)) (by rfl) D_law_draw.g D_law_draw.kp D_law_draw.b .nil pass0 (pa_cons (pv 0) (pa_cons pe_int pa_nil))) pa_nil)))))
    pss_nil)
    (pss_cons (ps_if (pt_cmpR op_eq (pe_ix ix_tup (pv 3) pe_int (fun _ _ => rfl)) pe_str (nomark _))
    (pss_one (ps_ret (pe_tup (pa_cons (pe_ix ix_tup (pv 3) pe_int (fun _ _ => rfl)) (pa_cons (pe_call D_law_draw.ok (hr.mono (by decide)) (by rfl) D_law_draw.g D_law_draw.kp D_law_draw.b .nil pass0 (pa_cons (pv 0) (pa_cons pe_int pa_nil))) (pa_cons (pe_ix ix_tup (pv 3) pe_int (fun _ _ => rfl)) pa_nil))))))
    pss_nil)
    (pss_cons (ps_if (pt_cmpR op_eq (pe_ix ix_tup (pv 3) pe_int (fun _ _ => rfl)) pe_str (nomark _))
    (pss_cons (ps_set (i := 4) nd rfl (Or.inl rfl) (pe_op op_shl pe_int (pe_call D_law_draw.ok (hr.mono (by decide)) (by rfl) D_law_draw.g D_law_draw.kp D_law_draw.b .nil pass0 (pa_cons (pv 0) (pa_cons pe_int pa_nil)))))
    (pss_one (ps_ret (pe_op op_catT (pe_slice sl_tup (pv 3) po_none (po_some pe_int)) (pe_tup (pa_cons (pv 4) (pa_cons (pe_call D_law_draw.ok (hr.mono (by decide)) (by rfl) D_law_draw.g D_law_draw.kp D_law_draw.b .nil pass0 (pa_cons (pv 0) (pa_cons (pv 4) pa_nil))) (pa_cons (pe_ix ix_tup (pv 3) pe_int (fun _ _ => rfl)) pa_nil))))))))
    pss_nil)
    (pss_one (ps_ret (pv 3))))))), ?_⟩
    refine ⟨_, rfl, _, rfl, _, rfl, d, l, m, left, rfl, D, m1, m8, l0, l9, fun q r H1 D1 kp1 hq hok hfit => ?_⟩
    have sq1 : SqT K H1 q r.vs := SqT.of hq
    have nofit : ∀ {w : Str} {xs : List Int}, w ≠ ("skip" : Str) → Rw.fits ⟨w, xs⟩ left := fun h e => absurd e h
    obtain ⟨nqd, nql⟩ := D1.nt hq
    refine ⟨_, rfl, q, _, _, .str r.w, rfl, rfl, sq1, atI_nat (j := 0) rfl, rfl, _, rfl, ?_⟩
    refine ite2 (fun h => ?_) (fun n1 => ?_)
    · have hw := V.str.inj (of_decide_eq_true h)
      obtain ⟨a, s0, ex, ha⟩ := load_xs hok hw
      have evs : r.vs = [.str "load", .int a] ++ [.int s0] := by unfold Rw.vs; rw [ex, hw]; rfl
      rw [evs] at sq1
      refine ⟨_, rfl, _, rfl, q, _, rfl, sq1, not_whole_front _ _ 2 rfl (by simp), fun u hu0 => ?_⟩
      rw [show cutV ([V.str "load", V.int a] ++ [V.int s0]) none (some 2) = [.str "load", .int a] from cut_front _ _ 2 rfl]
      obtain ⟨nud, nul⟩ := D1.free hu0
      have D2 := D1.new (o := .tup [.str "load", .int a]) hu0
      have kp2 := kp1.new (o := .tup [.str "load", .int a]) (kp1.free D1 hu0)
      refine ⟨_, rfl, d, l, _, rfl, D2, by decide, by decide, fun s1 H3 s10 s11 D3 kp3 => ?_⟩
      refine ⟨(by show 1 ≤ sizeLine; decide), fun u2 hu2 => ?_⟩
      have D4 := D3.new (o := .tup [.int s1]) hu2
      have kp4 := (kp2.trans kp3).new (o := .tup [.int s1]) ((kp2.trans kp3).free D3 hu2)
      have hu3 : H3 u = some (.tup [.str "load", .int a]) := kp3 _ _ upd_same nud nul
      refine ⟨u, u2, _, _, rfl, rfl, SqT.of (by rw [upd_ne (ne_of_none hu3 hu2)]; exact hu3), SqT.of upd_same, by simp, (by show 2 + 1 ≤ sizeLine; decide), fun e => absurd e (by simp), fun _ u3 hu4 => ?_⟩
      have ha7 : 0 ≤ a ∧ a ≤ 7 := by unfold itOk at ha; omega
      exact k u3 ⟨"load", [a, s1]⟩ _ (D4.new hu4) (kp4.new (kp4.free D4 hu4)) upd_same (ok2 (f := "WS") (c0 := 87) (c1 := 83) (by decide +kernel) (by decide +kernel) (by decide +kernel) ha (itS s10 (by omega))) (nofit (by decide +kernel))
    refine ⟨_, rfl, q, _, _, .str r.w, rfl, rfl, sq1, atI_nat (j := 0) rfl, rfl, _, rfl, ?_⟩
    refine ite2 (fun h => ?_) (fun n2 => ?_)
    · have hw := V.str.inj (of_decide_eq_true h)
      obtain ⟨s0, a, ex, ha⟩ := store_xs hok hw
      have evs : r.vs = [.str "store", .int s0, .int a] := by unfold Rw.vs; rw [ex, hw]; rfl
      have hq' : H1 q = some (.tup [.str "store", .int s0, .int a]) := by rw [← evs]; exact hq
      refine ⟨_, rfl, q, _, _, .str "store", rfl, rfl, SqT.of hq', atI_nat (j := 0) rfl, ?_⟩
      refine ⟨_, rfl, d, l, _, rfl, D1, by decide, by decide, fun s1 H3 s10 s11 D3 kp3 => ?_⟩
      refine ⟨_, rfl, q, _, _, .int a, rfl, rfl, SqT.of (kp3 _ _ hq' nqd nql), atI_nat (j := 2) rfl, ?_⟩
      refine ⟨(by show 3 ≤ sizeLine; decide), fun u2 hu2 => ?_⟩
      exact k u2 ⟨"store", [s1, a]⟩ _ (D3.new hu2) ((kp1.trans kp3).new ((kp1.trans kp3).free D3 hu2)) upd_same (ok2 (f := "SR") (c0 := 83) (c1 := 82) (by decide +kernel) (by decide +kernel) (by decide +kernel) (itS s10 (by omega)) ha) (nofit (by decide +kernel))
    refine ⟨_, rfl, q, _, _, .str r.w, rfl, rfl, sq1, atI_nat (j := 0) rfl, rfl, _, rfl, ?_⟩
    refine ite2 (fun h => ?_) (fun n3 => ?_)
    · have hw := V.str.inj (of_decide_eq_true h)
      obtain ⟨a, m0, c0, n, ex, ha, hn⟩ := skip_xs hok hw
      have evs : r.vs = [.str "skip", .int a] ++ [.int m0, .int c0, .int n] := by unfold Rw.vs; rw [ex, hw]; rfl
      have hq' : H1 q = some (.tup ([.str "skip", .int a] ++ [.int m0, .int c0, .int n])) := by rw [← evs]; exact hq
      have hnl : n ≤ left := by
        obtain ⟨a', m', c', n', ex', hl'⟩ := hfit hw
        rw [ex] at ex'
        injection ex' with _ ex'
        injection ex' with _ ex'
        injection ex' with _ ex'
        injection ex' with e4 _
        omega
      refine ⟨_, rfl, d, l, _, rfl, D1, by decide, by decide, fun j H2 j0 j1 D2 kp2 => ?_⟩
      refine ⟨_, _, rfl, rfl, ⟨by omega, by omega, by decide⟩, ?_⟩
      have hm := pow_mods (j := j.toNat) (by omega)
      have hmb := mods_bound _ hm
      have hq2 := kp2 _ _ hq' nqd nql
      refine ⟨_, rfl, _, rfl, q, _, rfl, SqT.of hq2, not_whole_front _ _ 2 rfl (by simp), fun u hu0 => ?_⟩
      rw [show cutV ([V.str "skip", V.int a] ++ [V.int m0, V.int c0, V.int n]) none (some 2) = [.str "skip", .int a] from cut_front _ _ 2 rfl]
      obtain ⟨nud, nul⟩ := D2.free hu0
      have D3 := D2.new (o := .tup [.str "skip", .int a]) hu0
      have kp3 := (kp1.trans kp2).new (o := .tup [.str "skip", .int a]) ((kp1.trans kp2).free D2 hu0)
      have hq3 : (upd H2 u (.tup [.str "skip", .int a])) q = some (.tup ([.str "skip", .int a] ++ [.int m0, .int c0, .int n])) := by rw [upd_ne (ne_of_none hq2 hu0)]; exact hq2
      refine ⟨_, rfl, _, rfl, _, rfl, d, l, _, rfl, D3, by omega, by omega, fun c H4 c00 c01 D4 kp4 => ?_⟩
      have hq4 := kp4 _ _ hq3 nqd nql
      have hu4 : H4 u = some (.tup [.str "skip", .int a]) := kp4 _ _ upd_same nud nul
      refine ⟨_, rfl, q, _, _, .int n, rfl, rfl, SqT.of hq4, atI_nat (j := 4) rfl, ?_⟩
      refine ⟨(by show 3 ≤ sizeLine; decide), fun u2 hu2 => ?_⟩
      have D5 := D4.new (o := .tup [.int (1 * 2 ^ j.toNat), .int c, .int n]) hu2
      have kp5 := (kp3.trans kp4).new (o := .tup [.int (1 * 2 ^ j.toNat), .int c, .int n]) ((kp3.trans kp4).free D4 hu2)
      refine ⟨u, u2, _, _, rfl, rfl, SqT.of (by rw [upd_ne (ne_of_none hu4 hu2)]; exact hu4), SqT.of upd_same, by simp, (by show 2 + 3 ≤ sizeLine; decide), fun e => absurd e (by simp), fun _ u3 hu5 => ?_⟩
      have ha7 : 0 ≤ a ∧ a ≤ 7 := by unfold itOk at ha; omega
      have hn7 : 0 ≤ n ∧ n ≤ 1000 := by unfold itOk at hn; omega
      exact k u3 ⟨"skip", [a, 1 * 2 ^ j.toNat, c, n]⟩ _ (D5.new hu5) (kp5.new (kp5.free D5 hu5)) upd_same (ok4 ha7.1 ha7.2 hm c00 c01 hn7.1 hn7.2) (fun _ => ⟨_, _, _, n, rfl, hnl⟩)
    exact ⟨_, rfl, k q r H1 D1 kp1 hq hok hfit⟩
abbrev s_law_far_rows : Stmt := top 30
abbrev N_law_far_rows : List Str := ["_law_deal_here", "_law_registers", "_law_many", "_law_at"]
theorem sc_law_far_rows : FnScope N_law_far_rows ["_law_deal_here", "_law_registers", "_law_many"] (defScope s_law_far_rows) := ⟨rfl, rfl, rfl, by decide +kernel, rfl, by decide +kernel, by decide +kernel⟩
theorem ok_law_far_rows {f : Addr} {fd : FuncData} (F : Fun K "_law_far_rows" "_law_far_rows" s_law_far_rows f fd) (T : Glob mg) (D_law_far_row : Df P w K mg base 4 "_law_far_row" ["_law_deal_here", "_law_registers", "_law_left"] spRowL) : FnOk P w K mg base CX0 5 f fd ["_law_deal_here", "_law_registers", "_law_many"] spRows := by
  refine F.ok sc_law_far_rows (fun vs H Q E h => ?_) (fun cdv A outer s H vs Q E hr h => ?_)
  · obtain ⟨d, l, n, rfl, _⟩ := h
    rfl
  · obtain ⟨d, l, n, rfl, D, hn, k⟩ := h
    have nd := sc_law_far_rows.nd
    refine ⟨_, (pss_one (ps_ret (pe_lc (own := [("_law_at", 3)]) (g := gName 3) (tt := tYes) rfl nd (pi_range1 (by rfl) T.g_range (pa_cons (pv 2) pa_nil)) (blkOk_by (N := N_law_far_rows) (sc := defScope s_law_far_rows) (by decide +kernel)) (fun _ _ _ _ _ => pg_name (i := 3) nd rfl (Or.inl rfl)) (fun _ _ _ _ _ => pts_nil) (fun _ _ _ _ _ => (pe_call D_law_far_row.ok (hr.mono (by decide)) (by rfl) D_law_far_row.g D_law_far_row.kp D_law_far_row.b .nil pass0 (pa_cons (pv 0) (pa_cons (pv 1) (pa_cons (pe_op op_sub (pe_op op_sub (pv 2) (pv 3)) pe_int) pa_nil)))))))), ?_⟩
    refine ⟨_, rfl, (n : Int), rfl, by omega, by omega, fun L hL => ?_⟩
    obtain ⟨nLd, nLl⟩ := D.free hL
    rw [Int.toNat_natCast]
    refine lc_range (lo := 0) (n := n) (fun i H1 => ∃ as rs, H1 L = some (.lst (refs as)) ∧ RowsAt H1 rs as ∧ rs.length = i ∧ (∀ (j : Nat) r, rs[j]? = some r → r.ok ∧ r.fits ((n : Int) - 1 - (j : Int))) ∧ Deal H1 d l ∧ Kept d l H H1) ⟨[], [], upd_same, RowsAt.nil, rfl, fun j r h => by simp at h, D.new hL, Kept.refl.new hL⟩ ?_ ?_
    · rintro i H1 hi ⟨as, rs, h1, hr1, hl1, hok, D1, kp1⟩
      refine ⟨rfl, ?_⟩
      refine ⟨_, rfl, _, rfl, _, rfl, _, rfl, _, _, rfl, rfl, _, _, rfl, rfl, d, l, 8, (n : Int) - (0 + (i : Int)) - 1, rfl, D1, by decide, by decide, by omega, by omega, fun q r H2 D2 kp2 hq ok1 fit1 => ?_⟩
      have h2 : H2 L = some (.lst (refs as)) := kp2 _ _ h1 nLd nLl
      refine ⟨_, h2, by rw [refs_len, hr1.len, hl1]; exact small1000 (by omega), as ++ [q], rs ++ [r], ?_, ((hr1.kept D1 kp2).snoc hq).upd h2, by rw [List.length_append, hl1]; rfl, fun j r' e => ?_, D2.other nLd nLl, (kp1.trans kp2).new hL⟩
      · rw [upd_same]
        unfold refs
        rw [List.map_append]
        rfl
      · by_cases hj : j < rs.length
        · rw [List.getElem?_append_left hj] at e
          exact hok j r' e
        · rw [List.getElem?_append_right (by omega)] at e
          have h0 : j - rs.length = 0 := by
            by_cases h1 : j - rs.length = 0
            · exact h1
            · rw [List.getElem?_eq_none (by simp only [List.length_cons, List.length_nil]; omega)] at e
              cases e
          rw [h0] at e
          have e' : r = r' := Option.some.inj e
          subst e'
          have ej : (n : Int) - 1 - (j : Int) = (n : Int) - (0 + (i : Int)) - 1 := by omega
          rw [ej]
          exact ⟨ok1, fit1⟩
    · rintro H1 ⟨as, rs, h1, hr1, hl1, hok, D1, kp1⟩
      exact k L rs H1 hL D1 kp1 ⟨as, h1, hr1⟩ (by intro j r e; rw [hl1]; exact hok j r e) hl1
end
end My

set_option pp.maxSteps 400
set_option Elab.async false
set_option linter.all false
set_option maxRecDepth 100000
set_option maxHeartbeats 1000000
namespace My
open PySem L2 MyR TL
theorem mem_joinL {S : List Nat} {c : Nat} : ∀ {ps : List (List Nat)}, c ∈ joinL S ps → c ∈ S ∨ ∃ p ∈ ps, c ∈ p
  | [], h => by cases h
  | [p], h => .inr ⟨p, List.mem_singleton.mpr rfl, h⟩
  | p :: q :: r, h => by
    rcases List.mem_append.mp h with h | h
    · exact .inr ⟨p, List.mem_cons_self, h⟩
    · rcases List.mem_append.mp h with h | h
      · exact .inl h
      · rcases mem_joinL h with h | ⟨x, hx, hc⟩
        · exact .inl h
        · exact .inr ⟨x, List.mem_cons_of_mem _ hx, hc⟩
end My

set_option Elab.async false
set_option linter.all false
set_option maxRecDepth 100000
set_option maxHeartbeats 1000000
namespace My
open PySem L2 MyR TL
theorem cat_any {K : PySem.W.Frag} {H : Hp} {a b : Addr} {xs ys : List V} {Q : VK} (ha : H a = some (.tup xs)) (hb : H b = some (.tup ys)) (hl : xs.length + ys.length ≤ sizeLine) (k : ∀ p H', Same H H' → H' p = some (.tup (xs ++ ys)) → Q (.ref p) H') : rCatA K (.ref a) (.ref b) H Q := by
  refine ⟨a, b, xs, ys, rfl, rfl, SqT.of ha, SqT.of hb, hl, fun e => ?_, fun _ e => ?_, fun _ _ p hp => k p _ (new_same hp) upd_same⟩
  · subst e
    exact k b H (Same.refl H) hb
  · subst e
    exact k a H (Same.refl H) (by rw [List.append_nil]; exact ha)
theorem strOk_iff {s : Str} : PyData.strOk s = true ↔ ∀ c ∈ tl s, c < 0x110000 := by
  unfold PyData.strOk tl
  rw [Array.all_eq_true']
  constructor
  · intro h c hc
    exact of_decide_eq_true (h c (Array.mem_toList_iff.mp hc))
  · intro h c hc
    exact decide_eq_true (h c (Array.mem_toList_iff.mpr hc))
theorem join_ok {a : Str} {ys : List Str} (ha : PyData.strOk a = true) (h : ∀ y ∈ ys, PyData.strOk y = true) : PyData.strOk (Txt.join a ys) = true := by
  rw [strOk_iff, join_eq, tl_join]
  intro c hc
  rcases mem_joinL hc with hc | ⟨p, hp, hc⟩
  · exact strOk_iff.mp ha c hc
  · obtain ⟨y, hy, rfl⟩ := List.mem_map.mp hp
    exact strOk_iff.mp (h y hy) c hc
theorem sum_le2 {ys : List Str} (h : ∀ y ∈ ys, y.length ≤ 2000) : (ys.map (·.length)).sum ≤ 2000 * ys.length := by
  induction ys with
  | nil => simp
  | cons y ys ih =>
    rw [List.map_cons, List.sum_cons, List.length_cons]
    have := h y List.mem_cons_self
    have := ih fun z hz => h z (List.mem_cons_of_mem _ hz)
    omega
end My

set_option pp.maxSteps 400
set_option Elab.async false
set_option linter.all false
set_option maxRecDepth 100000
set_option maxHeartbeats 1000000
namespace My
open PySem L2 MyR TL NumText
theorem dig_mem (c : Nat) : decide (c ∈ ("0123456789" : Str).cps.toList) = digB c := by
  rw [show ("0123456789" : Str).cps.toList = [48, 49, 50, 51, 52, 53, 54, 55, 56, 57] from by decide +kernel]
  unfold digB
  rw [← Bool.decide_and]
  refine decide_eq_decide.mpr ?_
  simp only [List.mem_cons, List.not_mem_nil, or_false]
  omega
theorem filt_nil' {α : Type} (f : α → Bool) : ∀ l : List α, (l.filter fun j => !f j).isEmpty = l.all f
  | [] => rfl
  | a :: l => by
    rw [List.filter_cons, List.all_cons, ← filt_nil' f l]
    cases f a <;> rfl
theorem strs_eqv_nil (ss : List Str) : PyData.eqv (.list (ss.map PyData.str)) (.list []) = ss.isEmpty := by
  cases ss <;> simp [PyData.eqv, PyData.eqvAll]
theorem sdp {K : PySem.W.Frag} {H : Hp} : ∀ xs : List Str, DpAll K H (xs.map V.str) (xs.map PyData.str)
  | [] => .nil
  | x :: xs => .cons (.str x) (sdp xs)
theorem strs_lay : ∀ xs : List Str, (∀ x ∈ xs, PyData.strOk x = true) → PyData.canLayAll0 (xs.map PyData.str) = true
  | [], _ => by simp [PyData.canLayAll0]
  | x :: xs, h => by
    rw [List.map_cons, PyData.canLayAll0, PyData.canLay0, h x List.mem_cons_self, strs_lay xs fun y hy => h y (List.mem_cons_of_mem _ hy)]
    rfl
theorem strs_dep : ∀ xs : List Str, PyData.depthAll (xs.map PyData.str) = 0
  | [] => by simp [PyData.depthAll]
  | x :: xs => by
    rw [List.map_cons, PyData.depthAll, PyData.depth, strs_dep xs]
    rfl
theorem strs_shaped (xs : List Str) (h : ∀ x ∈ xs, PyData.strOk x = true) : SeqAt.shaped (.list (xs.map PyData.str)) = true := by
  unfold SeqAt.shaped
  rw [show (PyData.list (xs.map PyData.str)).canLay0 = true from by rw [PyData.canLay0]; exact strs_lay xs h, Bool.true_and]
  refine decide_eq_true ?_
  rw [PyData.depth, strs_dep]
  omega
def spFig : Sp := fun vs H Q _ => ∃ w : Str, vs = [.str w] ∧ w.length ≤ 50000 ∧ PyData.strOk w = true ∧ ∀ H', Same H H' → Q (optV (numV (tl w))) H'
section
variable {P : Program} {w : World} {K : PySem.W.Frag} {mg : Str → Option Value} {base : Heap}
abbrev s_law_figures : Stmt := top 27
abbrev N_law_figures : List Str := ["_law_word", "_law_sign"]
theorem sc_law_figures : FnScope N_law_figures ["_law_word"] (defScope s_law_figures) := ⟨rfl, rfl, rfl, by decide +kernel, rfl, by decide +kernel, by decide +kernel⟩
theorem ok_law_figures {f : Addr} {fd : FuncData} (F : Fun K "_law_figures" "_law_figures" s_law_figures f fd) (T : Glob mg) : FnOk P w K mg base CX0 1 f fd ["_law_word"] spFig := by
  refine F.ok sc_law_figures (fun vs H Q E h => ?_) (fun cdv A outer s H vs Q E hr h => ?_)
  · obtain ⟨w, rfl, _⟩ := h
    rfl
  · obtain ⟨w, rfl, hl, hok, k⟩ := h
    have nd := sc_law_figures.nd
    have hu := hu_of hr
    refine ⟨_, (pss_cons (ps_if (PW.pt (pw_or (pt_cmpR op_eq (pv 0) pe_str (nomark _)) (pw_or (pt_cmpR op_gt (pe_callB call_len_str (by rfl) T.g_len PySem.boot_len (pa_cons (pv 0) pa_nil)) pe_int (nomark _)) (pw_or1 (pt_cmpR (op_neD hr.units) (pe_lc (own := [("_law_sign", 1)]) (g := gName 1) rfl nd (pi_str (pv 0)) (blkOk_by (N := N_law_figures) (sc := defScope s_law_figures) (by decide +kernel)) (fun _ _ _ _ _ => pg_name (i := 1) nd rfl (Or.inl rfl)) (fun _ _ _ _ _ => pts_one (pt_cmpR op_notIn_sign (pv 1) pe_str (by rfl))) (fun _ _ _ _ _ => (pv 1))) (pe_lst pa_nil) (nomark _))))))
    (pss_one (ps_ret pe_non))
    pss_nil)
    (pss_one (ps_ret (pe_ifExp (PW.pt (pw_and (pt_cmpR op_gt (pe_callB call_len_str (by rfl) T.g_len PySem.boot_len (pa_cons (pv 0) pa_nil)) pe_int (nomark _)) (pw_and1 (pt_cmpR op_eq (pe_ix ix_str (pv 0) pe_int (fun _ _ => rfl)) pe_str (nomark _))))) pe_non (pe_callTy call_int_str (by rfl) T.g_int (by decide +kernel) (pa_cons (pv 0) pa_nil)))))), ?_⟩
    have hlen : w.length = (tl w).length := len_tl w
    have hls : w.length ≤ sizeLine := Nat.le_trans hl (by decide +kernel)
    have hnb : numB (tl w) = (decide (1 ≤ (tl w).length) && decide ((tl w).length ≤ 20) && !(decide ((tl w).head? = some 48) && !decide (tl w = [48])) && (tl w).all digB) := rfl
    have no : ∀ H', Same H H' → numB (tl w) = false → Q .non H' := fun H' s e => by
      have q := k H' s
      unfold numV at q
      rw [e, if_neg Bool.false_ne_true] at q
      exact q
    refine seq_rt (fun σ H' => σ = [some (.str w), none] ∧ Same H H' ∧ 1 ≤ (tl w).length ∧ (tl w).length ≤ 20 ∧ (tl w).all digB = true) (fun nx' hn => ?_) ?_
    · refine ⟨_, rfl, rfl, _, rfl, ?_⟩
      refine ite2 (fun h0 => ?_) (fun h0 => ?_)
      · have h0 := V.str.inj (of_decide_eq_true h0)
        refine no H (Same.refl H) ?_
        rw [h0]
        decide +kernel
      have hne : tl w ≠ [] := fun e => h0 (decide_eq_true (congrArg V.str (ext_tl (by rw [e]; rfl))))
      have hpos := List.length_pos_iff.mpr hne
      refine ⟨_, rfl, w, rfl, hls, _, _, rfl, rfl, _, rfl, ?_⟩
      refine ite2 (fun h20 => ?_) (fun h20 => ?_)
      · have h20 := of_decide_eq_true h20
        refine no H (Same.refl H) ?_
        rw [hnb, decide_eq_false (show ¬ (tl w).length ≤ 20 by omega)]
        cases decide (1 ≤ (tl w).length) <;> rfl
      have h20 := of_decide_eq_false (Bool.eq_false_iff.mpr h20)
      refine ⟨_, rfl, w, rfl, fun D hD => ?_⟩
      refine lc_it walk_str (fun i H1 => Same H H1 ∧ H1 D = some (.lst ((((tl w).take i).filter fun c => !digB c).map fun c => V.str (sg c)))) ⟨new_same hD, upd_same⟩ (fun _ _ _ _ => trivial) ?_ ?_
      · rintro i x H1 H2 hi ⟨sm, h2⟩ ⟨rfl, c, hc, rfl⟩
        have hc2 : (tl w)[i]? = some c := by rw [Array.getElem?_toList]; exact hc
        refine ⟨rfl, ?_⟩
        refine ⟨_, rfl, c, _, rfl, rfl, _, rfl, ?_⟩
        rw [dig_mem]
        cases hd : digB c with
        | true =>
          refine iteF ?_
          refine ⟨sm, ?_⟩
          rw [List.take_add_one, hc2, List.filter_append]
          show H2 D = some (.lst ((_ ++ List.filter _ [c]).map _))
          rw [List.filter_cons, hd]
          simp only [Bool.not_true, Bool.false_eq_true, if_false, List.filter_nil, List.append_nil]
          exact h2
        | false =>
          refine iteT ?_
          refine ⟨_, rfl, _, h2, ?_, fun b o e => ?_, ?_⟩
          · rw [List.length_map]
            have := List.length_filter_le (fun c => !digB c) ((tl w).take i)
            rw [List.length_take] at this
            exact small1000 (by omega)
          · rw [upd_ne (ne_of_none e hD)]
            exact sm _ _ e
          · rw [upd_same, List.take_add_one, hc2, List.filter_append]
            show _ = some (HO.lst ((_ ++ List.filter _ [c]).map _))
            rw [List.filter_cons, hd]
            simp only [Bool.not_false, if_true, List.filter_nil, List.map_append]
            rfl
      · rintro H1 ⟨sm, h2⟩
        have hl0 : (tl w).take w.cps.size = tl w := List.take_of_length_le (by rw [Array.length_toList]; exact Nat.le_refl _)
        rw [hl0] at h2
        refine ⟨by show 0 ≤ sizeLine; decide, fun e he => ?_⟩
        have s3 := new_same (o := .lst []) he
        have h3 : (upd H1 e (.lst [])) D = some (.lst ((((tl w).filter fun c => !digB c).map sg).map V.str)) := by
          rw [List.map_map]
          exact s3 _ _ h2
        refine ⟨_, .list [], .lst (SqL.of h3) (sdp _), .lst (SqL.of upd_same) .nil, strs_shaped _ fun x hx => ?_, rfl, ?_⟩
        · obtain ⟨c, hc, rfl⟩ := List.mem_map.mp hx
          have hc := (List.mem_filter.mp hc).1
          exact strOk_iff.mpr fun d hd => by
            have hd : d ∈ [c] := hd
            rw [List.mem_singleton.mp hd]
            exact strOk_iff.mp hok c hc
        rw [strs_eqv_nil, List.isEmpty_map, filt_nil']
        cases hd : (tl w).all digB with
        | false => exact ⟨_, rfl, no _ (sm.trans s3) (by rw [hnb, hd, Bool.and_false])⟩
        | true => exact ⟨_, rfl, hn _ _ ⟨rfl, sm.trans s3, by omega, by omega, hd⟩⟩
    rintro σ H1 ⟨rfl, sm, h1, h20, hd⟩
    have hnum : ∀ b : Bool, (decide ((tl w).head? = some 48) && !decide (tl w = [48])) = b → numV (tl w) = if b = true then none else some ((digitsVal (tl w) : Nat) : Int) := fun b hb => by
      unfold numV
      rw [hnb, decide_eq_true h1, decide_eq_true h20, hd, hb]
      cases b <;> rfl
    have hne : tl w ≠ [] := by intro e; rw [e] at h1; simp at h1
    obtain ⟨a, l, el⟩ : ∃ a l, tl w = a :: l := by
      cases e : tl w with
      | nil => exact absurd e hne
      | cons a l => exact ⟨a, l, rfl⟩
    have last : (decide ((tl w).head? = some 48) && !decide (tl w = [48])) = false → ∃ n, PySem.intText? w = some n ∧ w.length ≤ 640 ∧ Q (.int n) H1 := fun hb => by
      have q := k H1 sm
      rw [hnum _ hb] at q
      exact ⟨_, intText_digits (all_digits hd) hne (by omega), by omega, q⟩
    have none_ : (decide ((tl w).head? = some 48) && !decide (tl w = [48])) = true → Q .non H1 := fun hb => by
      have q := k H1 sm
      rw [hnum _ hb] at q
      exact q
    refine ⟨_, rfl, w, rfl, hls, _, _, rfl, rfl, _, rfl, ?_⟩
    refine ite2 (fun hl1 => ?_) (fun hl1 => ?_)
    · have hl1 := of_decide_eq_true hl1
      refine ⟨_, rfl, w, 0, a, rfl, rfl, hls, ?_, ?_⟩
      · refine atI_nat (j := 0) ?_
        show (tl w)[0]? = some a
        rw [el]
        rfl
      refine ⟨rfl, _, rfl, ?_⟩
      rw [show (⟨#[a]⟩ : Str) = sg a from rfl, sg_0, show decide (V.str (sg a) = V.str (sg 48)) = decide (a = 48) from decide_eq_decide.mpr ⟨fun e => sg_inj.mp (V.str.inj e), fun e => by rw [e]⟩]
      have hl2 : decide (tl w = [48]) = false := decide_eq_false fun e => by rw [e] at hlen; simp at hlen; omega
      have hh : decide ((tl w).head? = some 48) = decide (a = 48) := by
        rw [el]
        exact decide_eq_decide.mpr ⟨fun e => Option.some.inj e, fun e => by rw [e]; rfl⟩
      refine ite2 (fun h48 => ?_) (fun h48 => ?_)
      · exact none_ (by rw [hh, h48, hl2]; rfl)
      · obtain ⟨n, e1, e2, q⟩ := last (by rw [hh, Bool.eq_false_iff.mpr h48]; rfl)
        exact ⟨_, rfl, w, n, rfl, e1, e2, q⟩
    · have hl1 := of_decide_eq_false (Bool.eq_false_iff.mpr hl1)
      have hll : l = [] := by
        have : (tl w).length = l.length + 1 := by rw [el]; rfl
        exact List.eq_nil_of_length_eq_zero (by omega)
      obtain ⟨n, e1, e2, q⟩ := last (by
        rw [el, hll]
        by_cases e : a = 48
        · subst e
          decide
        · rw [decide_eq_false (show ¬ [a].head? = some 48 from fun z => e (Option.some.inj z))]
          rfl)
      refine ⟨_, rfl, w, n, rfl, e1, e2, q⟩
end
end My

set_option pp.maxSteps 400
set_option Elab.async false
set_option linter.all false
set_option maxRecDepth 100000
set_option maxHeartbeats 1000000
namespace My
open PySem L2 MyR TL NumText
/-! ### the law's own reading of a row -/
theorem dv_pos : ∀ (l : List Nat) (a : Nat), 0 < a → 0 < l.foldl (fun acc c => acc * 10 + (c - 48)) a
  | [], a, h => h
  | c :: l, a, h => dv_pos l _ (show 0 < a * 10 + (c - 48) by omega)
theorem num_zero {l : List Nat} (h : numV l = some 0) : l = [48] := by
  unfold numV at h
  split at h
  · rename_i hb
    have hv : ((digitsVal l : Nat) : Int) = 0 := Option.some.inj h
    have hv : digitsVal l = 0 := by omega
    unfold numB at hb
    obtain ⟨hb, hd⟩ := Bool.and_eq_true_iff.mp hb
    obtain ⟨hb, h0⟩ := Bool.and_eq_true_iff.mp hb
    cases l with
    | nil => simp at hb
    | cons a l =>
      by_cases e : a :: l = [48]
      · exact e
      · exfalso
        have ha := (all_digits hd).head
        rw [decide_eq_false e] at h0
        have hne : a ≠ 48 := by
          intro ea
          subst ea
          simp at h0
        have := dv_pos l (0 * 10 + (a - 48)) (by omega)
        unfold digitsVal at hv
        rw [List.foldl_cons] at hv
        omega
  · cases h
theorem num_minus {l : List Nat} (h : l.head? = some 45) : numV l = none := by
  cases l with
  | nil => cases h
  | cons a l =>
    obtain rfl := Option.some.inj h
    unfold numV
    rw [if_neg ?_]
    unfold numB
    rw [List.all_cons, show digB 45 = false from rfl, Bool.false_and, Bool.and_false]
    exact Bool.false_ne_true
/-- a number as the law reads it -/
def lawL (s : Bool) (w : Str) : Option Int := if s && (decide ((tl w).head? = some 45) && !decide (tl w = [45, 48])) then (numV ((tl w).drop 1)).map (fun z => 0 - z) else numV (tl w)
theorem lawL_sg (w : Str) : lawL true w = sgV (tl w) := by
  unfold lawL sgV
  rw [Bool.true_and]
  by_cases h : (tl w).head? = some 45
  · rw [decide_eq_true h, Bool.true_and, if_pos h]
    by_cases e : tl w = [45, 48]
    · rw [decide_eq_true e, e]
      decide +kernel
    · rw [decide_eq_false e]
      show (numV ((tl w).drop 1)).map _ = _
      cases hn : numV ((tl w).drop 1) with
      | none => rfl
      | some z =>
        show some (0 - z) = if z = 0 then none else some (-z)
        rw [if_neg, Int.zero_sub]
        intro hz
        subst hz
        have := num_zero hn
        refine e ?_
        cases ht : tl w with
        | nil => rw [ht] at h; cases h
        | cons a l =>
          rw [ht] at h this
          obtain rfl := Option.some.inj h
          have this : l = [48] := this
          rw [this]
  · rw [decide_eq_false h, if_neg h]
    rfl
theorem lawL_num (w : Str) : lawL false w = numV (tl w) := rfl
def cnts : List (Str × Nat) := [("set", 2), ("copy", 2), ("add", 3), ("sub", 3), ("mul", 3), ("left", 2), ("right", 2), ("load", 2), ("store", 2), ("skip", 4)]
theorem cnt_some {w f : Str} (h : formOf w = some f) : cnts.lookup w = some f.cps.size := by
  have q : ∀ p ∈ forms, cnts.lookup p.1 = some p.2.cps.size := by decide +kernel
  exact q _ (forms_at h)
theorem cnt_none {w : Str} (h : formOf w = none) : cnts.lookup w = none := by
  unfold formOf forms at h
  unfold cnts
  simp only [List.lookup_cons, List.lookup_nil] at h ⊢
  split at h <;> try cases h
  split at h <;> try cases h
  split at h <;> try cases h
  split at h <;> try cases h
  split at h <;> try cases h
  split at h <;> try cases h
  split at h <;> try cases h
  split at h <;> try cases h
  split at h <;> try cases h
  split at h <;> try cases h
  simp only [*]
/-- where the form has a sign -/
theorem form_I {w f : Str} (h : formOf w = some f) (j : Nat) (hj : j < f.cps.size) : decide (f.cps.toList.getD j 0 = 73) = (decide (w = ("set" : Str)) && decide (j = 1)) := by
  have q : ∀ p ∈ forms, ∀ j < 5, j < p.2.cps.size → decide (p.2.cps.toList.getD j 0 = 73) = (decide (p.1 = ("set" : Str)) && decide (j = 1)) := by decide +kernel
  exact q _ (forms_at h) j (by have := form_size h; omega) hj
theorem tl_cut01 (w : Str) : tl (cutS w none (some 1)) = (tl w).take 1 := by
  unfold cutS
  rw [len_tl w, show ((1 : Int)) = ((1 : Nat) : Int) from rfl, HT.sIx_nat]
  show ((tl w).drop 0).take (min 1 (tl w).length - 0) = (tl w).take 1
  rw [List.drop_zero, Nat.sub_zero, List.take_eq_take_iff]
  omega
theorem cut_minus (w : Str) : decide (V.str (cutS w none (some 1)) = V.str "-") = decide ((tl w).head? = some 45) := by
  rw [sg_m, str_sg, tl_cut01]
  refine decide_eq_decide.mpr ?_
  cases tl w with
  | nil => simp
  | cons a l => simp
theorem str_m0 (w : Str) : decide (V.str w = V.str "-0") = decide (tl w = [45, 48]) := by
  have e : tl ("-0" : Str) = [45, 48] := by decide +kernel
  exact decide_eq_decide.mpr ⟨fun h => by rw [V.str.inj h]; exact e, fun h => congrArg V.str (ext_tl (by rw [h, e]))⟩
def spReadL : Sp := fun vs H Q _ => ∃ t : Str, vs = [.str t] ∧ t.length ≤ 50000 ∧ (∀ w ∈ Txt.split t " ", w.length ≤ 50000) ∧ (∀ w ∈ Txt.split t " ", PyData.strOk w = true) ∧ Txt.split t " " ≠ [] ∧ ∀ v H', Same H H' → RowO H' v (rowW (Txt.split t " ")) → Q v H'
def ckv9 : List (Key × V) := [(.inr "set", .int 2), (.inr "copy", .int 2), (.inr "add", .int 3), (.inr "sub", .int 3), (.inr "mul", .int 3), (.inr "left", .int 2), (.inr "right", .int 2), (.inr "load", .int 2), (.inr "store", .int 2)]
def ckv : List (Key × V) := [(.inr "set", .int 2), (.inr "copy", .int 2), (.inr "add", .int 3), (.inr "sub", .int 3), (.inr "mul", .int 3), (.inr "left", .int 2), (.inr "right", .int 2), (.inr "load", .int 2), (.inr "store", .int 2), (.inr "skip", .int 4)]
theorem merge9 : mergeK [] ckv9 = ckv9 := by rfl
theorem cput10 : putK ckv9 (.inr "skip") (.int 4) = ckv := by rfl
theorem ckv_eq : ckv = cnts.map fun p => ((.inr p.1 : Key), V.int (p.2 : Nat)) := rfl
theorem ckv_get (w : Str) : ∀ l : List (Str × Nat), valV (l.map fun p => ((.inr p.1 : Key), V.int (p.2 : Nat))) (.inr w) = (l.lookup w).map fun n : Nat => V.int (n : Int)
  | [] => rfl
  | (a, b) :: l => by
    rw [List.map_cons, List.lookup_cons]
    by_cases e : w = a
    · subst e
      rw [valV_pos rfl, beq_self_eq_true]
      rfl
    · rw [valV_neg (fun q => e (Sum.inr.inj q).symm), ckv_get w l, show (w == a) = false from beq_eq_false_iff_ne.mpr e]
section
variable {P : Program} {w : World} {K : PySem.W.Frag} {mg : Str → Option Value} {base : Heap}
abbrev s_law_read_row : Stmt := top 31
abbrev N_law_read_row : List Str := ["_law_text", "_law_counts", "_law_words", "_law_numbers", "_law_at", "_law_word", "_law_signed", "_law_number_here"]
theorem sc_law_read_row : FnScope N_law_read_row ["_law_text"] (defScope s_law_read_row) := ⟨rfl, rfl, rfl, by decide +kernel, rfl, by decide +kernel, by decide +kernel⟩
theorem ok_law_read_row {f : Addr} {fd : FuncData} (F : Fun K "_law_read_row" "_law_read_row" s_law_read_row f fd) (T : Glob mg) (D_law_figures : Df P w K mg base 1 "_law_figures" ["_law_word"] spFig) : FnOk P w K mg base CX0 2 f fd ["_law_text"] spReadL := by
  refine F.ok sc_law_read_row (fun vs H Q E h => ?_) (fun cdv A outer s H vs Q E hr h => ?_)
  · obtain ⟨t, rfl, _⟩ := h
    rfl
  · obtain ⟨t, rfl, hl, hws, hstr, hne, k⟩ := h
    have nd := sc_law_read_row.nd
    have hu := hu_of hr
    refine ⟨_, (pss_cons (ps_set (i := 1) nd rfl (Or.inl rfl) (pe_disp (pps_cons pe_str pe_int (pps_cons pe_str pe_int (pps_cons pe_str pe_int (pps_cons pe_str pe_int (pps_cons pe_str pe_int (pps_cons pe_str pe_int (pps_cons pe_str pe_int (pps_cons pe_str pe_int (pps_cons pe_str pe_int pps_nil))))))))) (by rfl) (by rfl) (fun z => by cases z) (by decide)))
    (pss_cons (ps_dput hu (pv 1) pe_str pe_int rfl)
    (pss_cons (ps_set (i := 2) nd rfl (Or.inl rfl) (pe_split (pv 0) pe_str))
    (pss_cons (ps_if (PW.pt (pw_or (pt_cmp (pc_dnotin hu (pe_ix ix_list (pv 2) pe_int (fun _ _ => rfl)) (pv 1))) (pw_or1 (pt_cmpR op_ne (pe_callB call_len_seq (by rfl) T.g_len PySem.boot_len (pa_cons (pv 2) pa_nil)) (pe_op op_add (pe_dget hu (pv 1) (pe_ix ix_list (pv 2) pe_int (fun _ _ => rfl)) (fun _ _ => rfl)) pe_int) (nomark _)))))
    (pss_one (ps_ret pe_non))
    pss_nil)
    (pss_cons (ps_set (i := 3) nd rfl (Or.inl rfl) (pe_lst pa_nil))
    (pss_cons (ps_for PassesOwn.never rfl (pi_enum (by rfl) T.g_enumerate (pa_cons (pe_slice sl_list (pv 2) (po_some pe_int) po_none) pa_nil)) (pg_tup (by rfl) (pgs_cons (pg_name (i := 4) nd rfl (Or.inl rfl)) (pgs_cons (pg_name (i := 5) nd rfl (Or.inl rfl)) pgs_nil)))
    (pss_cons (ps_set (i := 6) nd rfl (Or.inl rfl) (pe_and (pe_cmpR op_eq (pe_ix ix_list (pv 2) pe_int (fun _ _ => rfl)) pe_str (nomark _)) (pe_and (pe_cmpR op_eq (pv 4) pe_int (nomark _)) (pe_and (pe_cmpR op_eq (pe_slice sl_str (pv 5) po_none (po_some pe_int)) pe_str (nomark _)) (pe_one (pe_cmpR op_ne (pv 5) pe_str (nomark _)))))))
    (pss_cons (ps_set (i := 7) nd rfl (Or.inl rfl) (pe_call D_law_figures.ok (hr.mono (by decide)) (by rfl) D_law_figures.g D_law_figures.kp D_law_figures.b .nil pass0 (pa_cons (pe_ifExp (pt_val (pv 6)) (pe_slice sl_str (pv 5) (po_some pe_int) po_none) (pv 5)) pa_nil)))
    (pss_cons (ps_if (pt_cmpR op_isN (pv 7) pe_non (nomark _))
    (pss_one (ps_ret pe_non))
    pss_nil)
    (pss_one (ps_expr (pe_bm PySem.F.plainAttrs_list PySem.F.slot_list_append PySem.F.type_list_append mt_append (pv 3) (pa_cons (pe_ifExp (pt_val (pv 6)) (pe_op op_sub pe_int (pv 7)) (pv 7)) pa_nil))))))))
    (pss_one (ps_ret (pe_op op_catA (pe_tup (pa_cons (pe_ix ix_list (pv 2) pe_int (fun _ _ => rfl)) pa_nil)) (pe_callTy call_tuple_of (by rfl) T.g_tuple (by decide +kernel) (pa_cons (pv 3) pa_nil))))))))))), ?_⟩
    have hls : t.length + 2 ≤ sizeLine := Nat.le_trans (Nat.add_le_add_right hl 2) (by decide +kernel)
    -- the counts
    refine seq_rt (fun σ H1 => ∃ D0, σ = [some (.str t), some (.ref D0), none, none, none, none, none, none] ∧ H D0 = none ∧ H1 D0 = some (.dK ckv9) ∧ Same H H1) (fun nx' hn => ?_) ?_
    · intro D0 hD0
      refine ⟨upd_same, ckv9, rfl, by decide, ?_⟩
      refine hn _ _ ⟨D0, rfl, hD0, ?_, fun b o e => ?_⟩
      · rw [upd_same, merge9]
      · rw [upd_ne (ne_of_none e hD0), upd_ne (ne_of_none e hD0)]
        exact e
    rintro σ H1 ⟨D0, rfl, hD0, h1, sm1⟩
    refine seq_rt (fun σ H2 => σ = [some (.str t), some (.ref D0), none, none, none, none, none, none] ∧ H2 D0 = some (.dK ckv) ∧ Same H H2) (fun nx' hn => ?_) ?_
    · refine ⟨_, rfl, D0, _, rfl, DPut.k (k := .inr "skip") h1 (by show _ < sizeLine; decide), ?_⟩
      refine hn _ _ ⟨rfl, ?_, fun b o e => ?_⟩
      · rw [upd_same]
        exact congrArg (fun z => some (HO.dK z)) cput10
      · rw [upd_ne (ne_of_none e hD0)]
        exact sm1 _ _ e
    rintro σ H2 ⟨rfl, h2, sm2⟩
    clear hD0 h1 sm1
    refine ⟨_, rfl, ⟨_, rfl⟩, t, " ", rfl, rfl, by decide +kernel, hls, fun p hp => ?_⟩
    generalize Txt.split t " " = ws at hws hstr hne k ⊢
    obtain ⟨w0, rest, rfl⟩ : ∃ w0 rest, ws = w0 :: rest := by
      cases ws with
      | nil => exact absurd rfl hne
      | cons a l => exact ⟨a, l, rfl⟩
    have sp := new_same (o := .lst ((w0 :: rest).map V.str)) hp
    have vp : upd H2 p (.lst ((w0 :: rest).map V.str)) p = some (.lst ((w0 :: rest).map V.str)) := upd_same
    have h2 := sp _ _ h2
    have s03 := sm2.trans sp
    generalize upd H2 p (.lst ((w0 :: rest).map V.str)) = H3 at sp vp h2 s03 ⊢
    dsimp only [List.set_cons_succ, List.set_cons_zero]
    have no : ∀ H', Same H3 H' → rowW (w0 :: rest) = none → Q .non H' := fun H' s e => k _ _ (s03.trans s) (by rw [e]; rfl)
    have dg : DGet H3 D0 (.str w0) ((cnts.lookup w0).map fun n : Nat => V.int (n : Int)) := by
      have q := DGet.k (k := .inr w0) h2
      rw [ckv_eq, ckv_get] at q
      exact q
    refine ⟨_, rfl, p, _, _, .str w0, rfl, rfl, SqL.of vp, atI_nat (j := 0) rfl, _, rfl, D0, _, rfl, dg, _, rfl, ?_⟩
    cases hf : formOf w0 with
    | none =>
      rw [cnt_none hf]
      exact no H3 (Same.refl _) (by unfold rowW; simp only [hf])
    | some fm =>
    rw [cnt_some hf] at dg ⊢
    have er : rowW (w0 :: rest) = if rest.length = fm.cps.size then (if ((List.range rest.length).all fun j => (litV (fm.cps.toList.getD j 0) (rest.getD j Str.empty)).isSome) = true then some ⟨w0, (List.range rest.length).map fun j => (litV (fm.cps.toList.getD j 0) (rest.getD j Str.empty)).getD 0⟩ else none) else none := by
      unfold rowW
      simp only [hf]
    have h4 := form_size hf
    refine ⟨_, rfl, p, _, rfl, .inl (SqL.of vp), _, rfl, _, rfl, p, _, _, .str w0, rfl, rfl, SqL.of vp, atI_nat (j := 0) rfl, D0, _, rfl, dg, _, _, rfl, rfl, rfl, _, rfl, ?_⟩
    by_cases hlen : rest.length = fm.cps.size
    case neg =>
      refine ite2 (fun _ => no H3 (Same.refl _) (by rw [er, if_neg hlen])) (fun hz => absurd ?_ hz)
      refine Bool.not_eq_true' _ ▸ ?_
      refine decide_eq_false fun e => hlen ?_
      have := V.int.inj e
      rw [List.length_map, List.length_cons] at this
      omega
    rw [if_pos hlen] at er
    refine iteNS (by rw [List.length_map, List.length_cons, hlen]; rfl) ?_
    let lit : Nat → Option Int := fun j => litV (fm.cps.toList.getD j 0) (rest.getD j Str.empty)
    have er2 : rowW (w0 :: rest) = if ((List.range rest.length).all fun j => (lit j).isSome) = true then some ⟨w0, (List.range rest.length).map fun j => (lit j).getD 0⟩ else none := er
    refine ⟨by show 0 ≤ sizeLine; decide, fun N hN => ?_⟩
    have sN := new_same (o := .lst []) hN
    have vN : upd H3 N (.lst []) N = some (.lst []) := upd_same
    generalize upd H3 N (.lst []) = H4 at sN vN ⊢
    dsimp only [List.set_cons_succ, List.set_cons_zero]
    refine ⟨_, rfl, _, rfl, p, _, rfl, SqL.of (sN _ _ vp), fun q hq => ?_⟩
    rw [show cutV ((w0 :: rest).map V.str) (some 1) none = rest.map V.str from cut_tail _ _]
    have sq' := new_same (o := .lst (rest.map V.str)) hq
    have vq : upd H4 q (.lst (rest.map V.str)) q = some (.lst (rest.map V.str)) := upd_same
    have vN' := sq' _ _ vN
    generalize upd H4 q (.lst (rest.map V.str)) = H5 at sq' vq vN' ⊢
    have s35 := sN.trans sq'
    refine ⟨q, _, rfl, SqL.of vq, ?_⟩
    have hN3 : H3 N = none := hN
    have hNp : N ≠ p := fun e => by rw [e, vp] at hN; cases hN
    have hNq : N ≠ q := ne_of_none vN hq
    have hl0 : (List.range rest.length).length = rest.length := List.length_range
    refine for_it walk_enum (fun i σ H6 => ∃ b4 b5 b6 b7 : Option V, σ = [some (.str t), some (.ref D0), some (.ref p), some (.ref N), b4, b5, b6, b7] ∧ Same H3 H6 ∧ H6 q = some (.lst (rest.map V.str)) ∧ H6 N = some (.lst (((List.range i).map fun j => (lit j).getD 0).map V.int)) ∧ ∀ j < i, (lit j).isSome = true)
      ⟨_, _, _, _, rfl, s35, vq, vN', fun j hj => absurd hj (Nat.not_lt_zero _)⟩ (fun i σ H6 _ ⟨_, _, _, _, _, _, h, _⟩ => SqL.of h) ?_ ?_
    · rintro i x σ H6 H7 hi ⟨b4, b5, b6, b7, rfl, s6, v6, n6, all6⟩ ⟨Tt, y, z, rfl, hT, rfl, hy, hz⟩
      have ey := Option.some.inj hy
      subst ey
      have hil : i < rest.length := by rw [List.length_map] at hi; exact hi
      obtain ⟨wi, hwi, rfl⟩ : ∃ wi, rest[i]? = some wi ∧ z = V.str wi := by
        have hz' : (rest.map V.str)[i]? = some z := hz
        rw [List.getElem?_map] at hz'
        cases e : rest[i]? with
        | none => rw [e] at hz'; cases hz'
        | some z => rw [e] at hz'; exact ⟨z, rfl, (Option.some.inj hz').symm⟩
      have hwl := hws wi (List.mem_cons_of_mem _ (List.mem_of_getElem? hwi))
      have sT := new_same (o := .tup [.int (i : Nat), .str wi]) hT
      have s7 := s6.trans sT
      have v7 := sT _ _ v6
      have n7 := sT _ _ n6
      refine ⟨Tt, _, rfl, SqT.of upd_same, rfl, _, _, rfl, _, _, rfl, rfl, ?_⟩
      generalize upd H6 Tt (.tup [.int (i : Nat), .str wi]) = H7 at s7 v7 n7 ⊢
      have vp7 := s7 _ _ vp
      have hif : i < fm.cps.size := by omega
      have el : lit i = lawL (decide (w0 = ("set" : Str)) && decide (i = 1)) wi := by
        show litV _ _ = _
        rw [getD_of hwi]
        unfold litV
        have hI := form_I hf i hif
        by_cases e : fm.cps.toList.getD i 0 = 73
        · rw [decide_eq_true e] at hI
          rw [if_pos e, ← hI, lawL_sg]
        · rw [decide_eq_false e] at hI
          rw [if_neg e, ← hI, lawL_num]
      let B : Bool := (decide (w0 = ("set" : Str)) && decide (i = 1)) && (decide ((tl wi).head? = some 45) && !decide (tl wi = [45, 48]))
      have el2 : lit i = if B = true then (numV ((tl wi).drop 1)).map (fun z => 0 - z) else numV (tl wi) := el
      dsimp only [List.set_cons_succ, List.set_cons_zero]
      refine seq_rt (fun σ H8 => σ = [some (.str t), some (.ref D0), some (.ref p), some (.ref N), some (.int (i : Int)), some (.str wi), some (.bl B), b7] ∧ H8 = H7) (fun nx' hn => ?_) ?_
      · refine ⟨_, rfl, p, _, _, .str w0, rfl, rfl, SqL.of vp7, atI_nat (j := 0) rfl, rfl, _, rfl, ?_⟩
        by_cases hA : w0 = ("set" : Str)
        case neg =>
          have hB : B = false := by show ((decide _ && _) && _) = false; rw [decide_eq_false hA]; rfl
          rw [decide_eq_false (show ¬ V.str w0 = V.str "set" from fun e => hA (V.str.inj e))]
          exact hn _ _ ⟨by rw [hB]; rfl, rfl⟩
        rw [decide_eq_true (show V.str w0 = V.str "set" by rw [hA])]
        refine ⟨_, rfl, rfl, _, rfl, ?_⟩
        by_cases h1 : i = 1
        case neg =>
          have hB : B = false := by show ((_ && decide _) && _) = false; rw [decide_eq_false h1, Bool.and_false]; rfl
          rw [decide_eq_false (show ¬ V.int (i : Int) = V.int 1 from fun e => h1 (by have := V.int.inj e; omega))]
          exact hn _ _ ⟨by rw [hB]; rfl, rfl⟩
        rw [decide_eq_true (show V.int (i : Int) = V.int 1 by rw [h1]; rfl)]
        refine ⟨_, rfl, _, rfl, wi, rfl, Nat.le_trans hwl (by decide +kernel), rfl, _, rfl, ?_⟩
        rw [cut_minus]
        have hB0 : B = (decide ((tl wi).head? = some 45) && !decide (tl wi = [45, 48])) := by show ((decide _ && decide _) && _) = _; rw [decide_eq_true hA, decide_eq_true h1]; rfl
        cases hm : decide ((tl wi).head? = some 45) with
        | false =>
          rw [hm] at hB0
          exact hn _ _ ⟨by rw [hB0]; rfl, rfl⟩
        | true =>
          rw [hm] at hB0
          refine ⟨_, rfl, rfl, ?_⟩
          rw [str_m0]
          exact hn _ _ ⟨by rw [hB0]; rfl, rfl⟩
      rintro σ H8 ⟨rfl, rfl⟩
      have hok := hstr wi (List.mem_cons_of_mem _ (List.mem_of_getElem? hwi))
      -- the number
      refine seq_rt (fun σ H9 => σ = [some (.str t), some (.ref D0), some (.ref p), some (.ref N), some (.int (i : Int)), some (.str wi), some (.bl B), some (optV (if B = true then numV ((tl wi).drop 1) else numV (tl wi)))] ∧ Same H8 H9) (fun nx' hn => ?_) ?_
      · refine ⟨_, rfl, _, rfl, ?_⟩
        cases hB : B with
        | true =>
          refine iteT ?_
          refine ⟨_, rfl, _, rfl, wi, rfl, Nat.le_trans hwl (by decide +kernel), cutS wi (some 1) none, rfl, by rw [len_tl, tl_cut1, List.length_drop]; rw [len_tl] at hwl; omega, strOk_iff.mpr fun c hc => ?_, fun H9 s9 => ?_⟩
          · rw [tl_cut1] at hc
            exact strOk_iff.mp hok c (List.mem_of_mem_drop hc)
          · rw [tl_cut1]
            exact hn _ _ ⟨by rw [hB]; rfl, s9⟩
        | false =>
          refine iteF ?_
          refine ⟨_, rfl, wi, rfl, hwl, hok, fun H9 s9 => ?_⟩
          exact hn _ _ ⟨by rw [hB]; rfl, s9⟩
      rintro σ H9 ⟨rfl, s9⟩
      have s39 := s7.trans s9
      have n9 := s9 _ _ n7
      have v9 := s9 _ _ v7
      obtain ⟨o, ho⟩ : ∃ o, (if B = true then numV ((tl wi).drop 1) else numV (tl wi)) = o := ⟨_, rfl⟩
      rw [ho]
      have el3 : lit i = if B = true then o.map (fun z => 0 - z) else o := by
        rw [el2]
        cases hB : B with
        | true => rw [hB] at ho; rw [if_pos rfl] at ho ⊢; rw [if_pos rfl, ho]
        | false => rw [hB] at ho; rw [if_neg Bool.false_ne_true] at ho ⊢; rw [if_neg Bool.false_ne_true, ho]
      refine ⟨_, rfl, rfl, _, rfl, ?_⟩
      cases o with
      | none =>
        refine no H9 s39 ?_
        rw [er2, if_neg ?_]
        intro hall
        have q := List.all_eq_true.mp hall i (List.mem_range.mpr hil)
        rw [el3] at q
        cases hB : B <;> (rw [hB] at q; cases q)
      | some z =>
        rw [decide_eq_false (show ¬ optV (some z) = V.non from fun e => by cases e)]
        have fin : ∀ y : Int, lit i = some y → ∃ b4 b5 b6 b7 : Option V, [some (.str t), some (.ref D0), some (.ref p), some (.ref N), some (.int (i : Int)), some (.str wi), some (.bl B), some (optV (some z))] = [some (.str t), some (.ref D0), some (.ref p), some (.ref N), b4, b5, b6, b7] ∧
            Same H3 (upd H9 N (.lst (((List.range i).map fun j => (lit j).getD 0).map V.int ++ [.int y]))) ∧ (upd H9 N (.lst (((List.range i).map fun j => (lit j).getD 0).map V.int ++ [.int y]))) q = some (.lst (rest.map V.str)) ∧
            (upd H9 N (.lst (((List.range i).map fun j => (lit j).getD 0).map V.int ++ [.int y]))) N = some (.lst (((List.range (i + 1)).map fun j => (lit j).getD 0).map V.int)) ∧ ∀ j < i + 1, (lit j).isSome = true := fun y hy => by
          refine ⟨_, _, _, _, rfl, fun b o e => ?_, ?_, ?_, fun j hj => ?_⟩
          · rw [upd_ne (ne_of_none e hN3)]
            exact s39 _ _ e
          · rw [upd_ne (Ne.symm hNq)]
            exact v9
          · rw [upd_same, range_snoc, List.map_append, hy]
            rfl
          · by_cases e : j = i
            · rw [e, hy]; rfl
            · exact all6 j (by omega)
        have sz : (((List.range i).map fun j => (lit j).getD 0).map V.int).length < sizeLine := by
          rw [List.length_map, List.length_map, List.length_range]
          exact small1000 (by omega)
        refine ⟨_, rfl, .inl ⟨rfl, _, SqL.of n9⟩, _, rfl, _, rfl, ?_⟩
        cases hB : B with
        | true =>
          rw [hB, if_pos rfl] at el3
          refine iteT ?_
          refine ⟨_, rfl, _, _, rfl, rfl, N, _, _, rfl, rfl, n9, sz, ?_⟩
          have := fin (0 - z) el3
          rw [hB] at this
          exact this
        | false =>
          rw [hB, if_neg Bool.false_ne_true] at el3
          refine iteF ?_
          refine ⟨_, rfl, N, _, _, rfl, rfl, n9, sz, ?_⟩
          have := fin z el3
          rw [hB] at this
          exact this
    · rintro σ H6 ⟨b4, b5, b6, b7, rfl, s6, v6, n6, all6⟩
      rw [List.length_map] at n6 all6
      have hall : ((List.range rest.length).all fun j => (lit j).isSome) = true := List.all_eq_true.mpr fun j hj => all6 j (List.mem_range.mp hj)
      rw [hall, if_pos rfl] at er2
      refine ⟨_, rfl, p, _, _, .str w0, rfl, rfl, SqL.of (s6 _ _ vp), atI_nat (j := 0) rfl, by show 1 ≤ sizeLine; decide, fun u hu0 => ?_⟩
      have su := new_same (o := .tup [.str w0]) hu0
      refine ⟨_, rfl, N, _, rfl, .inl ⟨SqL.of (su _ _ n6), fun u2 hu2 => ?_⟩⟩
      have su2 := new_same (o := .tup (((List.range rest.length).map fun j => (lit j).getD 0).map V.int)) hu2
      refine cat_any (su2 _ _ upd_same) upd_same (Nat.le_of_lt (small1000 (by rw [List.length_map, List.length_map, List.length_range]; show 1 + _ ≤ 1000; omega))) fun g H9 s9 hg => ?_
      refine k _ _ (((s03.trans s6).trans (su.trans su2)).trans s9) ?_
      rw [er2]
      exact ⟨g, rfl, hg⟩
end
end My

set_option pp.maxSteps 400
set_option Elab.async false
set_option linter.all false
set_option maxRecDepth 100000
set_option maxHeartbeats 1000000
namespace My
open PySem L2 MyR TL NumText
/-! ### numbers as texts, and read again -/
/-- the text of a number -/
def numS (z : Int) : Str := Str.ofString (toString z)
theorem tl_of (s : String) : tl (Str.ofString s) = s.toList.map Char.toNat := by
  rw [Str.ofString_eq_toList]
theorem numS_pos (n : Nat) : tl (numS (n : Int)) = numL n := tl_num n
theorem numS_neg (n : Nat) : tl (numS (-((n + 1 : Nat) : Int))) = 45 :: numL (n + 1) := by
  have e : toString (-((n + 1 : Nat) : Int)) = "-" ++ toString ((n + 1 : Nat) : Int) := rfl
  unfold numS
  rw [e, tl_of, String.toList_append, List.map_append, ← tl_of (toString ((n + 1 : Nat) : Int)), tl_num]
  rfl
theorem numS_signs {z : Int} {c : Nat} (h : c ∈ tl (numS z)) : c = 45 ∨ (48 ≤ c ∧ c ≤ 57) := by
  rcases Int.lt_or_le z 0 with hz | hz
  · obtain ⟨n, rfl⟩ : ∃ n : Nat, z = -((n + 1 : Nat) : Int) := ⟨(-z).toNat - 1, by omega⟩
    rw [numS_neg] at h
    rcases List.mem_cons.mp h with h | h
    · exact .inl h
    · exact .inr (numL_digits _ c h)
  · obtain ⟨n, rfl⟩ : ∃ n : Nat, z = (n : Int) := ⟨z.toNat, by omega⟩
    rw [numS_pos] at h
    exact .inr (numL_digits _ c h)
theorem numL_head : ∀ n : Nat, (numL n).head? = some 48 → n = 0 := by
  intro n
  induction n using Nat.strongRecOn with
  | _ n ih =>
    intro h
    by_cases h10 : n < 10
    · rw [numL_lt h10] at h
      have : 48 + n = 48 := Option.some.inj h
      omega
    · rw [numL_step (by omega)] at h
      have hne := numL_ne (n / 10)
      have h' : (numL (n / 10)).head? = some 48 := by
        cases e : numL (n / 10) with
        | nil => exact absurd e hne
        | cons a l => rw [e] at h; exact h
      have := ih (n / 10) (by omega) h'
      omega
theorem numB_num {n : Nat} (h : n < 10 ^ 20) : numB (numL n) = true := by
  have h1 := numL_len (k := 20) (by decide) h
  have h0 : 1 ≤ (numL n).length := List.length_pos_iff.mpr (numL_ne n)
  have hd : (numL n).all digB = true := by
    rw [List.all_eq_true]
    intro c hc
    have := numL_digits n c hc
    unfold digB
    rw [decide_eq_true this.1, decide_eq_true this.2]
    rfl
  have hz : (decide ((numL n).head? = some 48) && !decide (numL n = [48])) = false := by
    by_cases e : (numL n).head? = some 48
    · have e0 := numL_head n e
      subst e0
      rw [numL_lt (by decide)]
      rfl
    · rw [decide_eq_false e, Bool.false_and]
  unfold numB
  rw [decide_eq_true h0, decide_eq_true h1, hz, hd]
  rfl
theorem numV_num {n : Nat} (h : n < 10 ^ 20) : numV (tl (numS (n : Int))) = some (n : Int) := by
  rw [numS_pos]
  unfold numV
  rw [if_pos (numB_num h), numL_val]
theorem sgV_num {z : Int} (h0 : -18446744073709551616 < z) (h1 : z < 18446744073709551616) : sgV (tl (numS z)) = some z := by
  rcases Int.lt_or_le z 0 with hz | hz
  · obtain ⟨n, rfl⟩ : ∃ n : Nat, z = -((n + 1 : Nat) : Int) := ⟨(-z).toNat - 1, by omega⟩
    have hv := numV_num (n := n + 1) (Nat.lt_trans (show n + 1 < 18446744073709551616 by omega) (by decide +kernel))
    rw [numS_pos] at hv
    unfold sgV
    rw [numS_neg, if_pos (show (45 :: numL (n + 1)).head? = some 45 from rfl), List.drop_succ_cons, List.drop_zero, hv]
    show (if ((n + 1 : Nat) : Int) = 0 then none else some (-((n + 1 : Nat) : Int))) = _
    rw [if_neg (by omega)]
  · obtain ⟨n, rfl⟩ : ∃ n : Nat, z = (n : Int) := ⟨z.toNat, by omega⟩
    have hv := numV_num (n := n) (Nat.lt_trans (show n < 18446744073709551616 by omega) (by decide +kernel))
    unfold sgV
    rw [if_neg, hv]
    rw [numS_pos]
    intro e
    have hm : (45 : Nat) ∈ numL n := List.mem_of_mem_head? e
    have := numL_digits n 45 hm
    omega
theorem numS_len {z : Int} (h0 : -18446744073709551616 < z) (h1 : z < 18446744073709551616) : (numS z).length ≤ 21 := by
  rw [len_tl]
  rcases Int.lt_or_le z 0 with hz | hz
  · obtain ⟨n, rfl⟩ : ∃ n : Nat, z = -((n + 1 : Nat) : Int) := ⟨(-z).toNat - 1, by omega⟩
    rw [numS_neg, List.length_cons]
    have := numL_len (n := n + 1) (k := 20) (by decide) (Nat.lt_trans (show n + 1 < 18446744073709551616 by omega) (by decide +kernel))
    omega
  · obtain ⟨n, rfl⟩ : ∃ n : Nat, z = (n : Int) := ⟨z.toNat, by omega⟩
    rw [numS_pos]
    have := numL_len (n := n) (k := 20) (by decide) (Nat.lt_trans (show n < 18446744073709551616 by omega) (by decide +kernel))
    omega
theorem itOk_big {c : Nat} {z : Int} (h : itOk c z) : -18446744073709551616 < z ∧ z < 18446744073709551616 := by
  unfold itOk at h
  rcases h with h | h | h | h | h
  · omega
  · omega
  · omega
  · have := mods_bound z h.2
    omega
  · omega
theorem itOk_pos {c : Nat} {z : Int} (h : itOk c z) (hc : ¬ c = 73) : 0 ≤ z := by
  unfold itOk at h
  rcases h with h | h | h | h | h
  · omega
  · omega
  · omega
  · have := mods_bound z h.2
    omega
  · omega
theorem litV_ok {c : Nat} {z : Int} (h : itOk c z) : litV c (numS z) = some z := by
  have hb := itOk_big h
  unfold litV
  by_cases hc : c = 73
  · rw [if_pos hc]
    exact sgV_num hb.1 hb.2
  · rw [if_neg hc]
    have h0 := itOk_pos h hc
    obtain ⟨n, rfl⟩ : ∃ n : Nat, z = (n : Int) := ⟨z.toNat, by omega⟩
    exact numV_num (Nat.lt_trans (show n < 18446744073709551616 by omega) (by decide +kernel))
/-! ### rows and code as texts -/
def rowT (r : Rw) : List Str := r.w :: r.xs.map numS
def rowTxt (r : Rw) : Str := Txt.join " " (rowT r)
def codeTxt (rs : List Rw) : Str := Txt.join "\n" (rs.map rowTxt)
theorem forms_key : ∀ p ∈ forms, formOf p.1 = some p.2 := by decide +kernel
theorem forms_word : ∀ p ∈ forms, p.1 ≠ ("" : Str) ∧ p.1.length ≤ 5 ∧ ∀ c ∈ tl p.1, 97 ≤ c ∧ c ≤ 122 := by decide +kernel
theorem form4 : ∀ p ∈ forms, p.2.cps.size ≤ 4 := by decide +kernel
theorem ok_len {r : Rw} (h : r.ok) : r.xs.length ≤ 4 := by
  obtain ⟨⟨f, hf, hl, _⟩, _⟩ := h
  have h4 : f.cps.size ≤ 4 := form4 _ hf
  omega
theorem ok_at {r : Rw} (h : r.ok) {i : Nat} {z : Int} (hz : r.xs[i]? = some z) : ∃ (f : Str) (c : Nat), (r.w, f) ∈ forms ∧ f.cps[i]? = some c ∧ itOk c z := by
  obtain ⟨⟨f, hf, hl, hit⟩, _⟩ := h
  have hi : i < f.cps.size := by
    rw [← hl]
    exact (List.getElem?_eq_some_iff.mp hz).1
  exact ⟨f, f.cps[i], hf, Array.getElem?_eq_getElem hi, hit i _ z (Array.getElem?_eq_getElem hi) hz⟩
theorem ok_big {r : Rw} (h : r.ok) {z : Int} (hz : z ∈ r.xs) : -18446744073709551616 < z ∧ z < 18446744073709551616 := by
  obtain ⟨i, hi⟩ := List.mem_iff_getElem?.mp hz
  obtain ⟨f, c, _, _, hk⟩ := ok_at h hi
  exact itOk_big hk
/-- no blank and no new line in a word -/
theorem word_signs {r : Rw} (h : r.ok) {w : Str} (hw : w ∈ rowT r) {c : Nat} (hc : c ∈ tl w) : c = 45 ∨ (48 ≤ c ∧ c ≤ 122) := by
  obtain ⟨⟨f, hf, _⟩, _⟩ := id h
  rcases List.mem_cons.mp hw with rfl | hw
  · have := (forms_word _ hf).2.2 c hc
    exact .inr ⟨by omega, by omega⟩
  · obtain ⟨z, _, rfl⟩ := List.mem_map.mp hw
    rcases numS_signs hc with h | h
    · exact .inl h
    · exact .inr ⟨by omega, by omega⟩
theorem word_len {r : Rw} (h : r.ok) {w : Str} (hw : w ∈ rowT r) : w.length ≤ 21 := by
  obtain ⟨⟨f, hf, _⟩, _⟩ := id h
  rcases List.mem_cons.mp hw with rfl | hw
  · have := (forms_word _ hf).2.1
    show r.w.length ≤ 21
    have e : (r.w, f).1.length ≤ 5 := this
    have e : r.w.length ≤ 5 := e
    omega
  · obtain ⟨z, hz, rfl⟩ := List.mem_map.mp hw
    have := ok_big h hz
    exact numS_len this.1 this.2
theorem rowTxt_split {r : Rw} (h : r.ok) : Txt.split (rowTxt r) " " = rowT r :=
  split_join (y := " ") (s := 32) (S := []) (by decide +kernel) (by decide +kernel) (by unfold rowT; simp) (fun p hp hc => by
    have := word_signs h hp hc
    omega)
theorem rowW_rowT {r : Rw} (h : r.ok) : rowW (rowT r) = some r := by
  obtain ⟨⟨f, hf, hl, hit⟩, _⟩ := id h
  have hk : formOf r.w = some f := forms_key _ hf
  have hlen : (r.xs.map numS).length = f.cps.size := by rw [List.length_map, hl]
  have hlit : ∀ j, j < r.xs.length → litV (f.cps.toList.getD j 0) ((r.xs.map numS).getD j Str.empty) = r.xs[j]? := fun j hj => by
    have hz : r.xs[j]? = some r.xs[j] := List.getElem?_eq_getElem hj
    have hc : f.cps[j]? = some (f.cps[j]'(by omega)) := Array.getElem?_eq_getElem (by omega)
    rw [hz, getD_of (show f.cps.toList[j]? = some (f.cps[j]'(by omega)) by rw [Array.getElem?_toList]; exact hc), getD_of (show (r.xs.map numS)[j]? = some (numS r.xs[j]) by rw [List.getElem?_map, hz]; rfl)]
    exact litV_ok (hit j _ _ hc hz)
  unfold rowW rowT
  simp only [hk]
  rw [if_pos hlen, if_pos]
  · rw [List.length_map]
    congr 1
    have : (List.range r.xs.length).map (fun j => (litV (f.cps.toList.getD j 0) ((r.xs.map numS).getD j Str.empty)).getD 0) = r.xs := by
      apply List.ext_getElem?
      intro j
      by_cases hj : j < r.xs.length
      · rw [List.getElem?_map, List.getElem?_range hj, List.getElem?_eq_getElem hj]
        show some ((litV _ _).getD 0) = _
        rw [hlit j hj, List.getElem?_eq_getElem hj]
        rfl
      · rw [List.getElem?_eq_none (by rw [List.length_map, List.length_range]; omega), List.getElem?_eq_none (by omega)]
    rw [this]
  · rw [List.all_eq_true]
    intro j hj
    rw [List.length_map] at hj
    have hj := List.mem_range.mp hj
    rw [hlit j hj, List.getElem?_eq_getElem hj]
    rfl
theorem join_len (y : Str) {m : Nat} : ∀ {ps : List Str}, (∀ p ∈ ps, p.length ≤ m) → (Txt.join y ps).length ≤ ps.length * (m + y.length) := by
  intro ps h
  rw [join_eq, len_tl, tl_join]
  have : ∀ qs : List (List Nat), (∀ q ∈ qs, q.length ≤ m) → (joinL (tl y) qs).length ≤ qs.length * (m + (tl y).length) := by
    intro qs
    induction qs with
    | nil => intro _; exact Nat.zero_le _
    | cons a l ih =>
      intro hq
      have ha := hq a List.mem_cons_self
      have hl := ih fun q hq' => hq q (List.mem_cons_of_mem _ hq')
      cases l with
      | nil =>
        show a.length ≤ 1 * (m + (tl y).length)
        omega
      | cons b l =>
        show (a ++ (tl y ++ joinL (tl y) (b :: l))).length ≤ _
        rw [List.length_append, List.length_append, List.length_cons, Nat.succ_mul]
        omega
  have q := this (ps.map tl) (fun q hq => by
    obtain ⟨p, hp, rfl⟩ := List.mem_map.mp hq
    rw [← len_tl]
    exact h p hp)
  rw [List.length_map] at q
  rw [len_tl y]
  exact q
theorem rowTxt_len {r : Rw} (h : r.ok) : (rowTxt r).length ≤ 110 := by
  have q := join_len (" " : Str) (m := 21) (ps := rowT r) (fun p hp => word_len h hp)
  have e : (" " : Str).length = 1 := by decide +kernel
  have hl : (rowT r).length ≤ 5 := by
    unfold rowT
    rw [List.length_cons, List.length_map]
    have := ok_len h
    omega
  rw [e] at q
  unfold rowTxt
  omega
theorem rowTxt_signs {r : Rw} (h : r.ok) {c : Nat} (hc : c ∈ tl (rowTxt r)) : c = 32 ∨ c = 45 ∨ (48 ≤ c ∧ c ≤ 122) := by
  unfold rowTxt at hc
  rw [join_eq, tl_join, show tl (" " : Str) = [32] from by decide +kernel] at hc
  rcases mem_joinL hc with hc | ⟨p, hp, hc⟩
  · exact .inl (List.mem_singleton.mp hc)
  · obtain ⟨w, hw, rfl⟩ := List.mem_map.mp hp
    exact .inr (word_signs h hw hc)
theorem codeTxt_len {rs : List Rw} (h : ∀ r ∈ rs, r.ok) : (codeTxt rs).length ≤ rs.length * 111 := by
  have q := join_len ("\n" : Str) (m := 110) (ps := rs.map rowTxt) (fun p hp => by
    obtain ⟨r, hr, rfl⟩ := List.mem_map.mp hp
    exact rowTxt_len (h r hr))
  have e : ("\n" : Str).length = 1 := by decide +kernel
  rw [e, List.length_map] at q
  exact q
theorem codeTxt_split {rs : List Rw} (h : ∀ r ∈ rs, r.ok) (hne : rs ≠ []) : Txt.split (codeTxt rs) "\n" = rs.map rowTxt :=
  split_join (y := "\n") (s := 10) (S := []) (by decide +kernel) (by decide +kernel) (by intro e; exact hne (List.map_eq_nil_iff.mp e)) (fun p hp hc => by
    obtain ⟨r, hr, rfl⟩ := List.mem_map.mp hp
    have := rowTxt_signs (h r hr) hc
    omega)
theorem rowTxt_ne {r : Rw} (h : r.ok) : rowTxt r ≠ ("" : Str) := by
  intro e
  have q := rowTxt_split h
  rw [e] at q
  have e2 : Txt.split ("" : Str) " " = [("" : Str)] := by decide +kernel
  rw [e2] at q
  have hw : ("" : Str) = r.w := (List.cons.inj q).1
  obtain ⟨⟨f, hf, _⟩, _⟩ := h
  exact (forms_word _ hf).1 hw.symm
theorem codeTxt_nil : codeTxt [] = ("" : Str) := by decide +kernel
theorem codeTxt_ne {rs : List Rw} (h : ∀ r ∈ rs, r.ok) (hne : rs ≠ []) : codeTxt rs ≠ ("" : Str) := by
  intro e
  have q := codeTxt_split h hne
  rw [e] at q
  have e2 : Txt.split ("" : Str) "\n" = [("" : Str)] := by decide +kernel
  rw [e2] at q
  cases rs with
  | nil => exact hne rfl
  | cons r rs => exact rowTxt_ne (h r List.mem_cons_self) (List.cons.inj q).1.symm
end My

set_option pp.maxSteps 400
set_option Elab.async false
set_option linter.all false
set_option maxRecDepth 100000
set_option maxHeartbeats 1000000
namespace MyR
open PySem PySem.Spec PyProof.Rows L2
/-! ### str of a number or of a text, the text told -/
def rStrE : List V → Hp → VK → Prop := fun xs H Q => ∃ v, xs = [v] ∧
  ((∃ i : Int, v = .int i ∧ i.natAbs.log2 < 1920 ∧ Q (.str (Str.ofString (toString i))) H) ∨ ∃ s : Str, v = .str s ∧ Q (.str s) H)
theorem call_strE {X : Cx} : CallR X (.type "str") rStrE := by
  intro pins s σ H xs us Q I r h
  obtain ⟨v, rfl, h⟩ := h
  obtain ⟨u, rfl, ru⟩ := vals1 r
  rcases h with ⟨i, rfl, hz, q⟩ | ⟨z, rfl, q⟩
  · obtain ⟨t, rfl⟩ := ru
    exact PySem.P.str_of_int hz ⟨.str _, H, I.tok _, ⟨_, rfl⟩, q⟩
  · obtain ⟨t, rfl⟩ := ru
    exact PySem.P.str_of_str ⟨.str _, H, I, ⟨_, rfl⟩, q⟩
end MyR

set_option pp.maxSteps 400
set_option Elab.async false
set_option linter.all false
set_option maxRecDepth 100000
set_option maxHeartbeats 1000000
namespace MyR
open PySem PySem.Spec PyProof.Rows L2
/-! ### c(e, ..), c a local name that holds the class at C; C may raise -/
def tMakeLS (i : Nat) (C : Addr) (sp : Sp) (E : L2.St → XK) (t : TA) : TE := fun σ H Q => σ[i]? = some (some (.ref C)) ∧ tMakeS C sp E t σ H Q
section
variable {X : Cx} {CX : CXT} {k i : Nat} {f C : Addr} {fd : FuncData} {ps : List Str} {sp : Sp} {E : L2.St → XK} {x : Str} {p pos : Pos} {e : Expr} {es : List Expr} {t : TA}
theorem pe_makeLS (M : Mk X.K C f) (F : FnOk X.prog X.w X.K X.mg X.base CX k f fd ps sp) (hr : Room (k + 1) X.A) (slot : X.N[i]? = some x) (vis : Vis X.env.scope x) (hb : Binds X.K fd ps []) (hx : ∀ σ, PassesAt CX X σ (E σ)) (ha : PA X (e :: es) t)
    (d1 : (x == ("__debug__" : Str)) = false := by decide) (d2 : (x == ("__classdict__" : Str)) = false := by decide) (pl : (backTo pos (starEach es X.env)).any (·.1) = false := by rfl)
    (st : starEach (e :: es) X.env = (false, eval e X.env) :: starEach es X.env := by rfl) : PE X (.Call (.Name x p) (e :: es) [] pos) (tMakeLS i C sp E t) := by
  refine ⟨fun pins s σ H Q I ⟨hs, ht⟩ => wpAny_Call_Name_kw (thn ((pe_var (pos := p) slot vis d1 d2).run pins s σ H (fun v G => v = .ref C ∧ G = H) I ⟨.ref C, hs, rfl, rfl⟩) fun u s1 ⟨v, G, I1, rv, both⟩ => ?_)⟩
  obtain ⟨rfl, rfl⟩ := both
  obtain rfl : u = Value.ref C := rv
  exact PySem.W.callWith_K (h₀ := X.base) I1.ok.mod.kin M.kp (thn (ha.run pos pins s1 σ _ _ I1 ht) fun us s2 ⟨vs, G2, I2, r, q⟩ => ⟨I2.kIn, run_makeS M F hr hb (hx σ) I2 r q⟩) st pl
end
end MyR

set_option pp.maxSteps 400
set_option Elab.async false
set_option linter.all false
set_option maxRecDepth 100000
set_option maxHeartbeats 1000000
namespace My
open PySem L2 MyR
/-! ### InvalidText -/
def spInvT (cT : Addr) : Sp := fun vs H Q _ => ∃ (a : Addr) (y : V), vs = [.ref a, y] ∧ H a = some (exo a cT none) ∧
  ∀ (d : Addr) H', H d = none → H' a = some (exo a cT (some d)) → H' d = some (exd d [("at", y)]) → (∀ b o, H b = some o → b ≠ a → H' b = some o) → Q .non H'
structure ErrT (P : Program) (w : World) (K : PySem.W.Frag) (mg : Str → Option Value) (base : Heap) (cT : Addr) where
  f : Addr
  fd : FuncData
  x : OexC K cT
  i : PySem.W.findIn K (.ref cT) "__init__" = some (some (.ref f))
  t : PySem.W.typeIn K (.ref f) = some (.type "function")
  ok : FnOk P w K mg base CX0 1 f fd ["self", "at"] (spInvT cT)
  b : Binds K fd ["self", "at"] []
  g : mg "InvalidText" = some (.ref cT)
section
variable {P : Program} {w : World} {K : PySem.W.Frag} {mg : Str → Option Value} {base : Heap}
abbrev s_InvalidText_init : Stmt := inClass (top 2) 0
abbrev N_InvalidText_init : List Str := ["self", "at"]
theorem sc_InvalidText_init : FnScope N_InvalidText_init ["self", "at"] (defScope s_InvalidText_init) := ⟨rfl, rfl, rfl, by decide +kernel, rfl, by decide +kernel, by decide +kernel⟩
theorem ok_InvalidText_init {f cT : Addr} {fd : FuncData} (F : Fun K "__init__" "InvalidText.__init__" s_InvalidText_init f fd) (x : OexC K cT) (n1 : PySem.W.findIn K (.ref cT) "at" = some none) : FnOk P w K mg base CX0 1 f fd ["self", "at"] (spInvT cT) := by
  refine F.ok sc_InvalidText_init (fun vs H Q E h => ?_) (fun cdv A outer s H vs Q E hr h => ?_)
  · obtain ⟨a, y, rfl, _⟩ := h
    rfl
  · obtain ⟨a, y, rfl, ha, k⟩ := h
    refine ⟨_, (pss_one (ps_ost (pv 0) (pv 1))), ?_⟩
    refine ⟨_, rfl, _, rfl, a, cT, rfl, x, n1, .inl ⟨ha, fun dx hdx hne => ?_⟩⟩
    refine k dx _ hdx upd_same (by rw [upd_ne hne]; exact upd_same) fun b o e hb => ?_
    rw [upd_ne hb, upd_ne (ne_of_none e hdx)]
    exact e
end
end My

set_option pp.maxSteps 400
set_option Elab.async false
set_option linter.all false
set_option maxRecDepth 100000
set_option maxHeartbeats 1000000
namespace My
open PySem L2 MyR TL
/-! ### Code.read -/
/-- the class Code as its users know it -/
structure CodeX (P : Program) (w : World) (K : PySem.W.Frag) (mg : Str → Option Value) (base : Heap) (C cI : Addr) where
  f : Addr
  fd : FuncData
  m : Mk K C f
  ok : FnOk P w K mg base (L2.CX P w) 5 f fd ["self", "rows"] (spCode C cI)
  g : mg "Code" = some (.ref C)
  b : Binds K fd ["self", "rows"] []
  cl : Cls K C
  n_rows : NoAttr K C "rows"
/-- a code of rows of a word and numbers -/
def CodeR (C : Addr) (H : Hp) (rs : List Rw) (c : Addr) : Prop := ∃ (dx t : Addr) (as : List Addr), H c = some (.ins C dx [("rows", .ref t)]) ∧ H t = some (.tup (refs as)) ∧ RowsAt H rs as
theorem CodeR.same {C : Addr} {H H' : Hp} {rs : List Rw} {c : Addr} (h : CodeR C H rs c) (s : Same H H') : CodeR C H' rs c := let ⟨dx, t, as, e1, e2, e3⟩ := h; ⟨dx, t, as, s _ _ e1, s _ _ e2, e3.same s⟩
theorem CodeR.kept {C : Addr} {H H' : Hp} {rs : List Rw} {c d l : Addr} (h : CodeR C H rs c) (D : Deal H d l) (k : Kept d l H H') : CodeR C H' rs c :=
  let ⟨dx, t, as, e1, e2, e3⟩ := h; ⟨dx, t, as, k _ _ e1 (D.ni e1).1 (D.ni e1).2, k _ _ e2 (D.nt e2).1 (D.nt e2).2, e3.kept D k⟩
def linesT (t : Str) : List Str := if t = ("" : Str) then [] else Txt.split t "\n"
def readT (t : Str) : List (Option Rw) := (linesT t).map fun l => rowW (Txt.split l " ")
/-- the index of the first row that is none -/
def firstN : Nat → List (Option Rw) → Option Nat
  | _, [] => none
  | i, none :: _ => some i
  | i, some _ :: r => firstN (i + 1) r
theorem spl_ne (S : List Nat) : ∀ (x : List Nat) (k : Nat) (acc : List Nat), spl S k acc x ≠ []
  | [], k, acc => by rw [spl_nil]; simp
  | c :: r, 0, acc => by
    unfold spl
    split
    · simp
    · exact spl_ne S r 0 _
  | c :: r, k + 1, acc => by
    unfold spl
    exact spl_ne S r k _
theorem split_ne (x y : Str) (hy : tl y ≠ []) (hk : y.cps.all (· < 256) = true) : Txt.split x y ≠ [] := fun e => by
  have q := split_spl x y hy (kind_ok hk)
  rw [e] at q
  exact spl_ne _ _ _ _ q.symm
theorem split_blank (x : Str) : Txt.split x " " ≠ [] := split_ne x " " (by decide +kernel) (by decide +kernel)
theorem form_ok {w f : Str} (h : formOf w = some f) : PyData.strOk w = true := by
  have q : ∀ p ∈ forms, PyData.strOk p.1 = true := by decide +kernel
  exact q _ (forms_at h)
theorem rowW_some {ws : List Str} {r : Rw} (h : rowW ws = some r) : PyData.strOk r.w = true ∧ r.xs.length ≤ 4 := by
  cases ws with
  | nil => cases h
  | cons w0 rest =>
    unfold rowW at h
    cases hf : formOf w0 with
    | none => simp only [hf] at h; cases h
    | some f =>
      simp only [hf] at h
      split at h
      · rename_i hl
        split at h
        · obtain rfl := Option.some.inj h
          refine ⟨form_ok hf, ?_⟩
          rw [List.length_map, List.length_range, hl]
          exact form_size hf
        · cases h
      · cases h
theorem RowO.same {H H' : Hp} {v : V} {o : Option Rw} (s : Same H H') (h : RowO H v o) : RowO H' v o := by
  cases o with
  | none => exact h
  | some r => exact let ⟨p, e, q⟩ := h; ⟨p, e, q.same s⟩
theorem RowO.upd {H : Hp} {v : V} {o : Option Rw} {D : Addr} {xs : List V} {u : HO} (hD : H D = some (.lst xs)) (h : RowO H v o) : RowO (L2.upd H D u) v o := by
  cases o with
  | none => exact h
  | some r =>
    obtain ⟨p, e, q⟩ := h
    refine ⟨p, e, ?_⟩
    show L2.upd H D u p = _
    rw [upd_ne (ne_of q hD (by intro z; cases z))]
    exact q
theorem rows_of {H : Hp} : ∀ {us : List V} {rs : List Rw}, All2 (RowO H) us (rs.map some) → ∃ as, us = refs as ∧ RowsAt H rs as
  | _, [], .nil => ⟨[], rfl, RowsAt.nil⟩
  | _, r :: rs, .cons h t => by
    obtain ⟨p, rfl, hp⟩ := h
    obtain ⟨as, rfl, hr⟩ := rows_of t
    refine ⟨p :: as, rfl, by rw [List.length_cons, List.length_cons, hr.len], fun i r' e => ?_⟩
    cases i with
    | zero =>
      obtain rfl := Option.some.inj e
      exact ⟨p, rfl, hp⟩
    | succ i => exact hr.at_ i r' e
theorem rows_rvs {H : Hp} {d l : Addr} : ∀ {rs : List Rw} {as : List Addr}, RowsAt H rs as → (∀ r ∈ rs, PyData.strOk r.w = true) → RvsAt d l H (refs as) (rs.map Rw.rv)
  | [], [], _, _ => .nil
  | [], a :: as, h, _ => absurd h.len (by simp)
  | r :: rs, [], h, _ => absurd h.len (by simp)
  | r :: rs, a :: as, h, hw => by
    obtain ⟨p, e1, e2⟩ := h.at_ 0 r rfl
    obtain rfl := Option.some.inj e1
    exact .cons (e2.rv (hw r List.mem_cons_self)) (rows_rvs ⟨by have := h.len; simpa using this, fun i r' e => h.at_ (i + 1) r' e⟩ fun x hx => hw x (List.mem_cons_of_mem _ hx))
/-- a code is made of a list or a tuple of rows of a word and numbers -/
theorem code_made {C cI a x dx : Addr} {H : Hp} {as : List Addr} {rs : List Rw} {E : XK} {R : V → Hp → Prop} (hx : H x = none) (hd : H dx = none) (ha : H a = some (.lst (refs as)) ∨ H a = some (.tup (refs as))) (hr : RowsAt H rs as)
    (hw : ∀ r ∈ rs, PyData.strOk r.w = true ∧ r.xs.length ≤ 4) (hl : rs.length ≤ 1000) (k : due (rs.map Rw.rv) = none → ∀ H', Same H H' → CodeR C H' rs x → R .non H')
    (kE : ∀ w i, due (rs.map Rw.rv) = some (w, i) → ∀ y H', Same H H' → H' y = some (.xd [("row", .int i), ("word", .str w)]) → E (.ref cI) (some y) H') : spCode C cI [.ref x, .ref a] (upd (upd H dx (.own x)) x (.ins C dx [])) R E := by
  have sm : Same H (upd (upd H dx (.own x)) x (.ins C dx [])) := fun b o e => by
    rw [upd_ne (ne_of_none e hx), upd_ne (ne_of_none e hd)]
    exact e
  refine ⟨x, dx, a, 0, 0, refs as, rs.map Rw.rv, rfl, upd_same, ?_, rows_rvs (hr.same sm) fun r h => (hw r h).1, ⟨by rw [List.length_map]; omega, fun r h => ?_⟩, fun hdue t H' ini ht => ?_, fun w i e y H' keep hy => ?_⟩
  · rcases ha with h | h
    · exact .inl (sm _ _ h)
    · exact .inr (sm _ _ h)
  · obtain ⟨q, hq, rfl⟩ := List.mem_map.mp h
    show (It.str q.w :: q.xs.map It.int).length ≤ 100
    rw [List.length_cons, List.length_map]
    have := (hw q hq).2
    omega
  · have s2 : Same H H' := fun b o e => ini.2 b o (sm b o e) (ne_of_none e hx)
    exact k hdue H' s2 ⟨dx, t, as, ini.1, ht, hr.same s2⟩
  · exact kE w i e y H' (fun b o e => keep b o (sm b o e) (ne_of_none e hx)) hy
def spRead (C cI cT : Addr) : Sp := fun vs H Q E => ∃ t : Str, vs = [.ref C, .str t] ∧ t.length ≤ 100000 ∧ (linesT t).length ≤ 1000 ∧ (∀ l ∈ linesT t, l.length ≤ 50000 ∧ ∀ w ∈ Txt.split l " ", w.length ≤ 50000) ∧
  (∀ rs : List Rw, readT t = rs.map some → due (rs.map Rw.rv) = none → ∀ x H', Same H H' → CodeR C H' rs x → Q (.ref x) H') ∧
  (∀ i : Nat, firstN 0 (readT t) = some i → ∀ (d : Addr) H', Same H H' → H' d = some (.xd [("at", .int (i : Int))]) → E (.ref cT) (some d) H') ∧
  (∀ rs : List Rw, readT t = rs.map some → ∀ w i, due (rs.map Rw.rv) = some (w, i) → ∀ (d : Addr) H', Same H H' → H' d = some (.xd [("row", .int i), ("word", .str w)]) → E (.ref cI) (some d) H')
theorem del_same {H H2 : Hp} {x d2 : Addr} {u : HO} (hx : H x = none) (hd : H d2 = none) (keep : ∀ b o, H b = some o → H2 b = some o) : Same H (upd (del H2 x) d2 u) := fun b o e => by
  rw [upd_ne (ne_of_none e hd), del_ne (ne_of_none e hx)]
  exact keep b o e
section
variable {P : Program} {w : World} {K : PySem.W.Frag} {mg : Str → Option Value} {base : Heap}
abbrev s_Code_read : Stmt := inClass (top 22) 1
abbrev N_Code_read : List Str := ["cls", "text", "rows", "row", "at"]
theorem sc_Code_read : FnScope N_Code_read ["cls", "text"] (defScope s_Code_read) := ⟨rfl, rfl, rfl, by decide +kernel, rfl, by decide +kernel, by decide +kernel⟩
theorem ok_Code_read {f C cI cT : Addr} {fd : FuncData} (F : Fun K "read" "Code.read" s_Code_read f fd) (T : Glob mg) (M : CodeX P w K mg base C cI) (ET : ErrT P w K mg base cT) (D_read_code_row : Df P w K mg base 3 "read_code_row" ["text"] spReadRow) : FnOk P w K mg base (L2.CX P w) 7 f fd ["cls", "text"] (spRead C cI cT) := by
  refine F.okX sc_Code_read (fun vs H Q E h => ?_) (fun cdv A outer s H vs Q E hr h => ?_)
  · obtain ⟨t, rfl, _⟩ := h
    rfl
  · obtain ⟨t, rfl, htl, hn, hls, k, kT, kI⟩ := h
    have nd := sc_Code_read.nd
    have hu := hu_of hr
    refine ⟨_, (pss_cons (ps_set (i := 2) nd rfl (Or.inl rfl) (pe_ifExp (pt_cmpR op_ne (pv 1) pe_str (nomark _)) (pe_lc (own := [("row", 3)]) (g := gName 3) (tt := tYes) rfl nd (pi_list (pe_split (pv 1) pe_str)) (blkOk_by (N := N_Code_read) (sc := defScope s_Code_read) (by decide +kernel)) (fun _ _ _ _ _ => pg_name (i := 3) nd rfl (Or.inl rfl)) (fun _ _ _ _ _ => pts_nil) (fun _ _ _ _ _ => (pe_call D_read_code_row.ok (hr.mono (by decide)) (by rfl) D_read_code_row.g D_read_code_row.kp D_read_code_row.b .nil pass0 (pa_cons (pv 3) pa_nil)))) (pe_lst pa_nil)))
    (pss_cons (ps_for (passes_of rfl) rfl (pi_enum (by rfl) T.g_enumerate (pa_cons (pv 2) pa_nil)) (pg_tup (by rfl) (pgs_cons (pg_name (i := 4) nd rfl (Or.inl rfl)) (pgs_cons (pg_name (i := 3) nd rfl (Or.inl rfl)) pgs_nil)))
    (pss_one (ps_if (pt_cmpR op_isN (pv 3) pe_non (nomark _))
    (pss_one (ps_raise rfl (takes_of rfl rfl rfl rfl) (pmk_oex ET.x ET.i ET.t ET.ok (hr.mono (by decide)) ET.b .nil pass0 (by rfl) ET.g (pa_cons (pv 4) pa_nil))))
    pss_nil)))
    (pss_one (ps_ret (pe_makeLS (i := 0) M.m M.ok (hr.mono (by decide)) rfl (.inl rfl) M.b (fun σ => passAt (takes_of rfl rfl rfl rfl) σ) (pa_cons (pv 2) pa_nil)))))), ?_⟩
    -- the rows
    refine seq_by (fun σ H1 => ∃ (L : Addr) (us : List V) (a3 : Option V), σ = [some (.ref C), some (.str t), some (.ref L), a3, none] ∧ Same H H1 ∧ H1 L = some (.lst us) ∧ All2 (RowO H1) us (readT t)) (fun D' hD' => ?_) ?_
    · refine ⟨_, rfl, rfl, _, rfl, ?_⟩
      refine ite2 (fun hne => ?_) (fun he => ?_)
      · have hl : linesT t = Txt.split t "\n" := if_neg (fun e => by subst e; exact absurd hne (by decide +kernel))
        have hR : readT t = (Txt.split t "\n").map fun l => rowW (Txt.split l " ") := by unfold readT; rw [hl]
        rw [hl] at hls hn
        rw [hR] at hD'
        refine ⟨_, rfl, ⟨_, rfl⟩, t, "\n", rfl, rfl, by decide +kernel, Nat.le_trans (Nat.add_le_add_right htl 2) (by decide +kernel), fun p hp => ?_⟩
        generalize Txt.split t "\n" = ls at hls hn hD' ⊢
        refine ⟨p, rfl, ⟨_, SqL.of upd_same⟩, fun D hD => ?_⟩
        have sp := new_same (o := .lst (ls.map V.str)) hp
        have vp : upd H p (.lst (ls.map V.str)) p = some (.lst (ls.map V.str)) := upd_same
        generalize upd H p (.lst (ls.map V.str)) = H1 at sp vp hD ⊢
        refine lc_it walk_list (fun i H2 => Same H1 H2 ∧ ∃ us, H2 D = some (.lst us) ∧ All2 (RowO H2) us ((ls.take i).map fun l => rowW (Txt.split l " "))) ⟨new_same hD, [], upd_same, .nil⟩ (fun i H2 _ h => SqL.of (h.1 _ _ vp)) ?_ ?_
        · rintro i x H2 H3 hi ⟨s2, us, h2, al⟩ ⟨rfl, hx⟩
          rw [List.length_map] at hi
          have hxi : ls[i]? = some ls[i] := List.getElem?_eq_getElem hi
          obtain rfl : x = .str ls[i] := by
            rw [List.getElem?_map, hxi] at hx
            exact (Option.some.inj hx).symm
          have hm := hls _ (List.getElem_mem hi)
          refine ⟨rfl, ?_⟩
          refine ⟨_, rfl, ls[i], rfl, hm.1, hm.2, split_blank _, fun v H4 s4 ho => ?_⟩
          have h4 := s4 _ _ h2
          have al4 := al.mono fun _ _ => RowO.same s4
          have hlen : us.length = i := by
            rw [al.len, List.length_map, List.length_take]
            omega
          refine ⟨us, h4, small1000 (by omega), fun b o e => ?_, us ++ [v], upd_same, ?_⟩
          · rw [upd_ne (ne_of_none e hD)]
            exact s4 _ _ (s2 _ _ e)
          · rw [List.take_add_one, hxi, List.map_append]
            exact (al4.app (.cons ho .nil)).mono fun _ _ => RowO.upd h4
        · rintro H2 ⟨s2, us, h2, al⟩
          rw [List.length_map, List.take_length] at al
          exact hD' _ _ ⟨D, us, _, rfl, sp.trans s2, h2, al⟩
      · have e : t = ("" : Str) := by
          by_cases e : t = ("" : Str)
          · exact e
          · exact absurd (by rw [decide_eq_false (fun z => e (V.str.inj z))]; rfl) he
        have hR : readT t = [] := by
          unfold readT linesT
          rw [if_pos e]
          rfl
        rw [hR] at hD'
        refine ⟨by show 0 ≤ sizeLine; decide, fun L hL => ?_⟩
        exact hD' _ _ ⟨L, [], _, rfl, new_same hL, upd_same, .nil⟩
    rintro σ H1 ⟨L, us, a3, rfl, s1, hL, al⟩
    have hlen : us.length ≤ 1000 := by
      rw [al.len]
      unfold readT
      rw [List.length_map]
      exact hn
    -- the first one that is none
    refine seq_by (fun σ H2 => ∃ a3 a4 : Option V, σ = [some (.ref C), some (.str t), some (.ref L), a3, a4] ∧ Same H1 H2 ∧ ∃ rs : List Rw, readT t = rs.map some) (fun D' hD' => ?_) ?_
    · refine ⟨_, rfl, L, _, rfl, SqL.of hL, ?_⟩
      refine for_it walk_enum (fun i σ H2 => ∃ a3 a4 : Option V, σ = [some (.ref C), some (.str t), some (.ref L), a3, a4] ∧ Same H1 H2 ∧ (∃ rs : List Rw, (readT t).take i = rs.map some) ∧ firstN 0 (readT t) = firstN i ((readT t).drop i)) ⟨_, _, rfl, Same.refl _, ⟨[], by rw [List.take_zero]; rfl⟩, rfl⟩ (fun i σ H2 _ ⟨_, _, _, sm, _⟩ => SqL.of (sm _ _ hL)) ?_ ?_
      · rintro i x σ H2 H3 hi ⟨b3, b4, rfl, sm, ⟨rs, hrs⟩, hfi⟩ ⟨Tt, y, z, rfl, hT, rfl, hy, hz⟩
        obtain rfl := Option.some.inj hy
        obtain ⟨o, ho, hRo⟩ := al.getL hz
        have sm3 : Same H1 (upd H2 Tt (.tup [.int (i : Nat), z])) := sm.trans (new_same hT)
        have hil : i < (readT t).length := (List.getElem?_eq_some_iff.mp ho).1
        have hdr : (readT t).drop i = o :: (readT t).drop (i + 1) := by
          rw [List.drop_eq_getElem_cons hil]
          rw [List.getElem?_eq_getElem hil] at ho
          rw [Option.some.inj ho]
        rw [hdr] at hfi
        have htk : (readT t).take (i + 1) = rs.map some ++ [o] := by
          rw [List.take_add_one, hrs, ho]
          rfl
        refine ⟨Tt, _, rfl, SqT.of upd_same, rfl, _, _, rfl, _, _, rfl, rfl, ?_⟩
        generalize upd H2 Tt (.tup [.int (i : Nat), z]) = H3 at sm3 ⊢
        cases o with
        | none =>
          obtain rfl : z = .non := hRo
          refine ⟨_, rfl, rfl, _, rfl, ?_⟩
          refine iteT ?_
          refine ⟨_, rfl, (by show 1 ≤ 1000; decide), fun x hx => ?_⟩
          refine ⟨x, _, rfl, upd_same, fun d2 H4 hd2 e1 e2 keep => ⟨rfl, d2, _, e1, e2, ?_, ?_⟩⟩
          · by_cases e : d2 = x
            · rw [e]; exact hx
            · rw [upd_ne e] at hd2; exact hd2
          · have hd2' : H3 d2 = none := by
              by_cases e : d2 = x
              · rw [e]; exact hx
              · rw [upd_ne e] at hd2; exact hd2
            refine kT i hfi d2 _ ((s1.trans sm3).trans (del_same hx hd2' fun b o e => keep b o (by rw [upd_ne (ne_of_none e hx)]; exact e) (ne_of_none e hx))) upd_same
        | some r =>
          obtain ⟨p, rfl, hp⟩ := hRo
          refine ⟨_, rfl, rfl, _, rfl, ?_⟩
          refine iteF ?_
          exact ⟨_, _, rfl, sm3, ⟨rs ++ [r], by rw [htk, List.map_append]; rfl⟩, hfi⟩
      · rintro σ H2 ⟨b3, b4, rfl, sm, ⟨rs, hrs⟩, _⟩
        rw [al.len, List.take_length] at hrs
        exact hD' _ _ ⟨_, _, rfl, sm, rs, hrs⟩
    rintro σ H2 ⟨b3, b4, rfl, s2, rs, hrs⟩
    rw [hrs] at al
    obtain ⟨as, rfl, hra⟩ := rows_of (al.mono fun _ _ => RowO.same s2)
    have hw : ∀ r ∈ rs, PyData.strOk r.w = true ∧ r.xs.length ≤ 4 := fun r hr => by
      have hm : some r ∈ readT t := by rw [hrs]; exact List.mem_map_of_mem hr
      obtain ⟨l, _, hl⟩ := List.mem_map.mp hm
      exact rowW_some hl
    have s12 := s1.trans s2
    refine ⟨rfl, _, rfl, fun x dx hx hd _ => ?_⟩
    exact code_made hx hd (.inl (s2 _ _ hL)) hra hw (by have := hra.len; rw [refs_len] at hlen; omega) (fun hdue H' s' hc => ⟨rfl, k rs hrs hdue x H' (s12.trans s') hc⟩) (fun w i e y H' s' hy => kI rs hrs w i e y H' (s12.trans s') hy)
end
end My

set_option pp.maxSteps 400
set_option Elab.async false
set_option linter.all false
set_option maxRecDepth 100000
set_option maxHeartbeats 1000000
namespace My
open PySem L2 MyR TL PyProof.Rows
theorem pe_less {X : Cx} {e : Expr} {t t' : TE} (h : PE X e t) (i : ∀ σ H Q, t' σ H Q → t σ H Q) : PE X e t' := ⟨fun pins s σ H Q I q => h.run pins s σ H Q I (i σ H Q q)⟩
theorem sum_le {m : Nat} {ys : List Str} (h : ∀ y ∈ ys, y.length ≤ m) : (ys.map (·.length)).sum ≤ ys.length * m := by
  induction ys with
  | nil => simp
  | cons y ys ih =>
    rw [List.map_cons, List.sum_cons, List.length_cons, Nat.succ_mul]
    have := h y List.mem_cons_self
    have := ih fun z hz => h z (List.mem_cons_of_mem _ hz)
    omega
theorem big_log {z : Int} (h0 : -18446744073709551616 < z) (h1 : z < 18446744073709551616) : z.natAbs.log2 < 1920 := by
  by_cases e : z.natAbs = 0
  · rw [e]; decide
  · exact Nat.lt_of_lt_of_le ((Nat.log2_lt e).mpr (show z.natAbs < 2 ^ 64 by omega)) (by decide)
/-- what str gives for the item of a row with an index -/
theorem row_item {r : Rw} (h : r.ok) {i : Nat} {v : V} (hv : r.vs[i]? = some v) {H : Hp} {Q : VK} (k : ∀ s, (rowT r)[i]? = some s → Q (.str s) H) : rStrE [v] H Q := by
  cases i with
  | zero =>
    obtain rfl : V.str r.w = v := Option.some.inj hv
    exact ⟨_, rfl, .inr ⟨_, rfl, k _ rfl⟩⟩
  | succ i =>
    have hv : (r.xs.map V.int)[i]? = some v := hv
    rw [List.getElem?_map] at hv
    cases e : r.xs[i]? with
    | none => rw [e] at hv; cases hv
    | some z =>
      rw [e] at hv
      obtain rfl : V.int z = v := Option.some.inj hv
      have hb := ok_big h (List.mem_of_getElem? e)
      refine ⟨_, rfl, .inl ⟨z, rfl, big_log hb.1 hb.2, k _ ?_⟩⟩
      show (r.xs.map numS)[i]? = _
      rw [List.getElem?_map, e]
      rfl
theorem rowT_len (r : Rw) : (rowT r).length = r.xs.length + 1 := by
  unfold rowT
  rw [List.length_cons, List.length_map]
theorem vs_lenT (r : Rw) : r.vs.length = (rowT r).length := by
  unfold Rw.vs rowT
  rw [List.length_cons, List.length_cons, List.length_map, List.length_map]
theorem row_sum {r : Rw} (h : r.ok) : ((rowT r).map (·.length)).sum + (rowT r).length * (" " : Str).length ≤ 16777216 := by
  have h1 := sum_le (m := 21) (ys := rowT r) fun y hy => word_len h hy
  have h2 := rowT_len r
  have h3 := ok_len h
  have e : (" " : Str).length = 1 := by decide +kernel
  rw [e]
  omega
/-- a block that takes nothing from around it -/
theorem blk_any {N : List Str} {sc sc' scope : Scope} {own : List (Str × Nat)} (no : (scope.names.all fun y => match y.2 with | .free => false | _ => true) = true) (h : blkC N sc' scope own = true) : BlkOk N sc scope own :=
  have b := blkOk_by h
  ⟨b.kind, b.uniq, b.ix, fun y hy e => by
    have := List.all_eq_true.mp no y hy
    rw [e] at this
    exact absurd this Bool.false_ne_true, b.own⟩
/-! ### " ".join([str(x) for x in y]), y a row of code -/
def tRowTxt (i j : Nat) : TE := fun σ H Q => j < σ.length ∧ ∃ (q : Addr) (r : Rw), σ[i]? = some (some (.ref q)) ∧ RowAt H r q ∧ r.ok ∧ ∀ H', Same H H' → Q (.str (rowTxt r)) H'
theorem pe_rowtxt {X : Cx} {i j : Nat} {x y : Str} {p1 p2 p3 p4 p5 p6 p7 p8 p9 : Pos} {scope : Scope} (hc : X.calm = true) (nd : X.N.Nodup) (hy : X.N[i]? = some y) (vy : Vis X.env.scope y) (hx : X.N[j]? = some x)
    (ok : BlkOk X.N X.env.scope scope [(x, j)]) (hl : scope.names.lookup x = some .local) (gs : ∀ C cl, (compEnvC scope cl C X.env).kindOf "str" = some .globalImplicit) (ms : X.mg "str" = none) (line : (p2.endLine == p9.line) = true)
    (d1 : (y == ("__debug__" : Str)) = false) (d2 : (y == ("__classdict__" : Str)) = false) (d3 : (x == ("__debug__" : Str)) = false) (d4 : (x == ("__classdict__" : Str)) = false) :
    PE X (.Call (.Attribute (.Constant (.str " ") 0 p1) "join" p2) [.ListComp (.Call (.Name "str" p3) [.Name x p4] [] p5) [⟨.Name x p6, .Name y p7, [], 0⟩] scope p8] [] p9) (tRowTxt i j) := by
  have hl' : ∀ C cl, (compEnvC scope cl C X.env).scope.names.lookup x = some .local := fun _ _ => lookup_relabel_local hl
  refine pe_less (pe_join (o := .Constant (.str " ") 0 p1) pe_str (pe_lc (own := [(x, j)]) (g := gName j) (tt := tYes) hc nd (pi_tup (pe_var hy vy d1 d2)) ok (fun _ _ _ _ _ => pg_name (i := j) nd hx (Or.inl (hl' _ _)) (Or.inr (hl' _ _))) (fun _ _ _ _ _ => pts_nil)
    (fun _ _ _ _ _ => pe_callTy call_strE (gs _ _) ms (by decide +kernel) (pa_cons (pe_var hx (Or.inl (hl' _ _)) d3 d4) pa_nil))) rfl rfl line) ?_
  rintro σ H Q ⟨hj, q, r, hσ, hq, hok, k⟩
  refine ⟨⟨_, rfl⟩, ?_⟩
  refine ⟨_, hσ, q, rfl, ⟨_, SqT.of hq⟩, fun D2 hD2 => ?_⟩
  refine lc_it walk_tup (fun j H3 => Same H H3 ∧ H3 D2 = some (.lst (((rowT r).take j).map V.str))) ⟨new_same hD2, upd_same⟩ (fun j H3 _ h => SqT.of (h.1 _ _ hq)) ?_ ?_
  · rintro j' y' H3 H4 hj' ⟨s3, hd2⟩ ⟨rfl, hy'⟩
    have ew : wipe σ [j] = σ.set j none := rfl
    refine ⟨?_, ?_⟩
    · show wipe ((wipe σ [j]).set j (some y')) [j] = wipe σ [j]
      rw [ew]
      show ((σ.set j none).set j (some y')).set j none = _
      rw [List.set_set, List.set_set]
    refine ⟨y', ?_, ?_⟩
    · show (((wipe σ [j]).set j (some y'))[j]?) = some (some y')
      rw [ew, List.set_set, List.getElem?_set_self hj]
    dsimp only [tNil]
    refine row_item hok hy' fun s hs => ?_
    refine ⟨_, hd2, ?_, ?_, ?_⟩
    · rw [List.length_map, List.length_take]
      have := ok_len hok
      have := rowT_len r
      exact small1000 (by omega)
    · intro b o e
      rw [upd_ne (ne_of_none e hD2)]
      exact s3 _ _ e
    · rw [upd_same, List.take_add_one, hs, List.map_append]
      rfl
  · rintro H3 ⟨s3, hd2⟩
    rw [vs_lenT, List.take_length] at hd2
    exact ⟨_, D2, rowT r, rfl, rfl, .inl (SqL.of hd2), row_sum hok, k H3 s3⟩
end My

set_option pp.maxSteps 400
set_option Elab.async false
set_option linter.all false
set_option maxRecDepth 100000
set_option maxHeartbeats 1000000
namespace My
open PySem L2 MyR TL
/-! ### rows whose numbers are within their bounds, as the law asks -/
/-- a row as it is read: its form is right, what has no sign is not below 0 -/
def RdOk (r : Rw) : Prop := ∃ f, formOf r.w = some f ∧ r.xs.length = f.cps.size ∧ ∀ (i c : Nat) (z : Int), f.cps[i]? = some c → r.xs[i]? = some z → ¬ c = 73 → 0 ≤ z
theorem numV_pos {l : List Nat} {z : Int} (h : numV l = some z) : 0 ≤ z := by
  unfold numV at h
  split at h
  · have := Option.some.inj h
    omega
  · cases h
theorem rowW_rd {ws : List Str} {r : Rw} (h : rowW ws = some r) : RdOk r := by
  cases ws with
  | nil => cases h
  | cons w0 rest =>
    unfold rowW at h
    cases hf : formOf w0 with
    | none => simp only [hf] at h; cases h
    | some f =>
      simp only [hf] at h
      split at h
      · rename_i hl
        split at h
        · rename_i hall
          obtain rfl := Option.some.inj h
          refine ⟨f, hf, by show (List.map _ _).length = _; rw [List.length_map, List.length_range, hl], fun i c z hc hz hn => ?_⟩
          have hz : ((List.range rest.length).map fun j => (litV (f.cps.toList.getD j 0) (rest.getD j Str.empty)).getD 0)[i]? = some z := hz
          rw [List.getElem?_map] at hz
          have hi : i < rest.length := by
            have := (Array.getElem?_eq_some_iff.mp hc).1
            omega
          rw [List.getElem?_range hi] at hz
          have hz : (litV (f.cps.toList.getD i 0) (rest.getD i Str.empty)).getD 0 = z := Option.some.inj hz
          have ha := List.all_eq_true.mp hall i (List.mem_range.mpr hi)
          rw [getD_of (show f.cps.toList[i]? = some c by rw [Array.getElem?_toList]; exact hc)] at hz ha
          unfold litV at hz ha
          rw [if_neg hn] at hz ha
          cases hv : numV (tl (rest.getD i Str.empty)) with
          | none => rw [hv] at ha; cases ha
          | some y =>
            rw [hv] at hz
            have hz : y = z := hz
            rw [← hz]
            exact numV_pos hv
        · cases h
      · cases h
theorem len2' {xs : List Int} (h : xs.length = 2) : ∃ a b, xs = [a, b] := by
  match xs, h with
  | [a, b], _ => exact ⟨a, b, rfl⟩
theorem len3' {xs : List Int} (h : xs.length = 3) : ∃ a b c, xs = [a, b, c] := by
  match xs, h with
  | [a, b, c], _ => exact ⟨a, b, c, rfl⟩
theorem len4' {xs : List Int} (h : xs.length = 4) : ∃ a b c d, xs = [a, b, c, d] := by
  match xs, h with
  | [a, b, c, d], _ => exact ⟨a, b, c, d, rfl⟩
theorem good2 {w f : Str} {a b : Int} {c0 c1 : Nat} (h1 : formOf w = some f) (e : f.cps = #[c0, c1]) (ns : w ≠ ("skip" : Str)) : good (Rw.rv ⟨w, [a, b]⟩) = (decide (itOk c0 a) && decide (itOk c1 b)) := by
  show good (.tup [.str w, .int a, .int b]) = _
  unfold good
  simp only [h1, e, decide_eq_false ns]
  have r : List.range [It.int a, It.int b].length = [0, 1] := rfl
  rw [r]
  simp [itB]
theorem good3 {w f : Str} {a b c : Int} {c0 c1 c2 : Nat} (h1 : formOf w = some f) (e : f.cps = #[c0, c1, c2]) (ns : w ≠ ("skip" : Str)) : good (Rw.rv ⟨w, [a, b, c]⟩) = (decide (itOk c0 a) && (decide (itOk c1 b) && decide (itOk c2 c))) := by
  show good (.tup [.str w, .int a, .int b, .int c]) = _
  unfold good
  simp only [h1, e, decide_eq_false ns]
  have r : List.range [It.int a, It.int b, It.int c].length = [0, 1, 2] := rfl
  rw [r]
  simp [itB]
theorem good4 {a m c n : Int} : good (Rw.rv ⟨"skip", [a, m, c, n]⟩) = (decide (itOk 82 a) && (decide (itOk 77 m) && (decide (itOk 67 c) && decide (itOk 78 n))) && decide (c < m)) := by
  have h1 : formOf ("skip" : Str) = some ("RMCN" : Str) := by decide +kernel
  have e : ("RMCN" : Str).cps = #[82, 77, 67, 78] := by decide +kernel
  show good (.tup [.str "skip", .int a, .int m, .int c, .int n]) = _
  unfold good
  simp only [h1, e]
  have r : List.range [It.int a, It.int m, It.int c, It.int n].length = [0, 1, 2, 3] := rfl
  rw [r]
  simp [itB, lessB]
theorem reg_dec {c : Nat} {z : Int} (hc : c = 87 ∨ c = 82) (h : 0 ≤ z) : decide (itOk c z) = decide (z < 8) := decide_eq_decide.mpr ⟨fun q => by
  unfold itOk at q
  rcases q with q | q | q | q | q <;> omega, fun q => .inr (.inl ⟨hc, h, by omega⟩)⟩
theorem slot_dec {z : Int} (h : 0 ≤ z) : decide (itOk 83 z) = decide (z < 1000) := decide_eq_decide.mpr ⟨fun q => by
  unfold itOk at q
  rcases q with q | q | q | q | q <;> omega, fun q => .inr (.inr (.inl ⟨rfl, h, by omega⟩))⟩
theorem int_dec (z : Int) : decide (itOk 73 z) = (decide (-18446744073709551616 < z) && decide (z < 18446744073709551616)) := by
  rw [Bool.eq_iff_iff, decide_eq_true_iff, Bool.and_eq_true_iff, decide_eq_true_iff, decide_eq_true_iff]
  refine ⟨fun q => ?_, fun q => .inl ⟨rfl, q⟩⟩
  unfold itOk at q
  rcases q with q | q | q | q | q <;> omega
theorem num_dec {z : Int} (h : 0 ≤ z) : decide (itOk 78 z) = decide (z ≤ 1000) := decide_eq_decide.mpr ⟨fun q => by
  unfold itOk at q
  rcases q with q | q | q | q | q <;> omega, fun q => .inr (.inr (.inr (.inr ⟨.inr rfl, h, q⟩)))⟩
theorem mod_dec (z : Int) : decide (itOk 77 z) = inV (.int z) (mods.map V.int) := by
  rw [Bool.eq_iff_iff, decide_eq_true_iff]
  refine ⟨fun q => in_mods ?_, fun q => ?_⟩
  · unfold itOk at q
    rcases q with q | q | q | q | q
    · omega
    · omega
    · omega
    · exact q.2
    · omega
  · refine .inr (.inr (.inr (.inl ⟨rfl, ?_⟩)))
    unfold inV at q
    rw [List.any_map, List.any_eq_true] at q
    obtain ⟨y, hy, e⟩ := q
    have e : (y == z) = true ∨ (z == y) = true := by
      first
      | exact .inl e
      | exact .inr e
    rcases e with e | e
    · rw [← beq_iff_eq.mp e]; exact hy
    · rw [beq_iff_eq.mp e]; exact hy
theorem rest_dec {c m : Int} (h : 0 ≤ c) (hm : m ∈ mods) : (decide (itOk 67 c) && decide (c < m)) = decide (c < m) := by
  have hb := mods_bound m hm
  by_cases q : c < m
  · rw [decide_eq_true q, Bool.and_true]
    exact decide_eq_true (.inr (.inr (.inr (.inr ⟨.inl rfl, h, by omega⟩))))
  · rw [decide_eq_false q, Bool.and_false]
/-- what the law asks of a row of registers alone -/
def allLow (zs : List Int) : Bool := (zs.filter fun z => decide (7 < z)).isEmpty
theorem allLow2 (a b : Int) : allLow [a, b] = (decide (a < 8) && decide (b < 8)) := by
  unfold allLow
  by_cases h1 : 7 < a <;> by_cases h2 : 7 < b <;> simp [List.filter_cons, h1, h2] <;> omega
theorem allLow3 (a b c : Int) : allLow [a, b, c] = (decide (a < 8) && (decide (b < 8) && decide (c < 8))) := by
  unfold allLow
  by_cases h1 : 7 < a <;> by_cases h2 : 7 < b <;> by_cases h3 : 7 < c <;> simp [List.filter_cons, h1, h2, h3] <;> omega
/-- the kinds of rows -/
inductive Kd (r : Rw) : Prop
  | set (a z : Int) : r = ⟨"set", [a, z]⟩ → good r.rv = (decide (a < 8) && (decide (-18446744073709551616 < z) && decide (z < 18446744073709551616))) → Kd r
  | load (a z : Int) : r = ⟨"load", [a, z]⟩ → good r.rv = (decide (a < 8) && decide (z < 1000)) → Kd r
  | store (z a : Int) : r = ⟨"store", [z, a]⟩ → good r.rv = (decide (a < 8) && decide (z < 1000)) → Kd r
  | skip (a m c n : Int) : r = ⟨"skip", [a, m, c, n]⟩ → good r.rv = (decide (a < 8) && (inV (.int m) (mods.map V.int) && (decide (c < m) && decide (n ≤ 1000)))) → Kd r
  | other : r.w ≠ ("set" : Str) → r.w ≠ ("load" : Str) → r.w ≠ ("store" : Str) → r.w ≠ ("skip" : Str) → good r.rv = allLow r.xs → Kd r
theorem kd_of {r : Rw} (h : RdOk r) : Kd r := by
  obtain ⟨w, xs⟩ := r
  obtain ⟨f, hf, hl, hp⟩ := h
  have hm := forms_at hf
  have at2 : ∀ {a b : Int} {c0 c1 : Nat}, xs = [a, b] → f.cps = #[c0, c1] → (¬ c0 = 73 → 0 ≤ a) ∧ (¬ c1 = 73 → 0 ≤ b) := fun {a b c0 c1} e ef => by
    subst e
    exact ⟨hp 0 c0 a (by rw [ef]; rfl) rfl, hp 1 c1 b (by rw [ef]; rfl) rfl⟩
  have at3 : ∀ {a b c : Int} {c0 c1 c2 : Nat}, xs = [a, b, c] → f.cps = #[c0, c1, c2] → (¬ c0 = 73 → 0 ≤ a) ∧ (¬ c1 = 73 → 0 ≤ b) ∧ (¬ c2 = 73 → 0 ≤ c) := fun {a b c c0 c1 c2} e ef => by
    subst e
    exact ⟨hp 0 c0 a (by rw [ef]; rfl) rfl, hp 1 c1 b (by rw [ef]; rfl) rfl, hp 2 c2 c (by rw [ef]; rfl) rfl⟩
  have hq : (w = ("set" : Str) ∧ f = ("WI" : Str)) ∨ ((w = ("copy" : Str) ∨ w = ("left" : Str) ∨ w = ("right" : Str)) ∧ f = ("WR" : Str)) ∨ ((w = ("add" : Str) ∨ w = ("sub" : Str) ∨ w = ("mul" : Str)) ∧ f = ("WRR" : Str)) ∨ (w = ("load" : Str) ∧ f = ("WS" : Str)) ∨ (w = ("store" : Str) ∧ f = ("SR" : Str)) ∨ (w = ("skip" : Str) ∧ f = ("RMCN" : Str)) := by
    have q : ∀ p ∈ forms, (p.1 = ("set" : Str) ∧ p.2 = ("WI" : Str)) ∨ ((p.1 = ("copy" : Str) ∨ p.1 = ("left" : Str) ∨ p.1 = ("right" : Str)) ∧ p.2 = ("WR" : Str)) ∨ ((p.1 = ("add" : Str) ∨ p.1 = ("sub" : Str) ∨ p.1 = ("mul" : Str)) ∧ p.2 = ("WRR" : Str)) ∨ (p.1 = ("load" : Str) ∧ p.2 = ("WS" : Str)) ∨ (p.1 = ("store" : Str) ∧ p.2 = ("SR" : Str)) ∨ (p.1 = ("skip" : Str) ∧ p.2 = ("RMCN" : Str)) := by decide +kernel
    exact q _ hm
  rcases hq with ⟨rfl, rfl⟩ | ⟨hw, rfl⟩ | ⟨hw, rfl⟩ | ⟨rfl, rfl⟩ | ⟨rfl, rfl⟩ | ⟨rfl, rfl⟩
  · have e : ("WI" : Str).cps = #[87, 73] := by decide +kernel
    obtain ⟨a, z, rfl⟩ := len2' (show xs.length = 2 by rw [hl, e]; rfl)
    obtain ⟨h0, _⟩ := at2 rfl e
    refine .set a z rfl ?_
    rw [good2 hf e (show ("set" : Str) ≠ "skip" by decide +kernel), reg_dec (.inl rfl) (h0 (by decide)), int_dec]
  · have e : ("WR" : Str).cps = #[87, 82] := by decide +kernel
    obtain ⟨a, b, rfl⟩ := len2' (show xs.length = 2 by rw [hl, e]; rfl)
    obtain ⟨h0, h1⟩ := at2 rfl e
    have hn : w ≠ ("set" : Str) ∧ w ≠ ("load" : Str) ∧ w ≠ ("store" : Str) ∧ w ≠ ("skip" : Str) := by rcases hw with rfl | rfl | rfl <;> decide +kernel
    refine .other hn.1 hn.2.1 hn.2.2.1 hn.2.2.2 ?_
    rw [good2 hf e hn.2.2.2, reg_dec (.inl rfl) (h0 (by decide)), reg_dec (.inr rfl) (h1 (by decide)), allLow2]
  · have e : ("WRR" : Str).cps = #[87, 82, 82] := by decide +kernel
    obtain ⟨a, b, c, rfl⟩ := len3' (show xs.length = 3 by rw [hl, e]; rfl)
    obtain ⟨h0, h1, h2⟩ := at3 rfl e
    have hn : w ≠ ("set" : Str) ∧ w ≠ ("load" : Str) ∧ w ≠ ("store" : Str) ∧ w ≠ ("skip" : Str) := by rcases hw with rfl | rfl | rfl <;> decide +kernel
    refine .other hn.1 hn.2.1 hn.2.2.1 hn.2.2.2 ?_
    rw [good3 hf e hn.2.2.2, reg_dec (.inl rfl) (h0 (by decide)), reg_dec (.inr rfl) (h1 (by decide)), reg_dec (.inr rfl) (h2 (by decide)), allLow3]
  · have e : ("WS" : Str).cps = #[87, 83] := by decide +kernel
    obtain ⟨a, z, rfl⟩ := len2' (show xs.length = 2 by rw [hl, e]; rfl)
    obtain ⟨h0, h1⟩ := at2 rfl e
    refine .load a z rfl ?_
    rw [good2 hf e (show ("load" : Str) ≠ "skip" by decide +kernel), reg_dec (.inl rfl) (h0 (by decide)), slot_dec (h1 (by decide))]
  · have e : ("SR" : Str).cps = #[83, 82] := by decide +kernel
    obtain ⟨z, a, rfl⟩ := len2' (show xs.length = 2 by rw [hl, e]; rfl)
    obtain ⟨h0, h1⟩ := at2 rfl e
    refine .store z a rfl ?_
    rw [good2 hf e (show ("store" : Str) ≠ "skip" by decide +kernel), slot_dec (h0 (by decide)), reg_dec (.inr rfl) (h1 (by decide)), Bool.and_comm]
  · have e : ("RMCN" : Str).cps = #[82, 77, 67, 78] := by decide +kernel
    obtain ⟨a, m, c, n, rfl⟩ := len4' (show xs.length = 4 by rw [hl, e]; rfl)
    have h0 := hp 0 82 a (by rw [e]; rfl) rfl (by decide)
    have h2 := hp 2 67 c (by rw [e]; rfl) rfl (by decide)
    have h3 := hp 3 78 n (by rw [e]; rfl) rfl (by decide)
    refine .skip a m c n rfl ?_
    rw [good4, reg_dec (.inr rfl) h0, mod_dec, num_dec h3]
    cases hm' : inV (.int m) (mods.map V.int) with
    | false => cases decide (a < 8) <;> rfl
    | true =>
      have hmm : m ∈ mods := by
        have := mod_dec m
        rw [hm'] at this
        have := of_decide_eq_true this
        unfold itOk at this
        rcases this with q | q | q | q | q
        · omega
        · omega
        · omega
        · exact q.2
        · omega
      have := rest_dec (c := c) h2 hmm
      rw [← this]
      cases decide (a < 8) <;> cases decide (itOk 67 c) <;> cases decide (n ≤ 1000) <;> cases decide (c < m) <;> rfl
def spInB : Sp := fun vs H Q _ => ∃ (p : Addr) (r : Rw), vs = [.ref p] ∧ RowAt H r p ∧ RdOk r ∧ ∀ H', Same H H' → Q (.bl (good r.rv)) H'
theorem small_xs {r : Rw} (h : RdOk r) : r.xs.length ≤ 4 := by
  obtain ⟨f, hf, hl, _⟩ := h
  rw [hl]
  exact form_size hf
theorem inV2 (z x y : Str) : inV (.str z) [.str x, .str y] = (decide (z = x) || decide (z = y)) := by
  have q := inV_strs z [x, y]
  rw [show [x, y].map V.str = [V.str x, V.str y] from rfl] at q
  rw [Bool.eq_iff_iff, q, Bool.or_eq_true_iff, decide_eq_true_iff, decide_eq_true_iff]
  simp
theorem zs_dp {K : PySem.W.Frag} {H : Hp} : ∀ xs : List Int, DpAll K H (xs.map V.int) (xs.map PyData.int)
  | [] => .nil
  | x :: xs => .cons (.int x) (zs_dp xs)
theorem zs_lay : ∀ xs : List Int, PyData.canLayAll0 (xs.map PyData.int) = true
  | [] => by simp [PyData.canLayAll0]
  | x :: xs => by
    rw [List.map_cons, PyData.canLayAll0, PyData.canLay0, zs_lay xs]
    rfl
theorem zs_dep : ∀ xs : List Int, PyData.depthAll (xs.map PyData.int) = 0
  | [] => by simp [PyData.depthAll]
  | x :: xs => by
    rw [List.map_cons, PyData.depthAll, PyData.depth, zs_dep xs]
    rfl
theorem zs_shape (xs : List Int) : SeqAt.shaped (.list (xs.map PyData.int)) = true := by
  unfold SeqAt.shaped
  rw [show (PyData.list (xs.map PyData.int)).canLay0 = true from by rw [PyData.canLay0]; exact zs_lay xs, Bool.true_and]
  refine decide_eq_true ?_
  rw [PyData.depth, zs_dep]
  decide
section
variable {P : Program} {w : World} {K : PySem.W.Frag} {mg : Str → Option Value} {base : Heap}
abbrev s_law_in_bounds : Stmt := top 32
abbrev N_law_in_bounds : List Str := ["_law_row_here", "_law_word", "_law_number_here"]
theorem sc_law_in_bounds : FnScope N_law_in_bounds ["_law_row_here"] (defScope s_law_in_bounds) := ⟨rfl, rfl, rfl, by decide +kernel, rfl, by decide +kernel, by decide +kernel⟩
theorem ok_law_in_bounds {f : Addr} {fd : FuncData} (F : Fun K "_law_in_bounds" "_law_in_bounds" s_law_in_bounds f fd) (T : Glob mg) : FnOk P w K mg base CX0 1 f fd ["_law_row_here"] spInB := by
  refine F.ok sc_law_in_bounds (fun vs H Q E h => ?_) (fun cdv A outer s H vs Q E hr h => ?_)
  · obtain ⟨p, r, rfl, _⟩ := h
    rfl
  · obtain ⟨p, r, rfl, hp, hrd, k⟩ := h
    have nd := sc_law_in_bounds.nd
    have hu := hu_of hr
    refine ⟨_, (pss_cons (ps_set (i := 1) nd rfl (Or.inl rfl) (pe_ix ix_tup (pv 0) pe_int (fun _ _ => rfl)))
    (pss_cons (ps_if (pt_cmpR op_eq (pv 1) pe_str (nomark _))
    (pss_one (ps_ret (pe_and (pe_cmpR op_lt (pe_ix ix_tup (pv 0) pe_int (fun _ _ => rfl)) pe_int (nomark _)) (pe_one (pe_chain op_lt op_lt (pe_un un_neg (pe_op op_shl pe_int pe_int)) (pe_ix ix_tup (pv 0) pe_int (fun _ _ => rfl)) (pe_op op_shl pe_int pe_int)))))) 
    pss_nil)
    (pss_cons (ps_if (pt_cmpR op_in_seq (pv 1) (pe_tup (pa_cons pe_str (pa_cons pe_str pa_nil))) (by rfl))
    (pss_one (ps_ret (pe_and (pe_cmpR op_lt (pe_ix ix_tup (pv 0) (pe_op op_add pe_int (pe_callTy call_int1 (by rfl) T.g_int (by decide +kernel) (pa_cons (pe_cmpR op_eq (pv 1) pe_str (nomark _)) pa_nil))) (fun _ _ => rfl)) pe_int (nomark _)) (pe_one (pe_cmpR op_lt (pe_ix ix_tup (pv 0) (pe_op op_sub pe_int (pe_callTy call_int1 (by rfl) T.g_int (by decide +kernel) (pa_cons (pe_cmpR op_eq (pv 1) pe_str (nomark _)) pa_nil))) (fun _ _ => rfl)) pe_int (nomark _))))))
    pss_nil)
    (pss_cons (ps_if (pt_cmpR op_eq (pv 1) pe_str (nomark _))
    (pss_one (ps_ret (pe_and (pe_cmpR op_lt (pe_ix ix_tup (pv 0) pe_int (fun _ _ => rfl)) pe_int (nomark _)) (pe_and (pe_cmpR op_in_seq (pe_ix ix_tup (pv 0) pe_int (fun _ _ => rfl)) (pe_tup (pa_cons pe_int (pa_cons pe_int (pa_cons pe_int (pa_cons pe_int (pa_cons pe_int (pa_cons pe_int (pa_cons pe_int pa_nil)))))))) (by rfl)) (pe_and (pe_cmpR op_lt (pe_ix ix_tup (pv 0) pe_int (fun _ _ => rfl)) (pe_ix ix_tup (pv 0) pe_int (fun _ _ => rfl)) (nomark _)) (pe_one (pe_cmpR op_le (pe_ix ix_tup (pv 0) pe_int (fun _ _ => rfl)) pe_int (nomark _))))))))
    pss_nil)
    (pss_one (ps_ret (pe_cmpR (op_eqD hr.units) (pe_lc (own := [("_law_number_here", 2)]) (g := gName 2) rfl nd (pi_tup (pe_slice sl_tup (pv 0) (po_some pe_int) po_none)) (blkOk_by (N := N_law_in_bounds) (sc := defScope s_law_in_bounds) (by decide +kernel)) (fun _ _ _ _ _ => pg_name (i := 2) nd rfl (Or.inl rfl)) (fun _ _ _ _ _ => pts_one (pt_cmpR op_gt (pv 2) pe_int (nomark _))) (fun _ _ _ _ _ => (pv 2))) (pe_lst pa_nil) (nomark _)))))))), ?_⟩
    have hk := kd_of hrd
    have sq : ∀ H', Same H H' → SqT K H' p r.vs := fun H' s => SqT.of (s _ _ hp)
    have sq0 := sq H (Same.refl H)
    refine ⟨_, rfl, p, _, _, .str r.w, rfl, rfl, sq0, atI_nat (j := 0) rfl, ?_⟩
    dsimp only [List.set_cons_succ, List.set_cons_zero]
    refine ⟨_, rfl, rfl, _, rfl, ?_⟩
    have e64 : (1 : Int) * 2 ^ (64 : Int).toNat = 18446744073709551616 := by decide +kernel
    cases hk with
    | set a z er eg =>
      subst er
      have k := k
      rw [eg] at k
      refine iteT ?_
      refine ⟨_, rfl, p, _, _, .int a, rfl, rfl, sq0, atI_nat (j := 1) rfl, _, _, rfl, rfl, decide (a < 8), rfl, ?_⟩
      by_cases h1 : a < 8
      · rw [decide_eq_true h1] at k ⊢
        refine ⟨_, _, rfl, rfl, ⟨by decide, by decide, by decide⟩, _, rfl, _, rfl, p, _, _, .int z, rfl, rfl, sq0, atI_nat (j := 2) rfl, _, _, rfl, rfl, decide (-18446744073709551616 < z), by rw [e64], ?_⟩
        by_cases h2 : -18446744073709551616 < z
        · rw [decide_eq_true h2] at k ⊢
          refine ⟨_, _, rfl, rfl, ⟨by decide, by decide, by decide⟩, _, _, rfl, rfl, ?_⟩
          rw [e64]
          exact k H (Same.refl H)
        · rw [decide_eq_false h2] at k ⊢
          exact k H (Same.refl H)
      · rw [decide_eq_false h1] at k ⊢
        exact k H (Same.refl H)
    | load a z er eg =>
      subst er
      have k := k
      rw [eg] at k
      refine ite2 (fun h => absurd (V.str.inj (of_decide_eq_true h)) (show ("load" : Str) ≠ "set" by decide +kernel)) (fun _ => ?_)
      refine ⟨_, rfl, (by show 2 ≤ sizeLine; decide), fun u hu0 => ?_⟩
      have s1 := new_same (o := .tup [.str "load", .str "store"]) hu0
      refine ⟨u, _, rfl, .inr (SqT.of upd_same), rfl, by rfl, _, rfl, ?_⟩
      rw [inV2]
      refine ite2 (fun _ => ?_) (fun h => absurd (by rw [decide_eq_true (show ("load" : Str) = "load" from rfl), Bool.true_or]; rfl) h)
      have e1 : (1 + (if decide (V.str ("load" : Str) = V.str ("store" : Str)) = true then (1 : Int) else 0)) = ((1 : Nat) : Int) := by decide +kernel
      have e2 : (2 - (if decide (V.str ("load" : Str) = V.str ("store" : Str)) = true then (1 : Int) else 0)) = ((2 : Nat) : Int) := by decide +kernel
      refine ⟨_, rfl, _, rfl, rfl, .inr ⟨_, rfl, _, _, rfl, rfl, p, _, _, .int a, rfl, rfl, sq _ s1, (congrArg (atI _) e1).trans (atI_nat (j := 1) rfl), _, _, rfl, rfl, decide (a < 8), rfl, ?_⟩⟩
      by_cases h1 : a < 8
      · rw [decide_eq_true h1] at k ⊢
        refine ⟨_, rfl, _, rfl, rfl, .inr ⟨_, rfl, _, _, rfl, rfl, p, _, _, .int z, rfl, rfl, sq _ s1, (congrArg (atI _) e2).trans (atI_nat (j := 2) rfl), _, _, rfl, rfl, ?_⟩⟩
        exact k _ s1
      · rw [decide_eq_false h1] at k ⊢
        exact k _ s1
    | store z a er eg =>
      subst er
      have k := k
      rw [eg] at k
      refine ite2 (fun h => absurd (V.str.inj (of_decide_eq_true h)) (show ("store" : Str) ≠ "set" by decide +kernel)) (fun _ => ?_)
      refine ⟨_, rfl, (by show 2 ≤ sizeLine; decide), fun u hu0 => ?_⟩
      have s1 := new_same (o := .tup [.str "load", .str "store"]) hu0
      refine ⟨u, _, rfl, .inr (SqT.of upd_same), rfl, by rfl, _, rfl, ?_⟩
      rw [inV2]
      refine ite2 (fun _ => ?_) (fun h => absurd (by rw [decide_eq_true (show ("store" : Str) = "store" from rfl), Bool.or_true]; rfl) h)
      have e1 : (1 + (if decide (V.str ("store" : Str) = V.str ("store" : Str)) = true then (1 : Int) else 0)) = ((2 : Nat) : Int) := by decide +kernel
      have e2 : (2 - (if decide (V.str ("store" : Str) = V.str ("store" : Str)) = true then (1 : Int) else 0)) = ((1 : Nat) : Int) := by decide +kernel
      refine ⟨_, rfl, _, rfl, rfl, .inr ⟨_, rfl, _, _, rfl, rfl, p, _, _, .int a, rfl, rfl, sq _ s1, (congrArg (atI _) e1).trans (atI_nat (j := 2) rfl), _, _, rfl, rfl, decide (a < 8), rfl, ?_⟩⟩
      by_cases h1 : a < 8
      · rw [decide_eq_true h1] at k ⊢
        refine ⟨_, rfl, _, rfl, rfl, .inr ⟨_, rfl, _, _, rfl, rfl, p, _, _, .int z, rfl, rfl, sq _ s1, (congrArg (atI _) e2).trans (atI_nat (j := 1) rfl), _, _, rfl, rfl, ?_⟩⟩
        exact k _ s1
      · rw [decide_eq_false h1] at k ⊢
        exact k _ s1
    | skip a m c n er eg =>
      subst er
      have k := k
      rw [eg] at k
      refine ite2 (fun h => absurd (V.str.inj (of_decide_eq_true h)) (show ("skip" : Str) ≠ "set" by decide +kernel)) (fun _ => ?_)
      refine ⟨_, rfl, (by show 2 ≤ sizeLine; decide), fun u hu0 => ?_⟩
      have s1 := new_same (o := .tup [.str "load", .str "store"]) hu0
      refine ⟨u, _, rfl, .inr (SqT.of upd_same), rfl, by rfl, _, rfl, ?_⟩
      rw [inV2]
      refine ite2 (fun h => absurd h (by rw [decide_eq_false (show ¬ ("skip" : Str) = "load" by decide +kernel), decide_eq_false (show ¬ ("skip" : Str) = "store" by decide +kernel)]; decide)) (fun _ => ?_)
      refine ⟨_, rfl, rfl, _, rfl, iteT ?_⟩
      generalize upd H u (.tup [.str "load", .str "store"]) = H1 at s1 ⊢
      have sq1 := sq _ s1
      refine ⟨_, rfl, p, _, _, .int a, rfl, rfl, sq1, atI_nat (j := 1) rfl, _, _, rfl, rfl, decide (a < 8), rfl, ?_⟩
      by_cases h1 : a < 8
      case neg =>
        rw [decide_eq_false h1] at k ⊢
        exact k _ s1
      rw [decide_eq_true h1] at k ⊢
      refine ⟨_, rfl, p, _, _, .int m, rfl, rfl, sq1, atI_nat (j := 2) rfl, (by show 7 ≤ sizeLine; decide), fun u2 hu2 => ?_⟩
      have s2 := s1.trans (new_same (o := .tup (mods.map V.int)) hu2)
      have w2 : upd H1 u2 (.tup (mods.map V.int)) u2 = some (.tup (mods.map V.int)) := upd_same
      refine ⟨u2, mods.map V.int, rfl, .inr (SqT.of w2), rfl, mods_flat, inV (.int m) (mods.map V.int), rfl, ?_⟩
      have sq2 : SqT K (upd H1 u2 (.tup (mods.map V.int))) p _ := sq _ s2
      cases hv : inV (.int m) (mods.map V.int) with
      | false =>
        rw [hv] at k
        exact k _ s2
      | true =>
        rw [hv] at k
        refine ⟨_, rfl, p, _, _, .int c, rfl, rfl, sq2, atI_nat (j := 3) rfl, _, rfl, p, _, _, .int m, rfl, rfl, sq2, atI_nat (j := 2) rfl, _, _, rfl, rfl, decide (c < m), rfl, ?_⟩
        by_cases h3 : c < m
        · rw [decide_eq_true h3] at k ⊢
          refine ⟨_, rfl, p, _, _, .int n, rfl, rfl, sq2, atI_nat (j := 4) rfl, _, _, rfl, rfl, ?_⟩
          exact k _ s2
        · rw [decide_eq_false h3] at k ⊢
          exact k _ s2
    | other n1 n2 n3 n4 eg =>
      have k := k
      rw [eg] at k
      refine ite2 (fun h => absurd (V.str.inj (of_decide_eq_true h)) n1) (fun _ => ?_)
      refine ⟨_, rfl, (by show 2 ≤ sizeLine; decide), fun u hu0 => ?_⟩
      have s1 := new_same (o := .tup [.str "load", .str "store"]) hu0
      refine ⟨u, _, rfl, .inr (SqT.of upd_same), rfl, by rfl, _, rfl, ?_⟩
      rw [inV2]
      refine ite2 (fun h => absurd h (by rw [decide_eq_false n2, decide_eq_false n3]; decide)) (fun _ => ?_)
      refine ⟨_, rfl, rfl, _, rfl, ?_⟩
      refine ite2 (fun h => absurd (V.str.inj (of_decide_eq_true h)) n4) (fun _ => ?_)
      generalize upd H u (.tup [.str "load", .str "store"]) = H1 at s1 ⊢
      refine ⟨_, rfl, _, rfl, p, _, rfl, sq _ s1, not_whole_tail _ _, fun q hq => ?_⟩
      rw [show cutV r.vs (some 1) none = r.xs.map V.int from cut_tail _ _]
      have s2 := s1.trans (new_same (o := .tup (r.xs.map V.int)) hq)
      have w2 : upd H1 q (.tup (r.xs.map V.int)) q = some (.tup (r.xs.map V.int)) := upd_same
      generalize upd H1 q (.tup (r.xs.map V.int)) = H2 at s2 w2 ⊢
      refine ⟨q, rfl, ⟨_, SqT.of w2⟩, fun D hD => ?_⟩
      have h4 := small_xs hrd
      refine lc_it walk_tup (fun i H3 => Same H2 H3 ∧ H3 D = some (.lst (((r.xs.take i).filter fun z => decide (7 < z)).map V.int))) ⟨new_same hD, upd_same⟩ (fun i H3 _ h => SqT.of (h.1 _ _ w2)) ?_ ?_
      · rintro i x H3 H4 hi ⟨s3, hd⟩ ⟨rfl, hx⟩
        rw [List.length_map] at hi
        have hz : r.xs[i]? = some r.xs[i] := List.getElem?_eq_getElem hi
        obtain rfl : x = .int r.xs[i] := by
          rw [List.getElem?_map, hz] at hx
          exact (Option.some.inj hx).symm
        have et : (r.xs.take (i + 1)).filter (fun z => decide (7 < z)) = (r.xs.take i).filter (fun z => decide (7 < z)) ++ ([r.xs[i]].filter fun z => decide (7 < z)) := by
          rw [List.take_add_one, hz, List.filter_append]
          rfl
        refine ⟨rfl, ?_⟩
        refine ⟨_, rfl, _, _, rfl, rfl, _, rfl, ?_⟩
        refine ite2 (fun hn => ?_) (fun hn => ?_)
        · have hn : (7 : Int) < r.xs[i] := of_decide_eq_true hn
          refine ⟨_, rfl, _, hd, ?_, fun b o e => ?_, ?_⟩
          · rw [List.length_map]
            have := List.length_filter_le (fun z => decide (7 < z)) (r.xs.take i)
            rw [List.length_take] at this
            exact small1000 (by omega)
          · rw [upd_ne (ne_of_none e hD)]
            exact s3 _ _ e
          · rw [upd_same, et, List.map_append, List.filter_cons, if_pos (decide_eq_true hn)]
            rfl
        · have hn : ¬ (7 : Int) < r.xs[i] := fun e => hn (decide_eq_true e)
          refine ⟨s3, ?_⟩
          rw [et, List.filter_cons, if_neg (by rw [decide_eq_false hn]; exact Bool.false_ne_true), List.filter_nil, List.append_nil]
          exact hd
      · rintro H3 ⟨s3, hd⟩
        rw [List.length_map, List.take_length] at hd
        refine ⟨by show 0 ≤ sizeLine; decide, fun e he => ?_⟩
        have s5 := new_same (o := .lst []) he
        refine ⟨.list ((r.xs.filter fun z => decide (7 < z)).map .int), .list [], .lst (SqL.of (s5 _ _ hd)) (zs_dp _), .lst (SqL.of upd_same) .nil, zs_shape _, rfl, ?_⟩
        have ee : PyData.eqv (.list ((r.xs.filter fun z => decide (7 < z)).map .int)) (.list []) = allLow r.xs := by
          unfold allLow
          cases r.xs.filter fun z => decide (7 < z) <;> simp [PyData.eqv, PyData.eqvAll]
        rw [ee]
        exact k _ ((s2.trans s3).trans s5)
end
end My

set_option pp.maxSteps 400
set_option Elab.async false
set_option linter.all false
set_option maxRecDepth 100000
set_option maxHeartbeats 1000000
namespace MyR
open PySem PySem.Spec PyProof.Rows L2 CwR Builtin Builtin.Str
/-! ### x.replace(y, z, 1), y and z written -/
def rep1 (x y z : Str) : Str := if ((occurrences x y 0 x.length 1).isEmpty || (y.length == 0 && z.length == 0)) = true then x else glued z (partsBetween x (occurrences x y 0 x.length 1) y.length)
theorem gives_rep1 (x y z : Str) (t u v c : Tok) (h0 : (u == 0 || v == 0) = false) (huv : (u == v) = false) (hyz : (y == z) = false) (hl : tooLong (x.length + (occurrences x y 0 x.length 1).length * z.length) = false) :
    Gives («str.replace» ⟨[.str x t, .str y u, .str z v, .int 1 c], []⟩) (if ((occurrences x y 0 x.length 1).isEmpty || (y.length == 0 && z.length == 0)) = true then .val (.str x t) else .str (glued z (partsBetween x (occurrences x y 0 x.length 1) y.length))) := by
  show Gives (if ((occurrences x y 0 x.length 1).isEmpty || (y.length == 0 && z.length == 0)) = true then (do rule "str.replace.nothing"; ret (.str x t)) else
    (do let same ← isSame (.str y u) (.str z v)
        if same = true then (do rule "str.replace.old-is-new"; ret (.str x t)) else
        if tooLong (x.length + (occurrences x y 0 x.length 1).length * z.length) = true then unsupported "str.replace:memory" else
        retStr (glued z (partsBetween x (occurrences x y 0 x.length 1) y.length)))) _
  cases hc : ((occurrences x y 0 x.length 1).isEmpty || (y.length == 0 && z.length == 0))
  · rw [isSame_str_other y z u v h0 huv hyz, hl]
    exact .of_eq rfl
  · exact .rule (.of_eq rfl)
theorem call_rep1 {prog : Program} {w : World} {A : Around} {E : Value → Shared → Prop} {s : Shared} {x y z : Str} {t u v c : Tok} {Q : Value → Shared → Prop} (hu : u ≠ 0) (hv : v ≠ 0) (huv : u ≠ v) (hyz : (y == z) = false) (hb : x.length + (x.length + 1) * z.length ≤ 16777216)
    (hq : ∀ t' k, Q (.str (rep1 x y z) t') { s with toks := k }) : wpAny (model prog w) A (call (.builtin "str.replace") [.str x t, .str y u, .str z v, .int 1 c]) Q E s := by
  have hlen := StrLaws.occ_length_le x y 0 x.length 1
  have hl : tooLong (x.length + (occurrences x y 0 x.length 1).length * z.length) = false := by
    have h2 : (occurrences x y 0 x.length 1).length * z.length ≤ 1 * z.length := Nat.mul_le_mul_right _ hlen
    have h3 : 1 * z.length ≤ (x.length + 1) * z.length := Nat.mul_le_mul_right _ (by omega)
    unfold tooLong sizeLine
    exact decide_eq_false (by omega)
  refine call_gives PySem.F.slot_str_replace (typeIs_str _ _ _) PySem.F.entry_str_replace (PySem.F.args_str_replace_4 _ _ _ _)
    (gives_rep1 x y z t u v c (by simp [hu, hv]) (by simp [huv]) hyz hl) ?_
  unfold rep1 at hq
  cases hc : ((occurrences x y 0 x.length 1).isEmpty || (y.length == 0 && z.length == 0))
  · rw [hc] at hq
    simp only [Bool.false_eq_true, if_false] at hq ⊢
    refine ⟨?_, hq _ _⟩
    have hy : (glued y (partsBetween x (occurrences x y 0 x.length 1) y.length)).length = x.length := by rw [StrLaws.glued_between_self]
    rw [size_glued, length_partsBetween, Nat.add_sub_cancel] at hy
    rw [size_glued, length_partsBetween, Nat.add_sub_cancel]
    have h2 : (occurrences x y 0 x.length 1).length * z.length ≤ (x.length + 1) * z.length := Nat.mul_le_mul_right _ (by omega)
    have e24 : sizeLine = 16777216 := by decide
    omega
  · rw [hc] at hq
    simp only [if_true] at hq ⊢
    exact hq t s.toks
/-- the reading of it -/
def tRep1 (to : TE) (y z : Str) : TE := fun σ H Q => to σ H fun v H1 => ∃ x, v = .str x ∧ x.length + (x.length + 1) * z.length ≤ 16777216 ∧ Q (.str (rep1 x y z)) H1
section
variable {X : Cx} {o e : Expr} {es : List Expr} {te to : TE} {ta : TA} {y z : Str} {j k i : Nat} {c0 c1 c2 apos pos : Pos}
theorem pet_rep1 (ho : PE X o to) (hyz : (y == z) = false := by decide)
    (hst : starEach [.Constant (.str y) j c0, .Constant (.str z) k c1, .Constant (.int 1) i c2] X.env = [(false, eval (.Constant (.str y) j c0) X.env), (false, eval (.Constant (.str z) k c1) X.env), (false, eval (.Constant (.int 1) i c2) X.env)] := by rfl)
    (hbase : attributeBase o "replace" X.env (eval o X.env) = eval o X.env := by rfl) (hline : (apos.endLine == pos.line) = true := by rfl) :
    PET X (.Call (.Attribute o "replace" apos) [.Constant (.str y) j c0, .Constant (.str z) k c1, .Constant (.int 1) i c2] [] pos) (tRep1 to y z) := by
  intro pins s σ H Q tok I h
  refine PySem.wpAny_Call_method_lateS hbase (by rw [hst]; rfl) hline (wpAny_mono (PySem.wpAny_toks (ho.run pins s σ H _ I h)) (fun v s1 q => ?_) fun _ _ z => z.2)
  rw [hst]
  obtain ⟨more, v', H1, I1, r1, x, e1, hb, q⟩ := q
  subst e1
  obtain ⟨tx, e2⟩ := r1
  subst e2
  refine ⟨"str", _, PySem.F.plainAttrs_str, PySem.F.slot_str_replace, PySem.F.type_str_replace, typeIs_str _ _ _, (fun _ e => nomatch e), Calls.callWith_builtin rfl (Calls.evalArgs_plain (Calls.spliced_cons ?_))⟩
  refine Calls.Constant_str (k := j) (pos := c0) (Calls.spliced_cons (Calls.Constant_str (k := k) (pos := c1) (Calls.spliced_cons (wpAny_Constant_int (k := i) (pos := c2) (Calls.spliced_nil ?_)))))
  exact call_rep1 (by show s1.toks ≠ 0; omega) (by show s1.toks + 1 ≠ 0; omega) (by show s1.toks ≠ s1.toks + 1; omega) hyz hb fun t' k' => ⟨.str (rep1 x y z), H1, I1.tok k', ⟨t', rfl⟩, q⟩
/-- behind a + b with b a written text a token is out -/
def PEK (X : Cx) (e : Expr) (t : TE) : Prop := ∀ (pins : List (Addr × Obj)) (s : Shared) (σ : L2.St) (H : Hp) (Q : VK), Inv X pins σ H s → t σ H Q → wpAny (model X.prog X.w) X.A (eval e X.env) (fun v s1 => 1 ≤ s1.toks ∧ EP X pins σ Q v s1) X.xe s
theorem pek_opC {op : Operator} {r : R2} (ho : OpR X (binaryOp op) r) (ha : PE X e te) : PEK X (.BinOp e op (.Constant (.str y) j c0) pos) (tOp r te (tC (.str y))) := by
  intro pins s σ H Q I h
  refine wpAny_BinOp (thn (ha.run pins s σ H _ I h) fun v s1 ⟨x, H1, I1, r1, q1⟩ => ?_)
  refine Calls.Constant_str ?_
  refine wpAny_mono (PySem.wpAny_toks_of (n := 1) (by show 1 ≤ s1.toks + 1; omega) (ho pins _ σ H1 x (.str y) v (.str y s1.toks) Q (I1.tok _) r1 ⟨_, rfl⟩ q1)) (fun _ _ z => z) fun _ _ z => z.2
theorem pa_tok (ha : PEK X e te) (hr : PAT X es ta) (hs : starEach (e :: es) X.env = (false, eval e X.env) :: starEach es X.env := by rfl) : PA X (e :: es) (tCons te ta) := by
  refine ⟨fun pos pins s σ H Q I h => ?_⟩
  rw [hs]
  show wpAny _ _ (spliced ((false, eval e X.env) :: backTo pos (starEach es X.env))) _ _ s
  refine Calls.spliced_cons (thn (ha pins s σ H _ I h) fun u s1 ⟨tok, x, H1, I1, r1, q1⟩ => ?_)
  exact thn (hr pos pins s1 σ H1 _ tok I1 q1) fun us s2 ⟨xs, H2, I2, r2, q2⟩ => ⟨x :: xs, H2, I2, .cons r1 r2, q2⟩
end
end MyR

set_option pp.maxSteps 400
set_option Elab.async false
set_option linter.all false
set_option maxRecDepth 100000
set_option maxHeartbeats 1000000
namespace My
open PySem L2 MyR TL StrLaws PySem.W.KOpn
/-! ### bounds of texts -/
/-- at most n signs, k of them new lines, all of them ASCII -/
structure TOk (n k : Nat) (l : List Nat) : Prop where
  len : l.length ≤ n
  cnt : l.count 10 ≤ k
  asc : ∀ c ∈ l, c < 128
theorem TOk.mono {n k m j : Nat} {l : List Nat} (h : TOk n k l) (h1 : n ≤ m) (h2 : k ≤ j) : TOk m j l := ⟨Nat.le_trans h.len h1, Nat.le_trans h.cnt h2, h.asc⟩
theorem TOk.nil {n k : Nat} : TOk n k [] := ⟨Nat.zero_le _, Nat.zero_le _, fun c h => by cases h⟩
theorem TOk.app {n k m j : Nat} {a b : List Nat} (h : TOk n k a) (g : TOk m j b) : TOk (n + m) (k + j) (a ++ b) := ⟨by rw [List.length_append]; have := h.len; have := g.len; omega, by rw [List.count_append]; have := h.cnt; have := g.cnt; omega, fun c hc => by
  rcases List.mem_append.mp hc with hc | hc
  · exact h.asc c hc
  · exact g.asc c hc⟩
theorem TOk.sub {n k : Nat} {a b : List Nat} (s : a.Sublist b) (h : TOk n k b) : TOk n k a := ⟨Nat.le_trans s.length_le h.len, Nat.le_trans (s.count_le _) h.cnt, fun c hc => h.asc c (s.subset hc)⟩
theorem TOk.str {n k : Nat} {t : Str} (h : TOk n k (tl t)) : PyData.strOk t = true := by
  unfold PyData.strOk
  rw [Array.all_eq_true']
  intro c hc
  have := h.asc c (Array.mem_toList_iff.mpr hc)
  exact decide_eq_true (by omega)
/-- words: the signs of each and one more, the new lines -/
def wgt (ws : List (List Nat)) : Nat := (ws.map fun w => w.length + 1).sum
def nls (ws : List (List Nat)) : Nat := (ws.map fun w => w.count 10).sum
structure WOk (n k : Nat) (ws : List (List Nat)) : Prop where
  w : wgt ws ≤ n
  n : nls ws ≤ k
  asc : ∀ w ∈ ws, ∀ c ∈ w, c < 128
theorem wgt_app (a b : List (List Nat)) : wgt (a ++ b) = wgt a + wgt b := by unfold wgt; rw [List.map_append, List.sum_append]
theorem nls_app (a b : List (List Nat)) : nls (a ++ b) = nls a + nls b := by unfold nls; rw [List.map_append, List.sum_append]
theorem WOk.mono {n k m j : Nat} {l : List (List Nat)} (h : WOk n k l) (h1 : n ≤ m) (h2 : k ≤ j) : WOk m j l := ⟨Nat.le_trans h.w h1, Nat.le_trans h.n h2, h.asc⟩
theorem WOk.app {n k m j : Nat} {a b : List (List Nat)} (h : WOk n k a) (g : WOk m j b) : WOk (n + m) (k + j) (a ++ b) := ⟨by rw [wgt_app]; have := h.w; have := g.w; omega, by rw [nls_app]; have := h.n; have := g.n; omega, fun w hw => by
  rcases List.mem_append.mp hw with hw | hw
  · exact h.asc w hw
  · exact g.asc w hw⟩
theorem WOk.one {n k : Nat} {l : List Nat} (h : TOk n k l) : WOk (n + 1) k [l] := ⟨by show l.length + 1 + 0 ≤ n + 1; have := h.len; omega, by show l.count 10 + 0 ≤ k; exact h.cnt, fun w hw => by rw [List.mem_singleton.mp hw]; exact h.asc⟩
theorem WOk.take {n k : Nat} {ws : List (List Nat)} (i : Nat) (h : WOk n k ws) : WOk n k (ws.take i) := by
  have e := List.take_append_drop i ws
  have h1 := wgt_app (ws.take i) (ws.drop i)
  have h2 := nls_app (ws.take i) (ws.drop i)
  rw [e] at h1 h2
  exact ⟨by have := h.w; omega, by have := h.n; omega, fun w hw => h.asc w (List.mem_of_mem_take hw)⟩
theorem WOk.drop {n k : Nat} {ws : List (List Nat)} (i : Nat) (h : WOk n k ws) : WOk n k (ws.drop i) := by
  have e := List.take_append_drop i ws
  have h1 := wgt_app (ws.take i) (ws.drop i)
  have h2 := nls_app (ws.take i) (ws.drop i)
  rw [e] at h1 h2
  exact ⟨by have := h.w; omega, by have := h.n; omega, fun w hw => h.asc w (List.mem_of_mem_drop hw)⟩
theorem join_wgt (s : Nat) : ∀ ws : List (List Nat), ws ≠ [] → (joinL [s] ws).length + 1 = wgt ws
  | [], h => absurd rfl h
  | [p], _ => by show p.length + 1 = p.length + 1 + 0; omega
  | p :: q :: r, _ => by
    have ih := join_wgt s (q :: r) (by simp)
    show (p ++ ([s] ++ joinL [s] (q :: r))).length + 1 = p.length + 1 + wgt (q :: r)
    rw [List.length_append, List.length_append, List.length_singleton]
    omega
theorem join_nls (s : Nat) : ∀ ws : List (List Nat), (joinL [s] ws).count 10 ≤ nls ws + (if s = 10 then ws.length else 0)
  | [] => Nat.zero_le _
  | [p] => by show p.count 10 ≤ p.count 10 + 0 + _; omega
  | p :: q :: r => by
    have ih := join_nls s (q :: r)
    show (p ++ ([s] ++ joinL [s] (q :: r))).count 10 ≤ p.count 10 + nls (q :: r) + _
    rw [List.count_append, List.count_append]
    have h1 : ([s] : List Nat).count 10 = if s = 10 then 1 else 0 := by
      by_cases h : s = 10
      · rw [h]; rfl
      · rw [if_neg h]
        exact List.count_eq_zero.mpr fun e => h (List.mem_singleton.mp e).symm
    rw [h1]
    simp only [List.length_cons] at ih ⊢
    by_cases h : s = 10
    · rw [if_pos h] at *
      rw [if_pos h]
      omega
    · rw [if_neg h] at *
      rw [if_neg h]
      omega
theorem nls_join {s : Nat} (hs : s ≠ 10) : ∀ ws : List (List Nat), (joinL [s] ws).count 10 = nls ws
  | [] => rfl
  | [p] => by show p.count 10 = p.count 10 + 0; omega
  | p :: q :: r => by
    have ih := nls_join hs (q :: r)
    show (p ++ ([s] ++ joinL [s] (q :: r))).count 10 = p.count 10 + nls (q :: r)
    rw [List.count_append, List.count_append, ih, List.count_eq_zero.mpr fun e => hs (List.mem_singleton.mp e).symm]
    omega
theorem mem_join {S : List Nat} {c : Nat} : ∀ {ps : List (List Nat)}, (∀ p ∈ ps, ∀ c ∈ p, c < 128) → (∀ c ∈ S, c < 128) → c ∈ joinL S ps → c < 128
  | [], _, _, h => by cases h
  | [p], hp, _, h => hp p (List.mem_singleton.mpr rfl) c h
  | p :: q :: r, hp, hS, h => by
    rcases List.mem_append.mp h with h | h
    · exact hp p List.mem_cons_self c h
    · rcases List.mem_append.mp h with h | h
      · exact hS c h
      · exact mem_join (fun x hx => hp x (List.mem_cons_of_mem _ hx)) hS h
theorem join_len0 (s : Nat) (ws : List (List Nat)) : (joinL [s] ws).length ≤ wgt ws := by
  cases ws with
  | nil => exact Nat.zero_le _
  | cons a l => have := join_wgt s (a :: l) (by simp); omega
/-- words joined by a sign -/
theorem WOk.join {n k s : Nat} {ws : List (List Nat)} (h : WOk n k ws) (hs : s < 128) : TOk n (k + if s = 10 then ws.length else 0) (joinL [s] ws) := ⟨Nat.le_trans (join_len0 s ws) h.w, by have := join_nls s ws; have := h.n; omega, fun c hc => mem_join h.asc (fun c hc => by rw [List.mem_singleton.mp hc]; exact hs) hc⟩
theorem mem_of_join {S : List Nat} {c : Nat} : ∀ {ps : List (List Nat)} {p : List Nat}, p ∈ ps → c ∈ p → c ∈ joinL S ps
  | [q], p, hp, hc => by rw [List.mem_singleton.mp hp] at hc; exact hc
  | q :: r :: rs, p, hp, hc => by
    show c ∈ q ++ (S ++ joinL S (r :: rs))
    rcases List.mem_cons.mp hp with rfl | hp
    · exact List.mem_append_left _ hc
    · exact List.mem_append_right _ (List.mem_append_right _ (mem_of_join hp hc))
theorem spl_nz (S : List Nat) : ∀ (x : List Nat) (k : Nat) (acc : List Nat), spl S k acc x ≠ []
  | [], k, acc => by rw [spl_nil]; simp
  | c :: r, 0, acc => by
    unfold spl
    split
    · simp
    · exact spl_nz S r 0 _
  | c :: r, k + 1, acc => by
    unfold spl
    exact spl_nz S r k _
/-- a text, split -/
theorem join_spl {x y : Str} (hy : tl y ≠ []) (hk : y.cps.all (· < 256) = true) : joinL (tl y) ((Txt.split x y).map tl) = tl x ∧ (Txt.split x y).map tl = spl (tl y) 0 [] (tl x) := by
  refine ⟨?_, split_spl x y hy (kind_ok hk)⟩
  have e := PySem.StrLaws.join_split x y
  rw [← tl_join, e]
theorem split_wok {x y : Str} {s n k : Nat} (ey : tl y = [s]) (hk : y.cps.all (· < 256) = true) (hs : s ≠ 10) (h : TOk n k (tl x)) : WOk (n + 1) k ((Txt.split x y).map tl) := by
  obtain ⟨e1, e2⟩ := join_spl (x := x) (y := y) (by rw [ey]; simp) hk
  rw [ey] at e1 e2
  refine ⟨?_, ?_, fun w hw c hc => ?_⟩
  · have := join_wgt s ((Txt.split x y).map tl) (by rw [e2]; exact spl_nz _ _ _ _)
    rw [e1] at this
    have := h.len
    omega
  · rw [← nls_join hs, e1]
    exact h.cnt
  · exact h.asc c (by rw [← e1]; exact mem_of_join hw hc)
/-- how many pieces, how long -/
theorem spl_cnt (s : Nat) : ∀ (x acc : List Nat), (spl [s] 0 acc x).length = x.count s + 1
  | [], acc => by rw [spl_nil]; rfl
  | c :: r, acc => by
    unfold spl
    by_cases h : c = s
    · subst h
      rw [if_pos (by unfold pre; simp), List.length_cons]
      have e : ([c] : List Nat).length - 1 = 0 := rfl
      rw [e, spl_cnt c r [], List.count_cons_self]
    · rw [if_neg (by unfold pre; simp; exact fun e => h (by first | exact e | exact e.symm)), spl_cnt s r, List.count_cons_of_ne (by first | exact h | exact fun e => h (by simpa using e))]
theorem spl_le (S : List Nat) : ∀ (x : List Nat) (k : Nat) (acc : List Nat), ∀ p ∈ spl S k acc x, p.length ≤ acc.length + x.length
  | [], k, acc, p, hp => by
    rw [spl_nil] at hp
    rw [List.mem_singleton.mp hp]
    exact Nat.le_add_right _ _
  | c :: r, 0, acc, p, hp => by
    unfold spl at hp
    rw [List.length_cons]
    split at hp
    · rcases List.mem_cons.mp hp with rfl | hp
      · omega
      · have := spl_le S r _ [] p hp
        rw [List.length_nil] at this
        omega
    · have := spl_le S r 0 _ p hp
      rw [List.length_append, List.length_singleton] at this
      omega
  | c :: r, k + 1, acc, p, hp => by
    unfold spl at hp
    rw [List.length_cons]
    have := spl_le S r k acc p hp
    omega
theorem split_le {x y : Str} (hy : tl y ≠ []) (hk : y.cps.all (· < 256) = true) : ∀ p ∈ Txt.split x y, p.length ≤ x.length := fun p hp => by
  have e := (join_spl (x := x) (y := y) hy hk).2
  have := spl_le (tl y) (tl x) 0 [] (tl p) (by rw [← e]; exact List.mem_map_of_mem hp)
  rw [List.length_nil, Nat.zero_add] at this
  rw [len_tl, len_tl x]
  exact this
theorem split_num {x y : Str} {s : Nat} (ey : tl y = [s]) (hk : y.cps.all (· < 256) = true) : (Txt.split x y).length = (tl x).count s + 1 := by
  have e := (join_spl (x := x) (y := y) (by rw [ey]; simp) hk).2
  have := congrArg List.length e
  rw [List.length_map, ey, spl_cnt] at this
  exact this
theorem cut_sub (w : Str) (lo hi : Option Int) : (tl (cutS w lo hi)).Sublist (tl w) := by
  unfold cutS
  show (List.take _ (List.drop _ (tl w))).Sublist (tl w)
  exact (List.take_sublist _ _).trans (List.drop_sublist _ _)
/-! ### upper, and a sign put in -/
def upc (c : Nat) : Nat := if 97 ≤ c ∧ c ≤ 122 then c - 32 else c
theorem tl_upper : ∀ l : List Nat, (∀ c ∈ l, c < 128) → tl (Txt.upper ⟨l.toArray⟩) = l.map upc
  | [], _ => by
    have e : Txt.upper ⟨([] : List Nat).toArray⟩ = ("" : Str) := by decide +kernel
    rw [e]
    rfl
  | c :: r, h => by
    have e : (⟨(c :: r).toArray⟩ : Str) = (⟨#[c]⟩ : Str) ++ (⟨r.toArray⟩ : Str) := ext_tl (by rw [tl_append]; rfl)
    rw [e, upper_app, tl_append, tl_upper r fun x hx => h x (List.mem_cons_of_mem _ hx), upper_one (h c List.mem_cons_self)]
    rfl
theorem upc_10 (c : Nat) : upc c = 10 ↔ c = 10 := by
  unfold upc
  split <;> omega
theorem count_upc : ∀ l : List Nat, (l.map upc).count 10 = l.count 10
  | [] => rfl
  | c :: r => by
    rw [List.map_cons]
    by_cases h : c = 10
    · rw [h, show upc 10 = 10 from rfl, List.count_cons_self, List.count_cons_self, count_upc r]
    · rw [List.count_cons_of_ne (fun e => h ((upc_10 c).mp (by first | exact e | exact e.symm))), List.count_cons_of_ne (by first | exact h | exact fun e => h e.symm), count_upc r]
theorem upper_tok {n k : Nat} {t : Str} (h : TOk n k (tl t)) : TOk n k (tl (Txt.upper t)) := by
  have e := tl_upper (tl t) h.asc
  rw [mk_tl] at e
  rw [e]
  refine ⟨by rw [List.length_map]; exact h.len, by rw [count_upc]; exact h.cnt, fun c hc => ?_⟩
  obtain ⟨b, hb, rfl⟩ := List.mem_map.mp hc
  have := h.asc b hb
  unfold upc
  split <;> omega
theorem rep1_tok {n k : Nat} {t : Str} (h : TOk n k (tl t)) : TOk (n + 2) k (tl (rep1 t " " "  ")) := by
  unfold rep1
  split
  · exact h.mono (by omega) (Nat.le_refl _)
  have hl := StrLaws.occ_length_le t " " 0 t.length 1
  have hp := length_partsBetween t (Builtin.Str.occurrences t " " 0 t.length 1) (" " : Str).length
  have e := StrLaws.glued_between_self t " " 1
  generalize Builtin.Str.partsBetween t (Builtin.Str.occurrences t " " 0 t.length 1) (" " : Str).length = ps at hp e ⊢
  rw [glued_eq_join, tl_join]
  have e2 : joinL [32] (ps.map tl) = tl t := by
    have := congrArg tl e
    rw [glued_eq_join, tl_join] at this
    exact this
  rw [show tl ("  " : Str) = [32, 32] from by decide +kernel]
  match ps, hp, e2 with
  | [], _, _ => exact TOk.nil
  | [p], _, e2 =>
    have e2 : tl p = tl t := e2
    show TOk _ _ (tl p)
    rw [e2]
    exact h.mono (by omega) (Nat.le_refl _)
  | [p, q], _, e2 =>
    have e2 : tl p ++ ([32] ++ tl q) = tl t := e2
    show TOk _ _ (tl p ++ ([32, 32] ++ tl q))
    rw [← e2] at h
    refine ⟨?_, ?_, fun c hc => ?_⟩
    · have := h.len
      simp only [List.length_append, List.length_cons, List.length_nil] at this ⊢
      omega
    · have := h.cnt
      rw [List.count_append, List.count_append] at this ⊢
      have z1 : ([32] : List Nat).count 10 = 0 := rfl
      have z2 : ([32, 32] : List Nat).count 10 = 0 := rfl
      omega
    · rcases List.mem_append.mp hc with hc | hc
      · exact h.asc c (List.mem_append_left _ hc)
      · rcases List.mem_append.mp hc with hc | hc
        · have : c = 32 := by simpa using hc
          omega
        · exact h.asc c (List.mem_append_right _ (List.mem_append_right _ hc))
  | p :: q :: r :: l, hp, _ =>
    rw [List.length_cons, List.length_cons, List.length_cons] at hp
    omega
end My

set_option pp.maxSteps 400
set_option Elab.async false
set_option linter.all false
set_option maxRecDepth 100000
set_option maxHeartbeats 1000000
namespace MyR
open PySem PySem.Spec PyProof.Rows L2 ClX
/-! ### C.m(e, ..), m a class method that may raise, inside a try -/
def tCMethS (C : Addr) (sp : Sp) (E : L2.St → XK) (tc : TE) (t : TA) : TE := fun σ H Q => tc σ H fun x H1 => x = .ref C ∧ t σ H1 fun vs H2 => sp (.ref C :: vs) H2 Q (E σ)
section
variable {X : Cx} {CX : CXT} {k : Nat} {C p g : Addr} {mc : Value} {sp : Sp} {E : L2.St → XK} {o e : Expr} {es : List Expr} {m : Str} {pos apos : Pos} {tc : TE} {t : TA} {pl : Sem Bool}
theorem run_cmS {pins : List (Addr × Obj)} {σ : L2.St} {H : Hp} {s : Shared} {q : Addr} {Q : VK} {us : List Value} {vs : List V} (F : FnR X.prog X.w X.K X.mg X.base CX k g sp) (hr : Room k X.A) (hx : PassesAt CX X σ (E σ)) (I : Inv X ((q, PySem.W.methodObj (.ref g) (.ref C)) :: pins) σ H s)
    (r : Vals vs us) (h : sp (.ref C :: vs) H Q (E σ)) : wpAny (model X.prog X.w) X.A (call (.ref q) us) (EP X pins σ Q) X.xe s := by
  refine thn (Q := EP X ((q, PySem.W.methodObj (.ref g) (.ref C)) :: pins) σ Q) ?_ fun _ _ y => unpinE y
  refine wpAny_call (PySem.W.method_call (pin_at I) (codeAny_mono (F X.A X.stack s H (.ref C :: us) (.ref C :: vs) Q (E σ) hr I.env0 (.cons rfl r) h) fun r s' hq => ?_))
  match r, hq with
  | .error e, hq => exact hx _ H s e s' I hq
  | .ok (.ret u), hq => exact I.after hq
  | .ok .next, hq => exact False.elim hq
  | .ok .brk, hq => exact False.elim hq
  | .ok .cont, hq => exact False.elim hq
theorem pe_fldN {X : Cx} {K : PySem.W.Frag} {e : Expr} {f : Str} {pos : Pos} {ta : TE} (h : X.K = K) (he : PE X e ta) (hb : attributeBase e f X.env (eval e X.env) = eval e X.env) : PE X (.Attribute e f pos) (tFld K ta f) := by
  subst h
  exact pe_fld he hb
theorem passA {X : Cx} {W : WX} (tk : Takes X W) : ∀ σ, PassesAt (L2.CX X.prog X.w) X σ (WE W σ) := fun σ => passAt tk σ
theorem pe_cmethS (ho : PE X o tc) (r : CRead X.K C mc) (c : CMet X.K C mc m p g) (F : FnR X.prog X.w X.K X.mg X.base CX k g sp) (hr : Room k X.A) (hx : ∀ σ, PassesAt CX X σ (E σ)) (args : PA X (e :: es) t)
    (hst : starEach (e :: es) X.env = (false, eval e X.env) :: starEach es X.env := by rfl) (hpl : (backTo pos (starEach es X.env)).any (·.1) = false := by rfl)
    (tree : eval (.Call (.Attribute o m apos) (e :: es) [] pos) X.env = (do
      let ov ← eval o X.env; standAt apos.atName; let (f, first) ← holding [ov] (getMethod ov m pl)
      callWith pos f first (backTo pos (starEach (e :: es) X.env)) (backToKw pos (keywordEach [] X.env))) := by rfl) :
    PE X (.Call (.Attribute o m apos) (e :: es) [] pos) (tCMethS C sp E tc t) := by
  refine ⟨fun pins s σ H Q I h => PySem.W.methodCall_KW (pl := pl) (thn (ho.run pins s σ H _ I h) fun u s1 ⟨x, H1, I1, rx, ex, q⟩ => ?_) tree⟩
  subst ex
  obtain rfl : u = Value.ref C := rx
  refine getmethcm_ok I1 r c fun s2 I2 => callwith_cm I2 (base_none I1 (Nat.le_refl _)) c.fi (thn (args.run pos _ s2 σ H1 _ I2 q) fun us s3 ⟨vs, H2, I3, rv, q2⟩ => ⟨⟨pin_at I3, I3.kIn⟩, ?_⟩) hst hpl
  exact run_cmS F hr (hx σ) I3 rv q2
end
end MyR

set_option pp.maxSteps 400
set_option Elab.async false
set_option linter.all false
set_option maxRecDepth 100000
set_option maxHeartbeats 1000000
namespace My
open PySem L2 MyR TL
/-! ### what reading a text gives, or what is raised -/
inductive Ot
  | pair (w : Str) (i : Int)
  | rows (rs : List Rw)
def OtAt (H : Hp) (v : V) : Ot → Prop
  | .pair w i => ∃ p, v = .ref p ∧ H p = some (.tup [.str w, .int i])
  | .rows rs => ∃ p as, v = .ref p ∧ H p = some (.tup (refs as)) ∧ RowsAt H rs as
def outR (rs : List Rw) : Ot := match due (rs.map Rw.rv) with
  | some (w, i) => .pair w i
  | none => .rows rs
def outL (l : List (Option Rw)) : Ot := match firstN 0 l with
  | some i => .pair "text" (i : Int)
  | none => outR (l.filterMap id)
theorem firstN_somes : ∀ (rs : List Rw) (i : Nat), firstN i (rs.map some) = none
  | [], _ => rfl
  | _ :: rs, i => firstN_somes rs (i + 1)
theorem somes_id : ∀ rs : List Rw, (rs.map some).filterMap id = rs
  | [] => rfl
  | r :: rs => by
    show r :: (rs.map some).filterMap id = r :: rs
    rw [somes_id rs]
theorem outL_somes {l : List (Option Rw)} {rs : List Rw} (h : l = rs.map some) : outL l = outR rs := by
  subst h
  unfold outL
  rw [firstN_somes]
  show outR ((rs.map some).filterMap id) = _
  rw [somes_id]
theorem outL_first {l : List (Option Rw)} {i : Nat} (h : firstN 0 l = some i) : outL l = .pair "text" (i : Int) := by
  unfold outL
  rw [h]
theorem outR_due {rs : List Rw} {w : Str} {i : Int} (h : due (rs.map Rw.rv) = some (w, i)) : outR rs = .pair w i := by
  unfold outR
  rw [h]
theorem outR_none {rs : List Rw} (h : due (rs.map Rw.rv) = none) : outR rs = .rows rs := by
  unfold outR
  rw [h]
/-- texts that are read -/
structure TxB (t : Str) : Prop where
  len : t.length ≤ 40000
  num : (linesT t).length ≤ 900
  asc : ∀ c ∈ tl t, c < 128
theorem lines_mem {t l : Str} (h : l ∈ linesT t) : l.length ≤ t.length ∧ ∀ c ∈ tl l, c ∈ tl t := by
  unfold linesT at h
  split at h
  · cases h
  · refine ⟨split_le (y := "\n") (by decide +kernel) (by decide +kernel) l h, fun c hc => ?_⟩
    have e := (join_spl (x := t) (y := "\n") (by decide +kernel) (by decide +kernel)).1
    rw [← e]
    exact mem_of_join (List.mem_map_of_mem h) hc
theorem words_mem {l w : Str} (h : w ∈ Txt.split l " ") : w.length ≤ l.length ∧ ∀ c ∈ tl w, c ∈ tl l := by
  refine ⟨split_le (y := " ") (by decide +kernel) (by decide +kernel) w h, fun c hc => ?_⟩
  have e := (join_spl (x := l) (y := " ") (by decide +kernel) (by decide +kernel)).1
  rw [← e]
  exact mem_of_join (List.mem_map_of_mem h) hc
theorem asc_ok {t : Str} (h : ∀ c ∈ tl t, c < 128) : PyData.strOk t = true := TOk.str (n := (tl t).length) (k := (tl t).count 10) ⟨Nat.le_refl _, Nat.le_refl _, h⟩
theorem TxB.line {t l : Str} (h : TxB t) (hl : l ∈ linesT t) : l.length ≤ 50000 ∧ (∀ w ∈ Txt.split l " ", w.length ≤ 50000) ∧ ∀ w ∈ Txt.split l " ", PyData.strOk w = true := by
  have h1 := lines_mem hl
  have h0 := h.len
  refine ⟨by omega, fun w hw => ?_, fun w hw => asc_ok fun c hc => ?_⟩
  · have := (words_mem hw).1
    omega
  · exact h.asc c (h1.2 c ((words_mem hw).2 c hc))
theorem rd_skip {r : Rw} (h : RdOk r) (hw : r.w = ("skip" : Str)) : ∃ a m c n : Int, r.xs = [a, m, c, n] := by
  cases kd_of h with
  | set a z e _ => subst e; exact absurd hw (show ¬ ("set" : Str) = "skip" by decide +kernel)
  | load a z e _ => subst e; exact absurd hw (show ¬ ("load" : Str) = "skip" by decide +kernel)
  | store z a e _ => subst e; exact absurd hw (show ¬ ("store" : Str) = "skip" by decide +kernel)
  | skip a m c n e _ => subst e; exact ⟨a, m, c, n, rfl⟩
  | other _ _ _ n4 _ => exact absurd hw n4
def spDueT : Sp := fun vs H Q _ => ∃ t : Str, vs = [.str t] ∧ TxB t ∧ ∀ v H', Same H H' → OtAt H' v (outL (readT t)) → Q v H'
section
variable {P : Program} {w : World} {K : PySem.W.Frag} {mg : Str → Option Value} {base : Heap}
abbrev s_law_due : Stmt := top 33
abbrev N_law_due : List Str := ["_law_text", "_law_rows", "_law_line", "_law_at", "_law_row_here"]
theorem sc_law_due : FnScope N_law_due ["_law_text"] (defScope s_law_due) := ⟨rfl, rfl, rfl, by decide +kernel, rfl, by decide +kernel, by decide +kernel⟩
theorem ok_law_due {f : Addr} {fd : FuncData} (F : Fun K "_law_due" "_law_due" s_law_due f fd) (T : Glob mg) (D_law_read_row : Df P w K mg base 2 "_law_read_row" ["_law_text"] spReadL) (D_law_in_bounds : Df P w K mg base 1 "_law_in_bounds" ["_law_row_here"] spInB) : FnOk P w K mg base CX0 4 f fd ["_law_text"] spDueT := by
  refine F.ok sc_law_due (fun vs H Q E h => ?_) (fun cdv A outer s H vs Q E hr h => ?_)
  · obtain ⟨t, rfl, _⟩ := h
    rfl
  · obtain ⟨t, rfl, hB, k⟩ := h
    have nd := sc_law_due.nd
    have hu := hu_of hr
    refine ⟨_, (pss_cons (ps_set (i := 1) nd rfl (Or.inl rfl) (pe_ifExp (pt_cmpR op_ne (pv 0) pe_str (nomark _)) (pe_lc (own := [("_law_line", 2)]) (g := gName 2) (tt := tYes) rfl nd (pi_list (pe_split (pv 0) pe_str)) (blkOk_by (N := N_law_due) (sc := defScope s_law_due) (by decide +kernel)) (fun _ _ _ _ _ => pg_name (i := 2) nd rfl (Or.inl rfl)) (fun _ _ _ _ _ => pts_nil) (fun _ _ _ _ _ => (pe_call D_law_read_row.ok (hr.mono (by decide)) (by rfl) D_law_read_row.g D_law_read_row.kp D_law_read_row.b .nil pass0 (pa_cons (pv 2) pa_nil)))) (pe_lst pa_nil)))
    (pss_cons (ps_for PassesOwn.never rfl (pi_enum (by rfl) T.g_enumerate (pa_cons (pv 1) pa_nil)) (pg_tup (by rfl) (pgs_cons (pg_name (i := 3) nd rfl (Or.inl rfl)) (pgs_cons (pg_name (i := 4) nd rfl (Or.inl rfl)) pgs_nil)))
    (pss_one (ps_if (pt_cmpR op_isN (pv 4) pe_non (nomark _))
    (pss_one (ps_ret (pe_tup (pa_cons pe_str (pa_cons (pv 3) pa_nil)))))
    pss_nil)))
    (pss_cons (ps_for PassesOwn.never rfl (pi_enum (by rfl) T.g_enumerate (pa_cons (pv 1) pa_nil)) (pg_tup (by rfl) (pgs_cons (pg_name (i := 3) nd rfl (Or.inl rfl)) (pgs_cons (pg_name (i := 4) nd rfl (Or.inl rfl)) pgs_nil)))
    (pss_cons (ps_if (pt_not (pt_val (pe_call D_law_in_bounds.ok (hr.mono (by decide)) (by rfl) D_law_in_bounds.g D_law_in_bounds.kp D_law_in_bounds.b .nil pass0 (pa_cons (pv 4) pa_nil))))
    (pss_one (ps_ret (pe_tup (pa_cons pe_str (pa_cons (pv 3) pa_nil)))))
    pss_nil)
    (pss_one (ps_if (PW.pt (pw_and (pt_cmpR op_eq (pe_ix ix_tup (pv 4) pe_int (fun _ _ => rfl)) pe_str (nomark _)) (pw_and1 (pt_cmpR op_ge (pe_op op_add (pv 3) (pe_ix ix_tup (pv 4) pe_int (fun _ _ => rfl))) (pe_callB call_len_seq (by rfl) T.g_len PySem.boot_len (pa_cons (pv 1) pa_nil)) (nomark _)))))
    (pss_one (ps_ret (pe_tup (pa_cons pe_str (pa_cons (pv 3) pa_nil)))))
    pss_nil))))
    (pss_one (ps_ret (pe_callTy call_tuple_of (by rfl) T.g_tuple (by decide +kernel) (pa_cons (pv 1) pa_nil))))))), ?_⟩
    -- the rows
    refine seq_by (fun σ H1 => ∃ (L : Addr) (us : List V) (a2 : Option V), σ = [some (.str t), some (.ref L), a2, none, none] ∧ Same H H1 ∧ H1 L = some (.lst us) ∧ All2 (RowO H1) us (readT t)) (fun D' hD' => ?_) ?_
    · refine ⟨_, rfl, rfl, _, rfl, ?_⟩
      refine ite2 (fun hne => ?_) (fun he => ?_)
      · have hl : linesT t = Txt.split t "\n" := if_neg (fun e => by subst e; exact absurd hne (by decide +kernel))
        have hR : readT t = (Txt.split t "\n").map fun l => rowW (Txt.split l " ") := by unfold readT; rw [hl]
        have hls : ∀ l ∈ Txt.split t "\n", _ := fun l h => hB.line (by rw [hl]; exact h)
        have hn := hB.num
        rw [hl] at hn
        rw [hR] at hD'
        refine ⟨_, rfl, ⟨_, rfl⟩, t, "\n", rfl, rfl, by decide +kernel, Nat.le_trans (Nat.add_le_add_right hB.len 2) (by decide +kernel), fun p hp => ?_⟩
        generalize Txt.split t "\n" = ls at hls hn hD' ⊢
        refine ⟨p, rfl, ⟨_, SqL.of upd_same⟩, fun D hD => ?_⟩
        have sp := new_same (o := .lst (ls.map V.str)) hp
        have vp : upd H p (.lst (ls.map V.str)) p = some (.lst (ls.map V.str)) := upd_same
        generalize upd H p (.lst (ls.map V.str)) = H1 at sp vp hD ⊢
        refine lc_it walk_list (fun i H2 => Same H1 H2 ∧ ∃ us, H2 D = some (.lst us) ∧ All2 (RowO H2) us ((ls.take i).map fun l => rowW (Txt.split l " "))) ⟨new_same hD, [], upd_same, .nil⟩ (fun i H2 _ h => SqL.of (h.1 _ _ vp)) ?_ ?_
        · rintro i x H2 H3 hi ⟨s2, us, h2, al⟩ ⟨rfl, hx⟩
          rw [List.length_map] at hi
          have hxi : ls[i]? = some ls[i] := List.getElem?_eq_getElem hi
          obtain rfl : x = .str ls[i] := by
            rw [List.getElem?_map, hxi] at hx
            exact (Option.some.inj hx).symm
          have hm := hls _ (List.getElem_mem hi)
          refine ⟨rfl, ?_⟩
          refine ⟨_, rfl, ls[i], rfl, hm.1, hm.2.1, hm.2.2, split_blank _, fun v H4 s4 ho => ?_⟩
          have h4 := s4 _ _ h2
          have al4 := al.mono fun _ _ => RowO.same s4
          have hlen : us.length = i := by
            rw [al.len, List.length_map, List.length_take]
            omega
          refine ⟨us, h4, small1000 (by omega), fun b o e => ?_, us ++ [v], upd_same, ?_⟩
          · rw [upd_ne (ne_of_none e hD)]
            exact s4 _ _ (s2 _ _ e)
          · rw [List.take_add_one, hxi, List.map_append]
            exact (al4.app (.cons ho .nil)).mono fun _ _ => RowO.upd h4
        · rintro H2 ⟨s2, us, h2, al⟩
          rw [List.length_map, List.take_length] at al
          exact hD' _ _ ⟨D, us, _, rfl, sp.trans s2, h2, al⟩
      · have e : t = ("" : Str) := by
          by_cases e : t = ("" : Str)
          · exact e
          · exact absurd (by rw [decide_eq_false (fun z => e (V.str.inj z))]; rfl) he
        have hR : readT t = [] := by
          unfold readT linesT
          rw [if_pos e]
          rfl
        rw [hR] at hD'
        refine ⟨by show 0 ≤ sizeLine; decide, fun L hL => ?_⟩
        exact hD' _ _ ⟨L, [], _, rfl, new_same hL, upd_same, .nil⟩
    rintro σ H1 ⟨L, us, a2, rfl, s1, hL, al⟩
    have hlen : us.length ≤ 900 := by
      rw [al.len]
      unfold readT
      rw [List.length_map]
      exact hB.num
    have pair : ∀ (H2 : Hp) (x : Str) (i : Int), Same H H2 → outL (readT t) = .pair x i → ∀ p, H2 p = none → Q (.ref p) (upd H2 p (.tup [.str x, .int i])) := fun H2 x i s2 e p hp => k _ _ (s2.trans (new_same hp)) (by rw [e]; exact ⟨p, rfl, upd_same⟩)
    -- the first one that is none
    refine seq_rt (fun σ H2 => ∃ a3 a4 : Option V, σ = [some (.str t), some (.ref L), a2, a3, a4] ∧ Same H1 H2 ∧ ∃ rs : List Rw, readT t = rs.map some) (fun nx' hD' => ?_) ?_
    · refine ⟨_, rfl, L, _, rfl, SqL.of hL, ?_⟩
      refine for_it walk_enum (fun i σ H2 => ∃ a3 a4 : Option V, σ = [some (.str t), some (.ref L), a2, a3, a4] ∧ Same H1 H2 ∧ (∃ rs : List Rw, (readT t).take i = rs.map some) ∧ firstN 0 (readT t) = firstN i ((readT t).drop i)) ⟨_, _, rfl, Same.refl _, ⟨[], by rw [List.take_zero]; rfl⟩, rfl⟩ (fun i σ H2 _ ⟨_, _, _, sm, _⟩ => SqL.of (sm _ _ hL)) ?_ ?_
      · rintro i x σ H2 H3 hi ⟨b3, b4, rfl, sm, ⟨rs, hrs⟩, hfi⟩ ⟨Tt, y, z, rfl, hT, rfl, hy, hz⟩
        obtain rfl := Option.some.inj hy
        obtain ⟨o, ho, hRo⟩ := al.getL hz
        have sm3 : Same H1 (upd H2 Tt (.tup [.int (i : Nat), z])) := sm.trans (new_same hT)
        have hil : i < (readT t).length := (List.getElem?_eq_some_iff.mp ho).1
        have hdr : (readT t).drop i = o :: (readT t).drop (i + 1) := by
          rw [List.drop_eq_getElem_cons hil]
          rw [List.getElem?_eq_getElem hil] at ho
          rw [Option.some.inj ho]
        rw [hdr] at hfi
        have htk : (readT t).take (i + 1) = rs.map some ++ [o] := by
          rw [List.take_add_one, hrs, ho]
          rfl
        refine ⟨Tt, _, rfl, SqT.of upd_same, rfl, _, _, rfl, _, _, rfl, rfl, ?_⟩
        generalize upd H2 Tt (.tup [.int (i : Nat), z]) = H3 at sm3 ⊢
        cases o with
        | none =>
          obtain rfl : z = .non := hRo
          refine ⟨_, rfl, rfl, _, rfl, ?_⟩
          refine iteT ?_
          refine ⟨_, rfl, by show 2 ≤ sizeLine; decide, fun p hp => ?_⟩
          exact pair H3 _ _ (s1.trans sm3) (outL_first hfi) p hp
        | some r =>
          obtain ⟨p, rfl, hp⟩ := hRo
          refine ⟨_, rfl, rfl, _, rfl, ?_⟩
          refine iteF ?_
          exact ⟨_, _, rfl, sm3, ⟨rs ++ [r], by rw [htk, List.map_append]; rfl⟩, hfi⟩
      · rintro σ H2 ⟨b3, b4, rfl, sm, ⟨rs, hrs⟩, _⟩
        rw [al.len, List.take_length] at hrs
        exact hD' _ _ ⟨_, _, rfl, sm, rs, hrs⟩
    rintro σ H2 ⟨b3, b4, rfl, s2, rs, hrs⟩
    have hout := outL_somes hrs
    have hrd : ∀ r ∈ rs, RdOk r := fun r hr => by
      have hm : some r ∈ readT t := by rw [hrs]; exact List.mem_map_of_mem hr
      obtain ⟨l, _, hl⟩ := List.mem_map.mp hm
      exact rowW_rd hl
    rw [hrs] at al
    obtain ⟨as, rfl, hra⟩ := rows_of (al.mono fun _ _ => RowO.same s2)
    have hL2 := s2 _ _ hL
    have hal : (refs as).length = rs.length := by rw [refs_len, hra.len]
    have s12 := s1.trans s2
    have hdue0 : due (rs.map Rw.rv) = dueG (rs.length : Int) 0 (rs.map Rw.rv) := by
      have e : (rs.map Rw.rv).length = rs.length := List.length_map ..
      unfold due
      rw [if_neg (by rw [e]; omega), e]
    -- the first one that is out of its bounds
    refine seq_rt (fun σ H3 => ∃ a3 a4 : Option V, σ = [some (.str t), some (.ref L), a2, a3, a4] ∧ Same H2 H3 ∧ due (rs.map Rw.rv) = none) (fun nx' hD' => ?_) ?_
    · refine ⟨_, rfl, L, _, rfl, SqL.of hL2, ?_⟩
      refine for_it walk_enum (fun i σ H3 => ∃ a3 a4 : Option V, σ = [some (.str t), some (.ref L), a2, a3, a4] ∧ Same H2 H3 ∧ due (rs.map Rw.rv) = dueG (rs.length : Int) i ((rs.drop i).map Rw.rv)) ⟨_, _, rfl, Same.refl _, hdue0⟩ (fun i σ H3 _ ⟨_, _, _, sm, _⟩ => SqL.of (sm _ _ hL2)) ?_ ?_
      · rintro i x σ H3 H4 hi ⟨b3, b4, rfl, sm, hdue⟩ ⟨Tt, y, z, rfl, hT, rfl, hy, hz⟩
        obtain rfl := Option.some.inj hy
        have hil : i < rs.length := by rw [← hal]; exact hi
        obtain ⟨q, e1, e2⟩ := hra.at_ i rs[i] (List.getElem?_eq_getElem hil)
        obtain rfl : z = .ref q := by
          have := refs_at e1
          have hz' : (refs as)[i]? = some z := hz
          rw [this] at hz'
          exact (Option.some.inj hz').symm
        rw [List.drop_eq_getElem_cons hil, List.map_cons] at hdue
        have sm4 : Same H2 (upd H3 Tt (.tup [.int (i : Nat), .ref q])) := sm.trans (new_same hT)
        refine ⟨Tt, _, rfl, SqT.of upd_same, rfl, _, _, rfl, _, _, rfl, rfl, ?_⟩
        generalize upd H3 Tt (.tup [.int (i : Nat), .ref q]) = H4 at sm4 ⊢
        have hrdi := hrd _ (List.getElem_mem hil)
        refine ⟨_, rfl, q, rs[i], rfl, e2.same sm4, hrdi, fun H5 s5 => ?_⟩
        have sm5 := sm4.trans s5
        have hq5 := e2.same sm5
        refine ⟨_, rfl, ?_⟩
        cases hg : good rs[i].rv with
        | false =>
          refine iteT ?_
          have hd : due (rs.map Rw.rv) = some (("row" : Str), (i : Int)) := by
            rw [hdue]
            show (if good rs[i].rv = true then _ else _) = _
            rw [hg, if_neg Bool.false_ne_true]
          refine ⟨_, rfl, by show 2 ≤ sizeLine; decide, fun p hp => ?_⟩
          exact pair H5 _ _ (s12.trans sm5) (by rw [hout]; exact outR_due hd) p hp
        | true =>
        refine iteF ?_
        have next : over rs[i].rv ((rs.length : Int) - 1 - (i : Int)) = false → due (rs.map Rw.rv) = dueG (rs.length : Int) (i + 1) ((rs.drop (i + 1)).map Rw.rv) := fun ho => by
          rw [hdue]
          show (if good rs[i].rv = true then (if over rs[i].rv _ = true then _ else _) else _) = _
          rw [hg, if_pos rfl, ho, if_neg Bool.false_ne_true]
        refine ⟨_, rfl, q, _, _, .str rs[i].w, rfl, rfl, SqT.of hq5, atI_nat (j := 0) rfl, rfl, _, rfl, ?_⟩
        refine ite2 (fun hs => ?_) (fun hs => ?_)
        · have hs := V.str.inj (of_decide_eq_true hs)
          obtain ⟨a1, m, c1, n, ex⟩ := rd_skip hrdi hs
          have evs : rs[i].vs = [.str rs[i].w, .int a1, .int m, .int c1, .int n] := by unfold Rw.vs; rw [ex]; rfl
          have sq5 : SqT K H5 q rs[i].vs := SqT.of hq5
          rw [evs] at sq5
          have ho := over_row rs[i] ((rs.length : Int) - 1 - (i : Int)) a1 m c1 n hs ex
          refine ⟨_, rfl, _, rfl, q, _, _, .int n, rfl, rfl, sq5, atI_nat (j := 4) rfl, _, _, rfl, rfl, _, rfl, L, _, rfl, .inl (SqL.of (sm5 _ _ hL2)), _, _, rfl, rfl, _, rfl, ?_⟩
          refine ite2 (fun h0 => ?_) (fun h0 => ?_)
          · have h0 := of_decide_eq_true h0
            rw [hal] at h0
            have hd : due (rs.map Rw.rv) = some (("skip" : Str), (i : Int)) := by
              rw [hdue]
              show (if good rs[i].rv = true then (if over rs[i].rv _ = true then _ else _) else _) = _
              rw [hg, if_pos rfl, ho, if_pos (decide_eq_true (by omega))]
            refine ⟨_, rfl, by show 2 ≤ sizeLine; decide, fun p hp => ?_⟩
            exact pair H5 _ _ (s12.trans sm5) (by rw [hout]; exact outR_due hd) p hp
          · refine ⟨_, _, rfl, sm5, next ?_⟩
            rw [ho]
            refine decide_eq_false fun z => h0 (decide_eq_true ?_)
            rw [hal]
            omega
        · refine iteF ?_
          refine ⟨_, _, rfl, sm5, next ?_⟩
          exact over_not rs[i] _ (fun e => hs (decide_eq_true (by rw [e])))
      · rintro σ H3 ⟨b3, b4, rfl, sm, hdue⟩
        rw [hal, List.drop_length] at hdue
        exact hD' _ _ ⟨_, _, rfl, sm, hdue⟩
    rintro σ H3 ⟨b3, b4, rfl, s3, hdue⟩
    refine ⟨_, rfl, L, _, rfl, .inl ⟨SqL.of (s3 _ _ hL2), fun p hp => ?_⟩⟩
    refine k _ _ ((s12.trans s3).trans (new_same hp)) ?_
    rw [hout, outR_none hdue]
    exact ⟨p, as, rfl, upd_same, (hra.same s3).updN hp⟩
end
end My

set_option pp.maxSteps 400
set_option Elab.async false
set_option linter.all false
set_option maxRecDepth 100000
set_option maxHeartbeats 1000000
namespace My
open PySem L2 MyR TL
/-- the error classes that the law knows -/
structure ErrL (K : PySem.W.Frag) (mg : Str → Option Value) (cI cT cL : Addr) : Prop where
  ecI : ExcC K cI
  ecT : ExcC K cT
  xfI : XfC K cI
  xfT : XfC K cT
  nAt : PySem.W.findIn K (.ref cT) "at" = some none
  nWord : PySem.W.findIn K (.ref cI) "word" = some none
  nRow : PySem.W.findIn K (.ref cI) "row" = some none
  gL : mg "LowError" = some (.ref cL)
  gI : mg "InvalidCode" = some (.ref cI)
  gT : mg "InvalidText" = some (.ref cT)
  exI : PySem.W.exmOne K (.ref cI) (.ref cL) = some true
  exT : PySem.W.exmOne K (.ref cT) (.ref cL) = some true
  noIT : PySem.W.kitOne K (.ref cI) (.ref cT) = some false
  noTI : PySem.W.kitOne K (.ref cT) (.ref cI) = some false
/-- Code.read as its users know it -/
structure CodeRd (P : Program) (w : World) (K : PySem.W.Frag) (mg : Str → Option Value) (base : Heap) (C cI cT : Addr) where
  fr : Addr
  mc : Value
  p : Addr
  rd : ClX.CRead K C mc
  cm : ClX.CMet K C mc "read" p fr
  fnr : FnR P w K mg base (L2.CX P w) 7 fr (spRead C cI cT)
def tsToldT (cI cT : Addr) : Addr → Value → Option Addr → TS := fun a cls d D σ H => ∃ dd : Addr, d = some dd ∧ σ[2]? = some (some (.ref a)) ∧
  ((cls = .ref cT ∧ ∃ i : Int, H dd = some (.xd [("at", .int i)]) ∧ ∀ p H', Same H H' → H' p = some (.tup [.str "text", .int i]) → D.nx (σ.set 1 (some (.ref p))) H') ∨
   (cls = .ref cI ∧ ∃ (w : Str) (i : Int), H dd = some (.xd [("row", .int i), ("word", .str w)]) ∧ ∀ p H', Same H H' → H' p = some (.tup [.str w, .int i]) → D.nx (σ.set 1 (some (.ref p))) H'))
def spToldT : Sp := fun vs H Q _ => ∃ t : Str, vs = [.str t] ∧ TxB t ∧ ∀ v H', Same H H' → OtAt H' v (outL (readT t)) → Q v H'
section
variable {P : Program} {w : World} {K : PySem.W.Frag} {mg : Str → Option Value} {base : Heap}
abbrev s_law_told : Stmt := top 34
abbrev N_law_told : List Str := ["_law_text", "_law_found", "e"]
theorem sc_law_told : FnScope N_law_told ["_law_text"] (defScope s_law_told) := ⟨rfl, rfl, rfl, by decide +kernel, rfl, by decide +kernel, by decide +kernel⟩
theorem ok_law_told {f : Addr} {fd : FuncData} (F : Fun K "_law_told" "_law_told" s_law_told f fd) (T : Glob mg) {C cI cL cT : Addr} (M : CodeX P w K mg base C cI) (MC : CodeRd P w K mg base C cI cT) (EL : ErrL K mg cI cT cL) : FnOk P w K mg base CX0 8 f fd ["_law_text"] spToldT := by
  refine F.ok sc_law_told (fun vs H Q E h => ?_) (fun cdv A outer s H vs Q E hr h => ?_)
  · obtain ⟨t, rfl, _⟩ := h
    rfl
  · obtain ⟨t, rfl, hB, k⟩ := h
    have nd := sc_law_told.nd
    have hu := hu_of hr
    have kitII : PySem.W.kitOne K (.ref cI) (.ref cI) = some true := by
      unfold PySem.W.kitOne
      rw [if_pos (beq_self_eq_true _)]
    have kitTT : PySem.W.kitOne K (.ref cT) (.ref cT) = some true := by
      unfold PySem.W.kitOne
      rw [if_pos (beq_self_eq_true _)]
    refine ⟨_, (pss_cons (ps_set (i := 1) nd rfl (Or.inl rfl) pe_str)
    (pss_cons (ps_try_as (i := 2) (ts := tsToldT cI cT) (Wout := fun _ _ _ _ => False) rfl rfl nd rfl rfl ⟨rfl, by decide, .inl EL.gL⟩ takes0
      (fun W pn xe tk _ => (pss_one (ps_set (i := 1) nd rfl (Or.inl rfl) (pe_fldN (K := K) (pos := ⟨190, 21, 190, 46⟩) (by rfl) (pe_cmethS (pos := ⟨190, 21, 190, 41⟩) (apos := ⟨190, 21, 190, 30⟩) (pe_glob (pos := ⟨190, 21, 190, 25⟩) (v := .ref C) (by rfl) M.g (by rfl)) MC.rd MC.cm MC.fnr (hr.mono (by decide)) (passA tk) (pa_cons (pv 0) pa_nil)) (by rfl)))))
      (fun a oe cls d pn hz hf => ⟨fun pins s σ H D I q => by
        obtain ⟨dd, rfl, hσ, ⟨rfl, i, hd, k⟩ | ⟨rfl, w, i, hd, k⟩⟩ := q
        · refine (pss_one (ps_if (PW.pt (pw_and (pt_val (pe_callB (call_isD EL.ecT hz hf) (by rfl) T.g_isinstance (by decide +kernel) (pa_cons (pv 2) (pa_cons (pe_glob (v := .ref cT) (by rfl) EL.gT (by rfl)) pa_nil)))) (pw_and1 (pt_not (pt_val (pe_callB (call_isD EL.ecT hz hf) (by rfl) T.g_isinstance (by decide +kernel) (pa_cons (pv 2) (pa_cons (pe_glob (v := .ref cI) (by rfl) EL.gI (by rfl)) pa_nil))))))))
          (pss_one (ps_set (i := 1) nd rfl (Or.inl rfl) (pe_tup (pa_cons pe_str (pa_cons (pe_xf EL.xfT EL.nAt hz hf (pv 2)) pa_nil)))))
          (pss_one (ps_if (pt_val (pe_callB (call_isD EL.ecT hz hf) (by rfl) T.g_isinstance (by decide +kernel) (pa_cons (pv 2) (pa_cons (pe_glob (v := .ref cI) (by rfl) EL.gI (by rfl)) pa_nil))))
          (pss_one ps_never)
          pss_nil)))).run pins s σ H D I ?_
          refine ⟨_, hσ, _, true, hd, ?_, .inl ⟨cT, rfl, kitTT⟩⟩
          refine ⟨_, rfl, ?_⟩
          refine ⟨_, hσ, _, false, hd, ?_, .inl ⟨cI, rfl, EL.noTI⟩⟩
          refine ⟨_, rfl, ?_⟩
          refine ⟨_, hσ, rfl, rfl, dd, _, _, rfl, hd, rfl, (by show 2 ≤ sizeLine; decide), fun p hp => ?_⟩
          exact k p _ (new_same hp) upd_same
        · refine (pss_one (ps_if (PW.pt (pw_and (pt_val (pe_callB (call_isD EL.ecI hz hf) (by rfl) T.g_isinstance (by decide +kernel) (pa_cons (pv 2) (pa_cons (pe_glob (v := .ref cT) (by rfl) EL.gT (by rfl)) pa_nil)))) (pw_and1 (pt_not (pt_val (pe_callB (call_isD EL.ecI hz hf) (by rfl) T.g_isinstance (by decide +kernel) (pa_cons (pv 2) (pa_cons (pe_glob (v := .ref cI) (by rfl) EL.gI (by rfl)) pa_nil))))))))
          (pss_one ps_never)
          (pss_one (ps_if (pt_val (pe_callB (call_isD EL.ecI hz hf) (by rfl) T.g_isinstance (by decide +kernel) (pa_cons (pv 2) (pa_cons (pe_glob (v := .ref cI) (by rfl) EL.gI (by rfl)) pa_nil))))
          (pss_one (ps_set (i := 1) nd rfl (Or.inl rfl) (pe_tup (pa_cons (pe_xf EL.xfI EL.nWord hz hf (pv 2)) (pa_cons (pe_xf EL.xfI EL.nRow hz hf (pv 2)) pa_nil)))))
          pss_nil)))).run pins s σ H D I ?_
          refine ⟨_, hσ, _, false, hd, ?_, .inl ⟨cT, rfl, EL.noIT⟩⟩
          refine ⟨_, rfl, ?_⟩
          refine ⟨_, hσ, _, true, hd, ?_, .inl ⟨cI, rfl, kitII⟩⟩
          refine ⟨_, rfl, ?_⟩
          refine ⟨_, hσ, rfl, rfl, dd, _, _, rfl, hd, rfl, _, hσ, rfl, rfl, dd, _, _, rfl, hd, rfl, (by show 2 ≤ sizeLine; decide), fun p hp => ?_⟩
          exact k p _ (new_same hp) upd_same⟩))
    (pss_one (ps_ret (pv 1))))), ?_⟩
    dsimp only [List.set_cons_succ, List.set_cons_zero]
    refine ⟨rfl, _, rfl, ?_⟩
    dsimp only [tNil]
    refine ⟨t, rfl, Nat.le_trans hB.len (by decide), Nat.le_trans hB.num (by decide), fun l hl => ⟨(hB.line hl).1, (hB.line hl).2.1⟩, fun rs hrs hd x H' s' hx => ?_, fun i hi dd H' s' hy => ?_, fun rs hrs w i hd dd H' s' hy => ?_⟩
    · obtain ⟨dx, tt, as, h1, h2, h3⟩ := hx
      refine ⟨x, C, dx, _, _, rfl, h1, M.cl, M.n_rows, rfl, ?_⟩
      refine ⟨_, rfl, ?_⟩
      refine k _ H' s' ?_
      rw [outL_somes hrs, outR_none hd]
      exact ⟨tt, as, rfl, h2, h3⟩
    · refine ⟨true, EL.exT, fun _ e he => ?_, fun q => Bool.noConfusion q⟩
      refine ⟨dd, rfl, rfl, .inl ⟨rfl, i, hy, fun p H2 sm2 hp2 => ?_⟩⟩
      refine ⟨_, rfl, ?_⟩
      refine k _ H2 (s'.trans sm2) ?_
      rw [outL_first hi]
      exact ⟨p, rfl, hp2⟩
    · refine ⟨true, EL.exI, fun _ e he => ?_, fun q => Bool.noConfusion q⟩
      refine ⟨dd, rfl, rfl, .inr ⟨rfl, w, i, hy, fun p H2 sm2 hp2 => ?_⟩⟩
      refine ⟨_, rfl, ?_⟩
      refine k _ H2 (s'.trans sm2) ?_
      rw [outL_somes hrs, outR_due hd]
      exact ⟨p, rfl, hp2⟩
end
end My

set_option pp.maxSteps 400
set_option Elab.async false
set_option linter.all false
set_option maxRecDepth 100000
set_option maxHeartbeats 1000000
namespace My
open PySem L2 MyR TL
/-! ### an odd word -/
def odd1 : List Str := ["", "-", "-0", "-5", "+5", "00", "07", "5 ", "1_0", "1.5", "0x1", "9", "8", "1000", "999", "64", "3"]
def odd2 : List Str := ["skip", "set", "wait", "Add", "adds", "a", "18446744073709551615", "18446744073709551616"]
def odd3 : List Str := ["-18446744073709551616", "99999999999999999999", "999999999999999999999"]
def odd4 : List Str := ["-99999999999999999999", "000000000000000000001"]
def oddW : List Str := odd1 ++ odd2 ++ odd3 ++ odd4
theorem odd_ok : ∀ w ∈ oddW, TOk 21 0 (tl w) := fun w hw => by
  have q : ∀ w ∈ oddW, (tl w).length ≤ 21 ∧ (tl w).count 10 = 0 ∧ ∀ c ∈ tl w, c < 128 := by decide +kernel
  obtain ⟨h1, h2, h3⟩ := q w hw
  exact ⟨h1, Nat.le_of_eq h2, h3⟩
def spOddW : Sp := fun vs H Q _ => ∃ (d l : Addr), vs = [.ref d] ∧ Deal H d l ∧ ∀ (w : Str) (H' : Hp), Deal H' d l → Kept d l H H' → TOk 21 0 (tl w) → Q (.str w) H'
theorem strs_app (a b : List Str) : a.map V.str ++ b.map V.str = (a ++ b).map V.str := (List.map_append ..).symm
section
variable {P : Program} {w : World} {K : PySem.W.Frag} {mg : Str → Option Value} {base : Heap}
abbrev s_law_odd_word : Stmt := top 35
abbrev N_law_odd_word : List Str := ["_law_deal_here", "_law_some"]
theorem sc_law_odd_word : FnScope N_law_odd_word ["_law_deal_here"] (defScope s_law_odd_word) := ⟨rfl, rfl, rfl, by decide +kernel, rfl, by decide +kernel, by decide +kernel⟩
theorem ok_law_odd_word {f : Addr} {fd : FuncData} (F : Fun K "_law_odd_word" "_law_odd_word" s_law_odd_word f fd) (T : Glob mg) (D_law_draw : Df P w K mg base 1 "_law_draw" ["_law_deal_here", "_law_many"] spDraw) : FnOk P w K mg base CX0 2 f fd ["_law_deal_here"] spOddW := by
  refine F.ok sc_law_odd_word (fun vs H Q E h => ?_) (fun cdv A outer s H vs Q E hr h => ?_)
  · obtain ⟨d, l, rfl, _⟩ := h
    rfl
  · obtain ⟨d, l, rfl, D, k⟩ := h
    have nd := sc_law_odd_word.nd
    have hu := hu_of hr
    refine ⟨_, (pss_cons (ps_set (i := 1) nd rfl (Or.inl rfl) (pe_lst (pa_cons pe_str (pa_cons pe_str (pa_cons pe_str (pa_cons pe_str (pa_cons pe_str (pa_cons pe_str (pa_cons pe_str (pa_cons pe_str (pa_cons pe_str (pa_cons pe_str (pa_cons pe_str (pa_cons pe_str (pa_cons pe_str (pa_cons pe_str (pa_cons pe_str (pa_cons pe_str (pa_cons pe_str pa_nil)))))))))))))))))))
    (pss_cons (ps_set (i := 1) nd rfl (Or.inl rfl) (pe_op op_cat (pv 1) (pe_lst (pa_cons pe_str (pa_cons pe_str (pa_cons pe_str (pa_cons pe_str (pa_cons pe_str (pa_cons pe_str (pa_cons pe_str (pa_cons pe_str pa_nil)))))))))))
    (pss_cons (ps_set (i := 1) nd rfl (Or.inl rfl) (pe_op op_cat (pv 1) (pe_lst (pa_cons pe_str (pa_cons pe_str (pa_cons pe_str pa_nil))))))
    (pss_cons (ps_set (i := 1) nd rfl (Or.inl rfl) (pe_op op_cat (pv 1) (pe_lst (pa_cons pe_str (pa_cons pe_str pa_nil)))))
    (pss_one (ps_ret (pe_ix ix_list (pv 1) (pe_call D_law_draw.ok (hr.mono (by decide)) (by rfl) D_law_draw.g D_law_draw.kp D_law_draw.b .nil pass0 (pa_cons (pv 0) (pa_cons (pe_callB call_len_seq (by rfl) T.g_len PySem.boot_len (pa_cons (pv 1) pa_nil)) pa_nil))) (fun _ _ => rfl)))))))), ?_⟩
    refine ⟨by show 17 ≤ sizeLine; decide, fun A0 hA0 => ?_⟩
    have kk := Kept.of (d := d) (l := l) (new_same (o := HO.lst [V.str "", V.str "-", V.str "-0", V.str "-5", V.str "+5", V.str "00", V.str "07", V.str "5 ", V.str "1_0", V.str "1.5", V.str "0x1", V.str "9", V.str "8", V.str "1000", V.str "999", V.str "64", V.str "3"]) hA0)
    have t0 := new_same (o := HO.lst [V.str "", V.str "-", V.str "-0", V.str "-5", V.str "+5", V.str "00", V.str "07", V.str "5 ", V.str "1_0", V.str "1.5", V.str "0x1", V.str "9", V.str "8", V.str "1000", V.str "999", V.str "64", V.str "3"]) hA0
    have v0 : (upd H A0 (HO.lst [V.str "", V.str "-", V.str "-0", V.str "-5", V.str "+5", V.str "00", V.str "07", V.str "5 ", V.str "1_0", V.str "1.5", V.str "0x1", V.str "9", V.str "8", V.str "1000", V.str "999", V.str "64", V.str "3"])) A0 = some (.lst (odd1.map V.str)) := upd_same
    generalize upd H A0 (HO.lst [V.str "", V.str "-", V.str "-0", V.str "-5", V.str "+5", V.str "00", V.str "07", V.str "5 ", V.str "1_0", V.str "1.5", V.str "0x1", V.str "9", V.str "8", V.str "1000", V.str "999", V.str "64", V.str "3"]) = G0 at t0 v0 kk ⊢
    dsimp only [List.set_cons_succ, List.set_cons_zero]
    have step : ∀ {H0 : Hp} {X : Addr} {o : HO}, Same H H0 → H0 X = none → Same H (upd H0 X o) := fun s h => s.trans (new_same h)
    refine ⟨_, rfl, by show 8 ≤ sizeLine; decide, fun B1 hB1 => ?_⟩
    have s1 := step (o := HO.lst [V.str "skip", V.str "set", V.str "wait", V.str "Add", V.str "adds", V.str "a", V.str "18446744073709551615", V.str "18446744073709551616"]) t0 hB1
    have a1 := new_same (o := HO.lst [V.str "skip", V.str "set", V.str "wait", V.str "Add", V.str "adds", V.str "a", V.str "18446744073709551615", V.str "18446744073709551616"]) hB1 _ _ v0
    have b1 : (upd G0 B1 (HO.lst [V.str "skip", V.str "set", V.str "wait", V.str "Add", V.str "adds", V.str "a", V.str "18446744073709551615", V.str "18446744073709551616"])) B1 = some (.lst (odd2.map V.str)) := upd_same
    generalize upd G0 B1 (HO.lst [V.str "skip", V.str "set", V.str "wait", V.str "Add", V.str "adds", V.str "a", V.str "18446744073709551615", V.str "18446744073709551616"]) = F1 at s1 a1 b1 ⊢
    refine ⟨_, B1, _, _, rfl, rfl, a1, b1, by show 25 ≤ sizeLine; decide, fun A1 hA1 => ?_⟩
    have t1 := step (o := HO.lst (odd1.map V.str ++ odd2.map V.str)) s1 hA1
    have v1 : (upd F1 A1 (HO.lst (odd1.map V.str ++ odd2.map V.str))) A1 = some (.lst ((odd1 ++ odd2).map V.str)) := by rw [upd_same, strs_app]
    generalize upd F1 A1 (HO.lst (odd1.map V.str ++ odd2.map V.str)) = G1 at t1 v1 ⊢
    dsimp only [List.set_cons_succ, List.set_cons_zero]
    refine ⟨_, rfl, by show 3 ≤ sizeLine; decide, fun B2 hB2 => ?_⟩
    have s2 := step (o := HO.lst [V.str "-18446744073709551616", V.str "99999999999999999999", V.str "999999999999999999999"]) t1 hB2
    have a2 := new_same (o := HO.lst [V.str "-18446744073709551616", V.str "99999999999999999999", V.str "999999999999999999999"]) hB2 _ _ v1
    have b2 : (upd G1 B2 (HO.lst [V.str "-18446744073709551616", V.str "99999999999999999999", V.str "999999999999999999999"])) B2 = some (.lst (odd3.map V.str)) := upd_same
    generalize upd G1 B2 (HO.lst [V.str "-18446744073709551616", V.str "99999999999999999999", V.str "999999999999999999999"]) = F2 at s2 a2 b2 ⊢
    refine ⟨_, B2, _, _, rfl, rfl, a2, b2, by show 28 ≤ sizeLine; decide, fun A2 hA2 => ?_⟩
    have t2 := step (o := HO.lst ((odd1 ++ odd2).map V.str ++ odd3.map V.str)) s2 hA2
    have v2 : (upd F2 A2 (HO.lst ((odd1 ++ odd2).map V.str ++ odd3.map V.str))) A2 = some (.lst (((odd1 ++ odd2) ++ odd3).map V.str)) := by rw [upd_same, strs_app]
    generalize upd F2 A2 (HO.lst ((odd1 ++ odd2).map V.str ++ odd3.map V.str)) = G2 at t2 v2 ⊢
    dsimp only [List.set_cons_succ, List.set_cons_zero]
    refine ⟨_, rfl, by show 2 ≤ sizeLine; decide, fun B3 hB3 => ?_⟩
    have s3 := step (o := HO.lst [V.str "-99999999999999999999", V.str "000000000000000000001"]) t2 hB3
    have a3 := new_same (o := HO.lst [V.str "-99999999999999999999", V.str "000000000000000000001"]) hB3 _ _ v2
    have b3 : (upd G2 B3 (HO.lst [V.str "-99999999999999999999", V.str "000000000000000000001"])) B3 = some (.lst (odd4.map V.str)) := upd_same
    generalize upd G2 B3 (HO.lst [V.str "-99999999999999999999", V.str "000000000000000000001"]) = F3 at s3 a3 b3 ⊢
    refine ⟨_, B3, _, _, rfl, rfl, a3, b3, by show 30 ≤ sizeLine; decide, fun A3 hA3 => ?_⟩
    have t3 := step (o := HO.lst ((odd1 ++ odd2 ++ odd3).map V.str ++ odd4.map V.str)) s3 hA3
    have v3 : (upd F3 A3 (HO.lst ((odd1 ++ odd2 ++ odd3).map V.str ++ odd4.map V.str))) A3 = some (.lst (((odd1 ++ odd2 ++ odd3) ++ odd4).map V.str)) := by rw [upd_same, strs_app]
    generalize upd F3 A3 (HO.lst ((odd1 ++ odd2 ++ odd3).map V.str ++ odd4.map V.str)) = G3 at t3 v3 ⊢
    dsimp only [List.set_cons_succ, List.set_cons_zero]
    obtain ⟨nd3, nl3⟩ := D.free (same_free s3 hA3)
    have D3 := D.same t3
    have vv : G3 A3 = some (.lst (oddW.map V.str)) := v3
    refine ⟨_, rfl, _, rfl, _, rfl, A3, _, rfl, .inl (SqL.of vv), d, l, _, rfl, D3, by decide +kernel, by decide +kernel, fun r H5 r0 r1 D5 kp5 => ?_⟩
    have v5 := kp5 _ _ vv nd3 nl3
    refine ix_draw v5 r0 r1 (fun v hv => ?_)
    obtain ⟨w, hw, rfl⟩ := List.mem_map.mp hv
    exact k w H5 D5 ((Kept.of t3).trans kp5) (odd_ok w hw)
end
end My

set_option pp.maxSteps 400
set_option Elab.async false
set_option linter.all false
set_option maxRecDepth 100000
set_option maxHeartbeats 1000000
namespace My
open PySem L2 MyR TL
/-! ### a spoilt row -/
theorem cut_strs (ws : List Str) (lo hi : Option Int) : ∃ a b : Nat, cutV (ws.map V.str) lo hi = ((ws.drop a).take b).map V.str := by
  unfold cutV
  rw [← List.map_drop, ← List.map_take]
  exact ⟨_, _, rfl⟩
abbrev WsOk (n k : Nat) (ws : List Str) : Prop := WOk n k (ws.map tl)
theorem WsOk.cut {n k : Nat} {ws : List Str} (h : WsOk n k ws) (a b : Nat) : WsOk n k ((ws.drop a).take b) := by
  show WOk _ _ _
  rw [List.map_take, List.map_drop]
  exact (WOk.drop a h).take b
theorem WsOk.app {n k m j : Nat} {a b : List Str} (h : WsOk n k a) (g : WsOk m j b) : WsOk (n + m) (k + j) (a ++ b) := by
  show WOk _ _ _
  rw [List.map_append]
  exact WOk.app h g
theorem WsOk.one {n k : Nat} {w : Str} (h : TOk n k (tl w)) : WsOk (n + 1) k [w] := WOk.one h
theorem wgt_sum : ∀ ws : List Str, (ws.map (·.length)).sum + ws.length = wgt (ws.map tl)
  | [] => rfl
  | x :: ws => by
    have ih := wgt_sum ws
    show x.length + (ws.map (·.length)).sum + (ws.length + 1) = (tl x).length + 1 + wgt (ws.map tl)
    rw [len_tl]
    omega
theorem WsOk.len {n k : Nat} {ws : List Str} (h : WsOk n k ws) : ws.length ≤ n := by
  have := wgt_sum ws
  have := h.w
  omega
/-- words that are joined by blanks -/
theorem WsOk.join {n k : Nat} {ws : List Str} (h : WsOk n k ws) : TOk n k (tl (Txt.join " " ws)) := by
  rw [join_eq, tl_join, show tl (" " : Str) = [32] from by decide +kernel]
  exact WOk.join (s := 32) h (by decide)
theorem WsOk.sum {n k : Nat} {ws : List Str} (h : WsOk n k ws) (hn : n ≤ 100000) : (ws.map (·.length)).sum + ws.length * (" " : Str).length ≤ 16777216 := by
  have := wgt_sum ws
  have := h.w
  have e : (" " : Str).length = 1 := by decide +kernel
  rw [e]
  omega
def spSpoilT : Sp := fun vs H Q _ => ∃ (d l : Addr) (t : Str) (n k : Nat), vs = [.ref d, .str t] ∧ Deal H d l ∧ TOk n k (tl t) ∧ n ≤ 10000 ∧ ∀ (u : Str) (H' : Hp), Deal H' d l → Kept d l H H' → TOk (2 * n + 30) (2 * k + 1) (tl u) → Q (.str u) H'
abbrev joinR (K : PySem.W.Frag) (Q : VK) : VK := fun x H => ∃ (a : Str) (q : Addr) (ys : List Str), V.str (" " : Str) = .str a ∧ [x] = [V.ref q] ∧ (SqL K H q (ys.map V.str) ∨ SqT K H q (ys.map V.str)) ∧ (ys.map (·.length)).sum + ys.length * a.length ≤ 16777216 ∧ Q (.str (Txt.join a ys)) H
theorem atI_inN {xs : List Nat} {i : Int} (h0 : 0 ≤ i) (h1 : i < xs.length) : ∃ v, v ∈ xs ∧ atI xs i = some v := by
  obtain ⟨j, rfl⟩ : ∃ j : Nat, i = (j : Int) := ⟨i.toNat, by omega⟩
  have hj : j < xs.length := by omega
  exact ⟨xs[j], List.getElem_mem hj, atI_nat (List.getElem?_eq_getElem hj)⟩
def signs : Str := " -0123456789abcdefghijklmnopqrstuvwxyz\n"
theorem signs_ok : ∀ c ∈ tl signs, c < 128 := by decide +kernel
theorem signs_len : (tl signs).length = 39 := by decide +kernel
theorem sign_tok {c : Nat} (h : c ∈ tl signs) : TOk 1 1 (tl (⟨#[c]⟩ : Str)) := ⟨Nat.le_refl _, List.count_le_length, fun x hx => by rw [List.mem_singleton.mp hx]; exact signs_ok c h⟩
section
variable {P : Program} {w : World} {K : PySem.W.Frag} {mg : Str → Option Value} {base : Heap}
abbrev s_law_spoilt_row : Stmt := top 36
abbrev N_law_spoilt_row : List Str := ["_law_deal_here", "_law_text", "_law_words", "_law_at", "_law_form", "_law_place", "_law_sign"]
theorem sc_law_spoilt_row : FnScope N_law_spoilt_row ["_law_deal_here", "_law_text"] (defScope s_law_spoilt_row) := ⟨rfl, rfl, rfl, by decide +kernel, rfl, by decide +kernel, by decide +kernel⟩
theorem ok_law_spoilt_row {f : Addr} {fd : FuncData} (F : Fun K "_law_spoilt_row" "_law_spoilt_row" s_law_spoilt_row f fd) (T : Glob mg) (D_law_draw : Df P w K mg base 1 "_law_draw" ["_law_deal_here", "_law_many"] spDraw) (D_law_odd_word : Df P w K mg base 2 "_law_odd_word" ["_law_deal_here"] spOddW) : FnOk P w K mg base CX0 3 f fd ["_law_deal_here", "_law_text"] spSpoilT := by
  refine F.ok sc_law_spoilt_row (fun vs H Q E h => ?_) (fun cdv A outer s H vs Q E hr h => ?_)
  · obtain ⟨d, l, t, n, m, rfl, _⟩ := h
    rfl
  · obtain ⟨d, l, t, n, m, rfl, D, ht, hn, k⟩ := h
    have nd := sc_law_spoilt_row.nd
    have hu := hu_of hr
    refine ⟨_, (pss_cons (ps_set (i := 2) nd rfl (Or.inl rfl) (pe_split (pv 1) pe_str))
    (pss_cons (ps_par (i := 3) (j := 4) rfl nd rfl rfl (by decide) rfl rfl (pa_cons (pe_call D_law_draw.ok (hr.mono (by decide)) (by rfl) D_law_draw.g D_law_draw.kp D_law_draw.b .nil pass0 (pa_cons (pv 0) (pa_cons (pe_callB call_len_seq (by rfl) T.g_len PySem.boot_len (pa_cons (pv 2) pa_nil)) pa_nil))) (pa_cons (pe_call D_law_draw.ok (hr.mono (by decide)) (by rfl) D_law_draw.g D_law_draw.kp D_law_draw.b .nil pass0 (pa_cons (pv 0) (pa_cons pe_int pa_nil))) pa_nil)) (by rfl))
    (pss_cons (ps_if (pt_cmpR op_eq (pv 4) pe_int (nomark _))
    (pss_one (ps_ret (pe_join pe_str (pe_op op_cat (pe_slice sl_list (pv 2) po_none (po_some (pv 3))) (pe_slice sl_list (pv 2) (po_some (pe_op op_add (pv 3) pe_int)) po_none)))))
    pss_nil)
    (pss_cons (ps_if (pt_cmpR op_eq (pv 4) pe_int (nomark _))
    (pss_one (ps_ret (pe_join pe_str (pe_op op_cat (pe_op op_cat (pe_slice sl_list (pv 2) po_none (po_some (pv 3))) (pe_lst (pa_cons (pe_call D_law_odd_word.ok (hr.mono (by decide)) (by rfl) D_law_odd_word.g D_law_odd_word.kp D_law_odd_word.b .nil pass0 (pa_cons (pv 0) pa_nil)) pa_nil))) (pe_slice sl_list (pv 2) (po_some (pv 3)) po_none)))))
    pss_nil)
    (pss_cons (ps_if (pt_cmpR op_eq (pv 4) pe_int (nomark _))
    (pss_one (ps_ret (pe_ix ix_list (pe_lst (pa_tok (pek_opC op_add_str (pv 1)) (pat_cons (CwR.PET.of (pe_op op_add_str pe_str (pv 1))) (pat_cons (pet_rep1 (pv 1)) (pat_cons (CwR.PET.of (pe_op op_add_str (pv 1) pe_str)) (pat_cons (CwR.PET.of pe_str) (pat_cons (CwR.PET.of (pe_upper (pv 1))) pat_nil))))))) (pe_call D_law_draw.ok (hr.mono (by decide)) (by rfl) D_law_draw.g D_law_draw.kp D_law_draw.b .nil pass0 (pa_cons (pv 0) (pa_cons pe_int pa_nil))) (fun _ _ => rfl))))
    pss_nil)
    (pss_cons (ps_if (pt_cmpR op_eq (pv 4) pe_int (nomark _))
    (pss_cons (ps_set (i := 5) nd rfl (Or.inl rfl) (pe_call D_law_draw.ok (hr.mono (by decide)) (by rfl) D_law_draw.g D_law_draw.kp D_law_draw.b .nil pass0 (pa_cons (pv 0) (pa_cons (pe_op op_add (pe_callB call_len_str (by rfl) T.g_len PySem.boot_len (pa_cons (pv 1) pa_nil)) pe_int) pa_nil))))
    (pss_cons (ps_set (i := 6) nd rfl (Or.inl rfl) (pe_ix ix_str pe_str (pe_call D_law_draw.ok (hr.mono (by decide)) (by rfl) D_law_draw.g D_law_draw.kp D_law_draw.b .nil pass0 (pa_cons (pv 0) (pa_cons pe_int pa_nil))) (fun _ _ => rfl)))
    (pss_one (ps_ret (pe_op op_add_str (pe_op op_add_str (pe_slice sl_str (pv 1) po_none (po_some (pv 5))) (pv 6)) (pe_slice sl_str (pv 1) (po_some (pe_op op_add (pv 5) (pe_call D_law_draw.ok (hr.mono (by decide)) (by rfl) D_law_draw.g D_law_draw.kp D_law_draw.b .nil pass0 (pa_cons (pv 0) (pa_cons pe_int pa_nil))))) po_none))))))
    pss_nil)
    (pss_one (ps_ret (pe_join pe_str (pe_op op_cat (pe_op op_cat (pe_slice sl_list (pv 2) po_none (po_some (pv 3))) (pe_lst (pa_cons (pe_call D_law_odd_word.ok (hr.mono (by decide)) (by rfl) D_law_odd_word.g D_law_odd_word.kp D_law_odd_word.b .nil pass0 (pa_cons (pv 0) pa_nil)) pa_nil))) (pe_slice sl_list (pv 2) (po_some (pe_op op_add (pv 3) pe_int)) po_none))))))))))), ?_⟩
    have hlen : t.length ≤ 10000 := by rw [len_tl]; have := ht.len; omega
    have hls : t.length ≤ sizeLine := Nat.le_trans hlen (by decide +kernel)
    refine ⟨_, rfl, ⟨_, rfl⟩, t, " ", rfl, rfl, by decide +kernel, Nat.le_trans (Nat.add_le_add_right hlen 2) (by decide +kernel), fun p hp => ?_⟩
    have hw : WsOk (n + 1) m (Txt.split t " ") := split_wok (s := 32) (by decide +kernel) (by decide +kernel) (by decide) ht
    have hne := split_blank t
    generalize Txt.split t " " = ws at hw hne ⊢
    have sp := new_same (o := .lst (ws.map V.str)) hp
    have vp : upd H p (.lst (ws.map V.str)) p = some (.lst (ws.map V.str)) := upd_same
    have Dp := D.new (o := .lst (ws.map V.str)) hp
    obtain ⟨npd, npl⟩ := D.free hp
    have kp0 : Kept d l H (upd H p (.lst (ws.map V.str))) := Kept.of sp
    generalize upd H p (.lst (ws.map V.str)) = H1 at sp vp Dp kp0 ⊢
    dsimp only [List.set_cons_succ, List.set_cons_zero]
    have hwl := hw.len
    have hpos : 0 < ws.length := List.length_pos_iff.mpr hne
    refine ⟨_, rfl, _, rfl, p, _, rfl, .inl (SqL.of vp), d, l, _, rfl, Dp, by rw [List.length_map]; omega, by rw [List.length_map]; omega, fun at_ H2 at0 at1 D2 kp2 => ?_⟩
    refine ⟨_, rfl, d, l, _, rfl, D2, by decide, by decide, fun fo H3 fo0 fo1 D3 kp3 => ?_⟩
    refine ⟨_, _, rfl, ?_⟩
    have v3 : H3 p = some (.lst (ws.map V.str)) := kp3 _ _ (kp2 _ _ vp npd npl) npd npl
    have kA : Kept d l H H3 := (kp0.trans kp2).trans kp3
    dsimp only [List.set_cons_succ, List.set_cons_zero]
    have fin : ∀ (u : Str) (H' : Hp), Deal H' d l → Kept d l H3 H' → TOk (2 * n + 30) (2 * m + 1) (tl u) → Q (.str u) H' := fun u H' D' kp h => k u H' D' (kA.trans kp) h
    have cut : ∀ lo hi, ∃ xs : List Str, cutV (ws.map V.str) lo hi = xs.map V.str ∧ WsOk (n + 1) m xs := fun lo hi => by
      obtain ⟨a, b, e⟩ := cut_strs ws lo hi
      exact ⟨_, e, hw.cut a b⟩
    have size : ∀ {x : Nat}, x ≤ 200000 → x ≤ sizeLine := fun h => Nat.le_trans h (by decide +kernel)
    -- with an odd word between two pieces
    have odd3 : ∀ (hi lo : Option Int) (H4 : Hp) (D4 : Deal H4 d l) (kp4 : Kept d l H3 H4) (q1 q2 : Addr) (xs : List Str) (w : Str), WsOk (n + 1) m xs → TOk 21 0 (tl w) → H4 p = some (.lst (ws.map V.str)) → H4 q1 = some (.lst (xs.map V.str)) → H4 q2 = some (.lst [V.str w]) →
        ∀ (R : VK), (∀ (q5 : Addr) (H6 : Hp) (zs : List Str), Deal H6 d l → Kept d l H3 H6 → H6 q5 = some (.lst (zs.map V.str)) → WsOk (2 * n + 24) (2 * m) zs → R (.ref q5) H6) →
        ∀ q3, H4 q3 = none → ∀ q4, upd H4 q3 (.lst (xs.map V.str ++ [V.str w])) q4 = none → rCat (.ref q3) (.ref q4) (upd (upd H4 q3 (.lst (xs.map V.str ++ [V.str w]))) q4 (.lst (cutV (ws.map V.str) lo none))) R := by
      intro hi lo H4 D4 kp4 q1 q2 xs w hx hw1 hp4 hq1 hq2 R kR q3 hq3 q4 hq4
      obtain ⟨ys, ey, hy⟩ := cut lo none
      rw [ey]
      have t1 := new_same (o := .lst (xs.map V.str ++ [V.str w])) hq3
      have u1 : upd H4 q3 (.lst (xs.map V.str ++ [V.str w])) q3 = some (.lst ((xs ++ [w]).map V.str)) := by rw [upd_same, List.map_append]; rfl
      generalize upd H4 q3 (.lst (xs.map V.str ++ [V.str w])) = G1 at t1 u1 hq4 ⊢
      have t2 := new_same (o := .lst (ys.map V.str)) hq4
      have u2 : upd G1 q4 (.lst (ys.map V.str)) q4 = some (.lst (ys.map V.str)) := upd_same
      have u1' := t2 _ _ u1
      generalize upd G1 q4 (.lst (ys.map V.str)) = G2 at t2 u2 u1' ⊢
      have hz : WsOk (2 * n + 24) (2 * m) ((xs ++ [w]) ++ ys) := ((hx.app (WsOk.one hw1)).app hy).mono (by omega) (by omega)
      have hzl := hz.len
      refine ⟨q3, q4, _, _, rfl, rfl, u1', u2, size (by rw [List.length_map, List.length_map, ← List.length_append]; omega), fun q5 hq5 => ?_⟩
      have t3 := (t1.trans t2).trans (new_same (o := .lst ((xs ++ [w]).map V.str ++ ys.map V.str)) hq5)
      exact kR q5 _ _ (D4.same t3) (kp4.trans (Kept.of t3)) (by rw [upd_same, ← List.map_append]) hz
    refine ⟨_, rfl, rfl, _, rfl, ?_⟩
    refine ite2 (fun _ => ?_) (fun _ => ?_)
    · refine ⟨⟨_, rfl⟩, ?_⟩
      refine ⟨_, rfl, _, rfl, _, rfl, p, _, rfl, SqL.of v3, fun q1 hq1 => ?_⟩
      obtain ⟨xs, ex, hx⟩ := cut none (some at_)
      rw [ex]
      have t1 := new_same (o := .lst (xs.map V.str)) hq1
      have u1 : upd H3 q1 (.lst (xs.map V.str)) q1 = some (.lst (xs.map V.str)) := upd_same
      generalize upd H3 q1 (.lst (xs.map V.str)) = G1 at t1 u1 ⊢
      refine ⟨_, rfl, _, rfl, _, _, rfl, rfl, _, rfl, p, _, rfl, SqL.of (t1 _ _ v3), fun q2 hq2 => ?_⟩
      obtain ⟨ys, ey, hy⟩ := cut (some (at_ + 1)) none
      rw [ey]
      have t2 := new_same (o := .lst (ys.map V.str)) hq2
      have u2 : upd G1 q2 (.lst (ys.map V.str)) q2 = some (.lst (ys.map V.str)) := upd_same
      have u1' := t2 _ _ u1
      generalize upd G1 q2 (.lst (ys.map V.str)) = G2 at t2 u2 u1' ⊢
      have hz : WsOk (2 * n + 2) (2 * m) (xs ++ ys) := (hx.app hy).mono (by omega) (by omega)
      have hzl := hz.len
      refine ⟨q1, q2, _, _, rfl, rfl, u1', u2, size (by rw [List.length_map, List.length_map, ← List.length_append]; omega), fun q3 hq3 => ?_⟩
      have t3 := (t1.trans t2).trans (new_same (o := .lst (xs.map V.str ++ ys.map V.str)) hq3)
      refine ⟨_, q3, xs ++ ys, rfl, rfl, .inl (SqL.of (by rw [upd_same, List.map_append])), hz.sum (by omega), ?_⟩
      exact fin _ _ (D3.same t3) (Kept.of t3) (hz.join.mono (by omega) (by omega))
    refine ⟨_, rfl, rfl, _, rfl, ?_⟩
    have oddw : ∀ (lo : Option Int) (R : VK), (∀ (q5 : Addr) (H6 : Hp) (zs : List Str), Deal H6 d l → Kept d l H3 H6 → H6 q5 = some (.lst (zs.map V.str)) → WsOk (2 * n + 24) (2 * m) zs → R (.ref q5) H6) →
        ∀ q1, H3 q1 = none → ∀ (w : Str) (H5 : Hp), Deal H5 d l → Kept d l (upd H3 q1 (.lst (cutV (ws.map V.str) none (some at_)))) H5 → TOk 21 0 (tl w) → ∀ q2, H5 q2 = none →
        rCat (.ref q1) (.ref q2) (upd H5 q2 (.lst [V.str w])) fun v H6 => ∃ a ys, V.ref p = .ref a ∧ SqL K H6 a ys ∧ ∀ q4, H6 q4 = none → rCat v (.ref q4) (upd H6 q4 (.lst (cutV ys lo none))) R := by
      intro lo R kR q1 hq1 w H5 D5 kp5 hw1 q2 hq2
      obtain ⟨xs, ex, hx⟩ := cut none (some at_)
      rw [ex] at kp5
      obtain ⟨n1, n2⟩ := D3.free hq1
      have t1 := new_same (o := .lst (xs.map V.str)) hq1
      have u1 : upd H3 q1 (.lst (xs.map V.str)) q1 = some (.lst (xs.map V.str)) := upd_same
      have kp := (Kept.of t1).trans kp5
      have u5 := kp5 _ _ u1 n1 n2
      have p5 := kp5 _ _ (t1 _ _ v3) npd npl
      have t2 := new_same (o := .lst [V.str w]) hq2
      have w2 : upd H5 q2 (.lst [V.str w]) q2 = some (.lst [V.str w]) := upd_same
      have D6 := D5.same t2
      have kp6 := kp.trans (Kept.of t2)
      generalize upd H5 q2 (.lst [V.str w]) = G at t2 w2 D6 kp6 ⊢
      have hxl := hx.len
      refine ⟨q1, q2, _, _, rfl, rfl, t2 _ _ u5, w2, size (by rw [List.length_map]; show xs.length + 1 ≤ 200000; omega), fun q3 hq3 => ?_⟩
      refine ⟨p, ws.map V.str, rfl, SqL.of (new_same hq3 _ _ (t2 _ _ p5)), fun q4 hq4 => ?_⟩
      exact odd3 none lo G D6 kp6 q1 q2 xs w hx hw1 (t2 _ _ p5) (t2 _ _ u5) w2 R kR q3 hq3 q4 hq4
    have joined : ∀ (q5 : Addr) (H6 : Hp) (zs : List Str), Deal H6 d l → Kept d l H3 H6 → H6 q5 = some (.lst (zs.map V.str)) → WsOk (2 * n + 24) (2 * m) zs → joinR K Q (.ref q5) H6 := fun q5 H6 zs D6 kp6 h5 hz => ⟨_, q5, zs, rfl, rfl, .inl (SqL.of h5), hz.sum (by omega), fin _ _ D6 kp6 (hz.join.mono (by omega) (by omega))⟩
    refine ite2 (fun _ => ?_) (fun _ => ?_)
    · refine ⟨⟨_, rfl⟩, ?_⟩
      refine ⟨_, rfl, _, rfl, _, rfl, p, _, rfl, SqL.of v3, fun q1 hq1 => ?_⟩
      refine ⟨_, rfl, d, l, rfl, D3.new hq1, fun w H5 D5 kp5 hw1 => ?_⟩
      refine ⟨by show 1 ≤ sizeLine; decide, fun q2 hq2 => ?_⟩
      obtain ⟨a, b, xs, ys, e1, e2, h1, h2, hl, kk⟩ := oddw (some at_) (joinR K Q) joined q1 hq1 w H5 D5 kp5 hw1 q2 hq2
      refine ⟨a, b, xs, ys, e1, e2, h1, h2, hl, fun q3 hq3 => ?_⟩
      obtain ⟨a', ys', e3, h3, k4⟩ := kk q3 hq3
      obtain rfl := V.ref.inj e3
      exact ⟨_, rfl, _, rfl, _, rfl, p, _, rfl, h3, k4⟩
    refine ⟨_, rfl, rfl, _, rfl, ?_⟩
    refine ite2 (fun _ => ?_) (fun _ => ?_)
    · have l1 : (" " : Str).length = 1 := by decide +kernel
      have l2 : ("\n" : Str).length = 1 := by decide +kernel
      have l3 : ("  " : Str).length = 2 := by decide +kernel
      refine ⟨_, rfl, _, _, rfl, rfl, size (by rw [l1]; omega), _, rfl, _, _, rfl, rfl, size (by rw [l1]; omega), _, rfl, t, rfl, by rw [l3]; omega, _, rfl, _, _, rfl, rfl, size (by rw [l2]; omega), _, rfl, ⟨_, rfl⟩, t, rfl, rfl, by omega, by show 6 ≤ sizeLine; decide, fun q hq => ?_⟩
      have t1 := new_same (o := .lst [V.str (t ++ " "), V.str (" " ++ t), V.str (rep1 t " " "  "), V.str (t ++ "\n"), V.str "", V.str (Txt.upper t)]) hq
      have u1 : upd H3 q (.lst [V.str (t ++ " "), V.str (" " ++ t), V.str (rep1 t " " "  "), V.str (t ++ "\n"), V.str "", V.str (Txt.upper t)]) q = some (.lst [V.str (t ++ " "), V.str (" " ++ t), V.str (rep1 t " " "  "), V.str (t ++ "\n"), V.str "", V.str (Txt.upper t)]) := upd_same
      obtain ⟨n1, n2⟩ := D3.free hq
      refine ⟨_, rfl, d, l, _, rfl, D3.same t1, by decide, by decide, fun r H5 r0 r1 D5 kp5 => ?_⟩
      refine ix_draw (kp5 _ _ u1 n1 n2) r0 r1 fun v hv => ?_
      have kp := (Kept.of t1).trans kp5
      have e1 : TOk 1 0 (tl (" " : Str)) := ⟨by decide +kernel, by decide +kernel, by decide +kernel⟩
      have e2 : TOk 1 1 (tl ("\n" : Str)) := ⟨by decide +kernel, by decide +kernel, by decide +kernel⟩
      have hv' : v = V.str (t ++ " ") ∨ v = V.str (" " ++ t) ∨ v = V.str (rep1 t " " "  ") ∨ v = V.str (t ++ "\n") ∨ v = V.str "" ∨ v = V.str (Txt.upper t) := by simpa using hv
      rcases hv' with rfl | rfl | rfl | rfl | rfl | rfl
      · exact fin _ _ D5 kp (by rw [tl_append]; exact (ht.app e1).mono (by omega) (by omega))
      · exact fin _ _ D5 kp (by rw [tl_append]; exact (e1.app ht).mono (by omega) (by omega))
      · exact fin _ _ D5 kp ((rep1_tok ht).mono (by omega) (by omega))
      · exact fin _ _ D5 kp (by rw [tl_append]; exact (ht.app e2).mono (by omega) (by omega))
      · exact fin _ _ D5 kp (by rw [show tl ("" : Str) = [] from by decide +kernel]; exact TOk.nil)
      · exact fin _ _ D5 kp ((upper_tok ht).mono (by omega) (by omega))
    refine ⟨_, rfl, rfl, _, rfl, ?_⟩
    refine ite2 (fun _ => ?_) (fun _ => ?_)
    · refine ⟨_, rfl, _, rfl, t, rfl, hls, _, _, rfl, rfl, d, l, _, rfl, D3, by omega, by omega, fun pl H4 pl0 pl1 D4 kp4 => ?_⟩
      dsimp only [List.set_cons_succ, List.set_cons_zero]
      refine ⟨_, rfl, d, l, _, rfl, D4, by decide, by decide, fun si H5 s0 s1 D5 kp5 => ?_⟩
      obtain ⟨c, hc, ec⟩ := atI_inN (xs := tl signs) s0 (by rw [signs_len]; exact s1)
      refine ⟨signs, si, c, rfl, rfl, size (by rw [len_tl, signs_len]; omega), ec, ?_⟩
      dsimp only [List.set_cons_succ, List.set_cons_zero]
      have hsub := fun lo hi => TOk.sub (cut_sub t lo hi) ht
      have hcl : ∀ lo hi, (cutS t lo hi).length ≤ 10000 := fun lo hi => by rw [len_tl]; have := (hsub lo hi).len; omega
      have lc : (⟨#[c]⟩ : Str).length = 1 := rfl
      refine ⟨_, rfl, _, rfl, _, rfl, t, rfl, hls, _, rfl, _, _, rfl, rfl, size (by have := hcl none (some pl); rw [lc]; omega), ?_⟩
      refine ⟨_, rfl, _, rfl, _, rfl, d, l, _, rfl, D5, by decide, by decide, fun o H6 o0 o1 D6 kp6 => ?_⟩
      refine ⟨_, _, rfl, rfl, _, rfl, t, rfl, hls, _, _, rfl, rfl, size (by have := hcl none (some pl); have := hcl (some (pl + o)) none; rw [Str.length_append, lc]; omega), ?_⟩
      refine fin _ _ D6 ((kp4.trans kp5).trans kp6) ?_
      rw [tl_append, tl_append]
      exact (((hsub none (some pl)).app (sign_tok hc)).app (hsub (some (pl + o)) none)).mono (by omega) (by omega)
    refine ⟨⟨_, rfl⟩, ?_⟩
    refine ⟨_, rfl, _, rfl, _, rfl, p, _, rfl, SqL.of v3, fun q1 hq1 => ?_⟩
    refine ⟨_, rfl, d, l, rfl, D3.new hq1, fun w H5 D5 kp5 hw1 => ?_⟩
    refine ⟨by show 1 ≤ sizeLine; decide, fun q2 hq2 => ?_⟩
    obtain ⟨a, b, xs, ys, e1, e2, h1, h2, hl, kk⟩ := oddw (some (at_ + 1)) (joinR K Q) joined q1 hq1 w H5 D5 kp5 hw1 q2 hq2
    refine ⟨a, b, xs, ys, e1, e2, h1, h2, hl, fun q3 hq3 => ?_⟩
    obtain ⟨a', ys', e3, h3, k4⟩ := kk q3 hq3
    obtain rfl := V.ref.inj e3
    exact ⟨_, rfl, _, rfl, _, _, rfl, rfl, _, rfl, p, _, rfl, h3, k4⟩
end
end My

set_option pp.maxSteps 400
set_option Elab.async false
set_option linter.all false
set_option maxRecDepth 100000
set_option maxHeartbeats 1000000
namespace My
open PySem L2 MyR TL
/-! ### outcomes as texts -/
def rowP (r : Rw) : PyData := .tuple (.str r.w :: r.xs.map .int)
def otD : Ot → PyData
  | .pair w i => .tuple [.str w, .int i]
  | .rows rs => .tuple (rs.map rowP)
/-- a row whose numbers are small -/
def SmR (r : Rw) : Prop := (reprText r.w).length ≤ 20 ∧ r.xs.length ≤ 4 ∧ ∀ z ∈ r.xs, -18446744073709551616 < z ∧ z < 18446744073709551616
def OtOk : Ot → Prop
  | .pair w i => (reprText w).length ≤ 20 ∧ 0 ≤ i ∧ i < 5000
  | .rows rs => rs.length ≤ 900 ∧ ∀ r ∈ rs, SmR r
theorem dueG_good {n : Int} : ∀ {rs : List Rv} {i : Nat}, dueG n i rs = none → ∀ r ∈ rs, good r = true
  | [], _, _, r, h => by cases h
  | x :: rs, i, e, r, h => by
    have e : (if good x = true then (if over x (n - 1 - (i : Int)) = true then some (("skip" : Str), (i : Int)) else dueG n (i + 1) rs) else some ("row", (i : Int))) = none := e
    cases hg : good x with
    | false => rw [hg, if_neg Bool.false_ne_true] at e; cases e
    | true =>
      rw [hg, if_pos rfl] at e
      split at e
      · cases e
      · rcases List.mem_cons.mp h with rfl | h
        · exact hg
        · exact dueG_good e r h
theorem dueG_pair {n : Int} : ∀ {rs : List Rv} {i : Nat} {w : Str} {j : Int}, dueG n i rs = some (w, j) → (w = ("row" : Str) ∨ w = ("skip" : Str)) ∧ (i : Int) ≤ j ∧ j < (i : Int) + rs.length
  | [], _, _, _, e => by cases e
  | x :: rs, i, w, j, e => by
    have e : (if good x = true then (if over x (n - 1 - (i : Int)) = true then some (("skip" : Str), (i : Int)) else dueG n (i + 1) rs) else some ("row", (i : Int))) = some (w, j) := e
    rw [List.length_cons]
    split at e
    · split at e
      · obtain ⟨rfl, rfl⟩ := Prod.mk.inj (Option.some.inj e)
        exact ⟨.inr rfl, by omega, by omega⟩
      · have := dueG_pair e
        exact ⟨this.1, by omega, by omega⟩
    · obtain ⟨rfl, rfl⟩ := Prod.mk.inj (Option.some.inj e)
      exact ⟨.inl rfl, by omega, by omega⟩
theorem form_rep {w f : Str} (h : formOf w = some f) : (reprText w).length ≤ 20 := by
  have q : ∀ p ∈ forms, p.1 = ("set" : Str) ∨ p.1 = ("copy" : Str) ∨ p.1 = ("add" : Str) ∨ p.1 = ("sub" : Str) ∨ p.1 = ("mul" : Str) ∨ p.1 = ("left" : Str) ∨ p.1 = ("right" : Str) ∨ p.1 = ("load" : Str) ∨ p.1 = ("store" : Str) ∨ p.1 = ("skip" : Str) := by decide +kernel
  have h' := q _ (forms_at h)
  clear q h
  have h' : w = ("set" : Str) ∨ w = ("copy" : Str) ∨ w = ("add" : Str) ∨ w = ("sub" : Str) ∨ w = ("mul" : Str) ∨ w = ("left" : Str) ∨ w = ("right" : Str) ∨ w = ("load" : Str) ∨ w = ("store" : Str) ∨ w = ("skip" : Str) := h'
  rcases h' with rfl | rfl | rfl | rfl | rfl | rfl | rfl | rfl | rfl | rfl <;> decide +kernel
theorem good_small {r : Rw} (hr : RdOk r) (h : good r.rv = true) : SmR r := by
  obtain ⟨f, hf, hl, _⟩ := id hr
  refine ⟨form_rep hf, small_xs hr, fun z hz => ?_⟩
  obtain ⟨j, hj⟩ := List.mem_iff_getElem?.mp hz
  have hjl : j < r.xs.length := (List.getElem?_eq_some_iff.mp hj).1
  have h : good (.tup (.str r.w :: r.xs.map .int)) = true := h
  rw [good_some hf] at h
  obtain ⟨_, h⟩ := Bool.and_eq_true_iff.mp h
  obtain ⟨h, _⟩ := Bool.and_eq_true_iff.mp h
  have q := List.all_eq_true.mp h j (List.mem_range.mpr (by rw [List.length_map]; exact hjl))
  rw [getD_of (show (r.xs.map It.int)[j]? = some (It.int z) by rw [List.getElem?_map, hj]; rfl)] at q
  exact itOk_big (of_decide_eq_true q)
theorem text_rep : (reprText ("text" : Str)).length ≤ 20 := by decide +kernel
theorem row_rep : (reprText ("row" : Str)).length ≤ 20 := by decide +kernel
theorem skip_rep : (reprText ("skip" : Str)).length ≤ 20 := by decide +kernel
theorem firstN_lt : ∀ {l : List (Option Rw)} {i j : Nat}, firstN i l = some j → j < i + l.length
  | [], _, _, h => by cases h
  | none :: l, i, j, h => by
    obtain rfl := Option.some.inj h
    rw [List.length_cons]
    omega
  | some _ :: l, i, j, h => by
    have := firstN_lt (l := l) (i := i + 1) h
    rw [List.length_cons]
    omega
/-- what is read of a text -/
theorem out_ok {t : Str} (hB : TxB t) : OtOk (outL (readT t)) := by
  have hlen : (readT t).length ≤ 900 := by
    unfold readT
    rw [List.length_map]
    exact hB.num
  cases hf : firstN 0 (readT t) with
  | some i =>
    rw [outL_first hf]
    have := firstN_lt hf
    exact ⟨text_rep, by omega, by omega⟩
  | none =>
    have hs : ∀ {l : List (Option Rw)} {i : Nat}, firstN i l = none → ∃ rs : List Rw, l = rs.map some := fun {l} => by
      induction l with
      | nil => exact fun _ => ⟨[], rfl⟩
      | cons o l ih =>
        intro i h
        cases o with
        | none => cases h
        | some r =>
          obtain ⟨rs, e⟩ := ih (i := i + 1) h
          exact ⟨r :: rs, by rw [e]; rfl⟩
    obtain ⟨rs, hrs⟩ := hs hf
    have hrl : rs.length ≤ 900 := by
      rw [hrs, List.length_map] at hlen
      exact hlen
    have hrd : ∀ r ∈ rs, RdOk r := fun r hr => by
      have hm : some r ∈ readT t := by rw [hrs]; exact List.mem_map_of_mem hr
      obtain ⟨l, _, hl⟩ := List.mem_map.mp hm
      exact rowW_rd hl
    have e0 : (rs.map Rw.rv).length = rs.length := List.length_map ..
    have hdue0 : due (rs.map Rw.rv) = dueG (rs.length : Int) 0 (rs.map Rw.rv) := by
      unfold due
      rw [if_neg (by rw [e0]; omega), e0]
    rw [outL_somes hrs]
    cases hd : due (rs.map Rw.rv) with
    | none =>
      rw [outR_none hd]
      rw [hdue0] at hd
      exact ⟨hrl, fun r hr => good_small (hrd r hr) (dueG_good hd _ (List.mem_map_of_mem hr))⟩
    | some p =>
      obtain ⟨w, i⟩ := p
      rw [outR_due hd]
      rw [hdue0] at hd
      have q := dueG_pair hd
      rw [e0] at q
      refine ⟨?_, by omega, by omega⟩
      rcases q.1 with rfl | rfl
      · exact row_rep
      · exact skip_rep
theorem num_show {z : Int} (h0 : -18446744073709551616 < z) (h1 : z < 18446744073709551616) : (PyData.shown (.int z)).length ≤ 21 := numS_len h0 h1
theorem tuple_len (ts : List Str) {m : Nat} (h : ∀ t ∈ ts, t.length ≤ m) : (tupleText ts).length ≤ ts.length * (m + 2) + 3 := by
  unfold tupleText
  rw [Str.length_append, Str.length_append]
  have a1 : ("(" : Str).length = 1 := by decide +kernel
  have a2 : ((if ts.length == 1 then ",)" else ")" : String) : Str).length ≤ 2 := by split <;> decide +kernel
  have a3 := join_len (", " : Str) h
  rw [join_eq] at a3
  have a4 : (", " : Str).length = 2 := by decide +kernel
  rw [a4] at a3
  rw [a1]
  omega
theorem shownAll_map : ∀ xs : List PyData, PyData.shownAll xs = xs.map PyData.shown
  | [] => by simp [PyData.shownAll]
  | x :: xs => by rw [PyData.shownAll, shownAll_map xs]; rfl
theorem row_show {r : Rw} (h : SmR r) : (PyData.shown (rowP r)).length ≤ 200 := by
  unfold rowP
  rw [PyData.shown, shownAll_map]
  have q := tuple_len ((PyData.str r.w :: r.xs.map PyData.int).map PyData.shown) (m := 21) (fun t ht => by
    obtain ⟨x, hx, rfl⟩ := List.mem_map.mp ht
    rcases List.mem_cons.mp hx with rfl | hx
    · rw [PyData.shown]
      have := h.1
      omega
    · obtain ⟨z, hz, rfl⟩ := List.mem_map.mp hx
      exact num_show (h.2.2 z hz).1 (h.2.2 z hz).2)
  rw [List.length_map, List.length_cons, List.length_map] at q
  have := h.2.1
  omega
theorem int_able {z : Int} (h0 : -18446744073709551616 < z) (h1 : z < 18446744073709551616) : PyData.showable (.int z) = true := by
  rw [PyData.showable]
  exact decide_eq_true (big_log h0 h1)
theorem ints_able : ∀ {xs : List Int}, (∀ z ∈ xs, -18446744073709551616 < z ∧ z < 18446744073709551616) → PyData.showableAll (xs.map .int) = true
  | [], _ => by simp [PyData.showableAll]
  | x :: xs, h => by
    rw [List.map_cons, PyData.showableAll, int_able (h x List.mem_cons_self).1 (h x List.mem_cons_self).2, ints_able fun z hz => h z (List.mem_cons_of_mem _ hz)]
    rfl
theorem row_able {r : Rw} (h : SmR r) : PyData.showable (rowP r) = true := by
  unfold rowP
  rw [PyData.showable, PyData.showableAll, PyData.showable, ints_able h.2.2]
  rfl
theorem rows_able : ∀ {rs : List Rw}, (∀ r ∈ rs, SmR r) → PyData.showableAll (rs.map rowP) = true
  | [], _ => by simp [PyData.showableAll]
  | r :: rs, h => by
    rw [List.map_cons, PyData.showableAll, row_able (h r List.mem_cons_self), rows_able fun x hx => h x (List.mem_cons_of_mem _ hx)]
    rfl
theorem ints_nd : ∀ xs : List Int, PyData.hasDictAll (xs.map .int) = false
  | [] => by simp [PyData.hasDictAll]
  | x :: xs => by rw [List.map_cons, PyData.hasDictAll, PyData.hasDict, ints_nd xs]; rfl
theorem rows_nd : ∀ rs : List Rw, PyData.hasDictAll (rs.map rowP) = false
  | [] => by simp [PyData.hasDictAll]
  | r :: rs => by
    rw [List.map_cons, PyData.hasDictAll, rows_nd rs]
    unfold rowP
    rw [PyData.hasDict, PyData.hasDictAll, PyData.hasDict, ints_nd]
    rfl
theorem rowP_dep (r : Rw) : (rowP r).depth = 1 := by
  unfold rowP
  rw [PyData.depth, PyData.depthAll, PyData.depth, zs_dep]
  rfl
theorem rowsP_dep : ∀ rs : List Rw, PyData.depthAll (rs.map rowP) ≤ 1
  | [] => by simp [PyData.depthAll]
  | r :: rs => by
    rw [List.map_cons, PyData.depthAll, rowP_dep]
    have := rowsP_dep rs
    omega
theorem rowP_dp {K : PySem.W.Frag} {H : Hp} {r : Rw} {p : Addr} (h : RowAt H r p) : Dp K H (.ref p) (rowP r) := .tup (SqT.of h) (.cons (.str r.w) (zs_dp r.xs))
theorem rowsP_dp {K : PySem.W.Frag} {H : Hp} : ∀ {rs : List Rw} {as : List Addr}, RowsAt H rs as → DpAll K H (refs as) (rs.map rowP)
  | [], [], _ => .nil
  | [], a :: as, h => absurd h.len (by simp)
  | r :: rs, [], h => absurd h.len (by simp)
  | r :: rs, a :: as, h => by
    obtain ⟨p, e1, e2⟩ := h.at_ 0 r rfl
    obtain rfl := Option.some.inj e1
    exact .cons (rowP_dp e2) (rowsP_dp ⟨by have := h.len; simpa using this, fun i r' e => h.at_ (i + 1) r' e⟩)
/-- the text of an outcome -/
theorem ot_repr {K : PySem.W.Frag} {H : Hp} {v : V} {o : Ot} {Q : VK} (h : OtAt H v o) (ok : OtOk o) (k : Q (.str (PyData.shown (otD o))) H) : rReprD K [v] H Q := by
  have big : (200000 : Nat) ≤ sizeLine := by decide +kernel
  cases o with
  | pair w i =>
    obtain ⟨p, rfl, hp⟩ := h
    obtain ⟨hw, h0, h1⟩ := ok
    have b0 : -18446744073709551616 < i := by omega
    have b1 : i < 18446744073709551616 := by omega
    refine .inr ⟨p, _, rfl, .tup (SqT.of hp) (.cons (.str w) (.cons (.int i) .nil)), ?_, rfl, ?_, ?_, k⟩
    · rw [PyData.showable, PyData.showableAll, PyData.showableAll, PyData.showableAll, PyData.showable, int_able b0 b1]
      rfl
    · rw [PyData.depth, PyData.depthAll, PyData.depthAll, PyData.depthAll, PyData.depth, PyData.depth]
      decide
    · show (PyData.shown (.tuple [.str w, .int i])).length ≤ sizeLine
      rw [PyData.shown, shownAll_map]
      have q := tuple_len ([PyData.str w, PyData.int i].map PyData.shown) (m := 21) (fun t ht => by
        have ht : t = PyData.shown (.str w) ∨ t = PyData.shown (.int i) := by simpa using ht
        rcases ht with rfl | rfl
        · rw [PyData.shown]; omega
        · exact num_show b0 b1)
      have q : _ ≤ 2 * (21 + 2) + 3 := q
      omega
  | rows rs =>
    obtain ⟨p, as, rfl, hp, hr⟩ := h
    obtain ⟨hl, hs⟩ := ok
    refine .inr ⟨p, .tuple (rs.map rowP), rfl, .tup (SqT.of hp) (rowsP_dp hr), ?_, ?_, ?_, ?_, k⟩
    · rw [PyData.showable]; exact rows_able hs
    · rw [PyData.hasDict]; exact rows_nd rs
    · rw [PyData.depth]
      have := rowsP_dep rs
      omega
    · rw [PyData.shown, shownAll_map]
      have q := tuple_len ((rs.map rowP).map PyData.shown) (m := 200) (fun t ht => by
        obtain ⟨x, hx, rfl⟩ := List.mem_map.mp ht
        obtain ⟨r, hr', rfl⟩ := List.mem_map.mp hx
        exact row_show (hs r hr'))
      rw [List.length_map, List.length_map] at q
      omega
/-! ### texts of some lines -/
theorem txb_of {t : Str} {n k : Nat} (h : TOk n k (tl t)) (hn : n ≤ 40000) (hk : k ≤ 800) : TxB t := by
  refine ⟨by rw [len_tl]; have := h.len; omega, ?_, h.asc⟩
  unfold linesT
  split
  · exact Nat.zero_le _
  · rw [split_num (x := t) (y := "\n") (s := 10) (by decide +kernel) (by decide +kernel)]
    have := h.cnt
    omega
theorem ws_all {n k : Nat} : ∀ {zs : List Str}, (∀ z ∈ zs, TOk n k (tl z)) → WOk (zs.length * (n + 1)) (zs.length * k) (zs.map tl)
  | [], _ => ⟨Nat.zero_le _, Nat.zero_le _, fun w h => by cases h⟩
  | z :: zs, h => by
    have h1 := WOk.one (h z List.mem_cons_self)
    have h2 := ws_all fun x hx => h x (List.mem_cons_of_mem _ hx)
    rw [List.length_cons, Nat.succ_mul, Nat.succ_mul, List.map_cons]
    exact (h1.app h2).mono (by omega) (by omega)
theorem txb_join {zs : List Str} (hl : zs.length ≤ 20) (h : ∀ z ∈ zs, TOk 1090 7 (tl z)) : TxB (Txt.join "\n" zs) := by
  have q := WOk.join (s := 10) (ws_all h) (by decide)
  rw [if_pos rfl, List.length_map] at q
  refine txb_of (n := 20 * 1091) (k := 160) (?_) (by decide) (by decide)
  rw [join_eq, tl_join, show tl ("\n" : Str) = [10] from by decide +kernel]
  exact q.mono (by have := Nat.mul_le_mul_right (1090 + 1) hl; omega) (by omega)
theorem sum_join {zs : List Str} (hl : zs.length ≤ 20) (h : ∀ z ∈ zs, TOk 1090 7 (tl z)) : (zs.map (·.length)).sum + zs.length * ("\n" : Str).length ≤ 16777216 := by
  have q := sum_le (m := 1090) (ys := zs) fun z hz => by rw [len_tl]; exact (h z hz).len
  have e : ("\n" : Str).length = 1 := by decide +kernel
  rw [e]
  have := Nat.mul_le_mul_right 1090 hl
  omega
theorem txs_dp {K : PySem.W.Frag} {H : Hp} : ∀ xs : List Str, DpAll K H (xs.map V.str) (xs.map PyData.str)
  | [] => .nil
  | x :: xs => .cons (.str x) (txs_dp xs)
theorem txs_lay : ∀ {xs : List Str}, (∀ x ∈ xs, PyData.strOk x = true) → PyData.canLayAll0 (xs.map PyData.str) = true
  | [], _ => by simp [PyData.canLayAll0]
  | x :: xs, h => by
    rw [List.map_cons, PyData.canLayAll0, PyData.canLay0, txs_lay fun y hy => h y (List.mem_cons_of_mem _ hy), h x List.mem_cons_self]
    rfl
theorem txs_dep : ∀ xs : List Str, PyData.depthAll (xs.map PyData.str) = 0
  | [] => by simp [PyData.depthAll]
  | x :: xs => by
    rw [List.map_cons, PyData.depthAll, PyData.depth, txs_dep xs]
    rfl
theorem txs_shape {xs : List Str} (h : ∀ x ∈ xs, PyData.strOk x = true) : SeqAt.shaped (.list (xs.map PyData.str)) = true := by
  unfold SeqAt.shaped
  rw [show (PyData.list (xs.map PyData.str)).canLay0 = true from by rw [PyData.canLay0]; exact txs_lay h, Bool.true_and]
  refine decide_eq_true ?_
  rw [PyData.depth, txs_dep]
  decide
theorem txs_nil (xs : List Str) : PyData.eqv (.list (xs.map PyData.str)) (.list []) = xs.isEmpty := by
  cases xs <;> simp [PyData.eqv, PyData.eqvAll]
def nB : Nat → Nat
  | 0 => 110
  | j + 1 => 2 * nB j + 30
def kB : Nat → Nat
  | 0 => 0
  | j + 1 => 2 * kB j + 1
theorem nB_le {j : Nat} (h : j ≤ 3) : nB j ≤ 1090 ∧ kB j ≤ 7 := by
  have q : ∀ j < 4, nB j ≤ 1090 ∧ kB j ≤ 7 := by decide
  exact q j (by omega)
theorem row_tok {r : Rw} (h : r.ok) : TOk 110 0 (tl (rowTxt r)) := ⟨by rw [← len_tl]; exact rowTxt_len h, Nat.le_of_eq (List.count_eq_zero.mpr fun hc => by have := rowTxt_signs h hc; omega), fun c hc => by have := rowTxt_signs h hc; omega⟩
end My

set_option pp.maxSteps 400
set_option Elab.async false
set_option linter.all false
set_option maxRecDepth 100000
set_option maxHeartbeats 1000000
namespace My
open PySem L2 MyR TL
/-- lines in the heap -/
structure Lns (d l : Addr) (H : Hp) (q : Addr) (n k m : Nat) (zs : List Str) : Prop where
  at_ : H q = some (.lst (zs.map V.str))
  nd : q ≠ d
  nl : q ≠ l
  len : zs.length ≤ m
  ok : ∀ z ∈ zs, TOk n k (tl z)
theorem Lns.kept {d l q : Addr} {H H' : Hp} {n k m : Nat} {zs : List Str} (h : Lns d l H q n k m zs) (kp : Kept d l H H') : Lns d l H' q n k m zs := ⟨kp _ _ h.at_ h.nd h.nl, h.nd, h.nl, h.len, h.ok⟩
theorem Lns.same {d l q : Addr} {H H' : Hp} {n k m : Nat} {zs : List Str} (h : Lns d l H q n k m zs) (s : Same H H') : Lns d l H' q n k m zs := ⟨s _ _ h.at_, h.nd, h.nl, h.len, h.ok⟩
theorem Lns.strs {d l q : Addr} {H : Hp} {n k m : Nat} {zs : List Str} (h : Lns d l H q n k m zs) : ∀ z ∈ zs, PyData.strOk z = true := fun z hz => (h.ok z hz).str
theorem cut_mem (zs : List Str) (lo hi : Option Int) : ∃ xs : List Str, cutV (zs.map V.str) lo hi = xs.map V.str ∧ xs.length ≤ zs.length ∧ ∀ x ∈ xs, x ∈ zs := by
  obtain ⟨a, b, e⟩ := cut_strs zs lo hi
  refine ⟨_, e, ?_, fun x hx => List.mem_of_mem_drop (List.mem_of_mem_take hx)⟩
  rw [List.length_take, List.length_drop]
  omega
theorem get_mem {zs : List Str} {i : Int} (h0 : 0 ≤ i) (h1 : i < zs.length) : ∃ z, z ∈ zs ∧ atI (zs.map V.str) i = some (.str z) := by
  obtain ⟨v, hv, e⟩ := atI_in (xs := zs.map V.str) h0 (by rw [List.length_map]; exact h1)
  obtain ⟨z, hz, rfl⟩ := List.mem_map.mp hv
  exact ⟨z, hz, e⟩
def last7 : List Str := ["\n", " ", "left 0 0\n", "\nleft 0 0", "add 9 9 9\nleft", "skip 0 1 0 1", "skip 0 3 0 9\nset 0 -0"]
theorem last_ok : ∀ t ∈ last7, TxB t := fun t ht => by
  have q : ∀ t ∈ last7, (tl t).length ≤ 100 ∧ (tl t).count 10 ≤ 5 ∧ ∀ c ∈ tl t, c < 128 := by decide +kernel
  obtain ⟨h1, h2, h3⟩ := q t ht
  exact txb_of ⟨h1, h2, h3⟩ (by decide) (by decide)
theorem wait_ok : ∀ z ∈ (["", "wait", "-"] : List Str), TOk 1090 7 (tl z) := fun t ht => by
  have q : ∀ t ∈ (["", "wait", "-"] : List Str), (tl t).length ≤ 1090 ∧ (tl t).count 10 ≤ 7 ∧ ∀ c ∈ tl t, c < 128 := by decide +kernel
  obtain ⟨h1, h2, h3⟩ := q t ht
  exact ⟨h1, h2, h3⟩
theorem lst_three : ([V.str "", V.str "wait", V.str "-"] : List V) = (["", "wait", "-"] : List Str).map V.str := rfl
def spLaw (K : PySem.W.Frag) : Sp := fun vs H Q _ => ∃ (a : Addr) (ns : List Int), vs = [.ref a] ∧ SqL K H a (ns.map V.int) ∧ ns.length ≤ 63 ∧ ∀ H', Q (.bl true) H'
section
variable {P : Program} {w : World} {K : PySem.W.Frag} {mg : Str → Option Value} {base : Heap}
abbrev s_law : Stmt := top 37
abbrev N_law : List Str := ["_law_script", "_law_deal_here", "_law_turn", "_law_rows", "_law_good", "_law_item", "_law_row_here", "_law_again", "_law_lines", "_law_spoil", "_law_at", "_law_form", "_law_text"]
theorem sc_law : FnScope N_law ["_law_script"] (defScope s_law) := ⟨rfl, rfl, rfl, by decide +kernel, rfl, by decide +kernel, by decide +kernel⟩
theorem ok_law {f : Addr} {fd : FuncData} (F : Fun K "law" "law" s_law f fd) (T : Glob mg) (g_repr : mg "repr" = none)
    (D_law_deal : Df P w K mg base 1 "_law_deal" ["_law_script", "_law_base"] (spDeal K)) (D_law_draw : Df P w K mg base 1 "_law_draw" ["_law_deal_here", "_law_many"] spDraw) (D_law_far_rows : Df P w K mg base 5 "_law_far_rows" ["_law_deal_here", "_law_registers", "_law_many"] spRows)
    (D_law_told : Df P w K mg base 8 "_law_told" ["_law_text"] spToldT) (D_law_due : Df P w K mg base 4 "_law_due" ["_law_text"] spDueT) (D_law_spoilt_row : Df P w K mg base 3 "_law_spoilt_row" ["_law_deal_here", "_law_text"] spSpoilT) : FnOkG P w K mg base CX0 9 f fd ["_law_script"] (spLaw K) := by
  refine okG F sc_law (fun vs H Q E h => ?_) (fun cdv A hgd outer s H vs Q E hr h => ?_)
  · obtain ⟨a, ns, rfl, _⟩ := h
    rfl
  · obtain ⟨sA, ns, rfl, hS, hlen, k⟩ := h
    have hu := hu_of hr
    have nd := sc_law.nd
    refine ⟨_, (pss_cons (ps_set (i := 1) nd rfl (Or.inl rfl) (pe_call D_law_deal.ok (hr.mono (by decide)) (by rfl) D_law_deal.g D_law_deal.kp D_law_deal.b .nil pass0 (pa_cons (pv 0) (pa_cons pe_int pa_nil))))
    (pss_cons (ps_for PassesOwn.never rfl (pi_range1 (by rfl) T.g_range (pa_cons (pe_op op_add pe_int (pe_callB call_len_seq (by rfl) T.g_len PySem.boot_len (pa_cons (pe_slice sl_list (pv 0) po_none (po_some pe_int)) pa_nil))) pa_nil)) (pg_name (i := 2) nd rfl (Or.inl rfl))
    (pss_cons (ps_set (i := 3) nd rfl (Or.inl rfl) (pe_call D_law_far_rows.ok (hr.mono (by decide)) (by rfl) D_law_far_rows.g D_law_far_rows.kp D_law_far_rows.b .nil pass0 (pa_cons (pv 1) (pa_cons pe_int (pa_cons (pe_call D_law_draw.ok (hr.mono (by decide)) (by rfl) D_law_draw.g D_law_draw.kp D_law_draw.b .nil pass0 (pa_cons (pv 1) (pa_cons pe_int pa_nil))) pa_nil)))))
    (pss_cons (ps_setLc (i := 4) (own := [("_law_row_here", 6)]) (g := gName 6) (tt := tYes) rfl nd rfl rfl (sw_true rfl rfl rfl (by decide +kernel)) (pi_list (pv 3)) (blkOk_by (N := N_law) (sc := defScope s_law) (by decide +kernel)) (fun _ _ _ _ _ => pg_name (i := 6) nd rfl (Or.inl rfl)) (fun _ _ _ _ _ => pts_nil) (fun _ _ _ _ _ => (pe_rowtxt (i := 6) (j := 5) rfl nd rfl (Or.inl rfl) rfl (blk_any (N := N_law) (sc' := ⟨.function, [], false, false, []⟩) rfl (by decide +kernel)) rfl (fun _ _ => rfl) T.g_str rfl (by decide) (by decide) (by decide) (by decide))))
    (pss_one (ps_for PassesOwn.never rfl (pi_range1 (by rfl) T.g_range (pa_cons pe_int pa_nil)) (pg_name (i := 7) nd rfl (Or.inl rfl))
    (pss_cons (ps_set (i := 8) nd rfl (Or.inl rfl) (pe_callTy call_list_of (by rfl) T.g_list (by decide +kernel) (pa_cons (pv 4) pa_nil)))
    (pss_cons (ps_for PassesOwn.never rfl (pi_range1 (by rfl) T.g_range (pa_cons (pe_op op_mul (pe_call D_law_draw.ok (hr.mono (by decide)) (by rfl) D_law_draw.g D_law_draw.kp D_law_draw.b .nil pass0 (pa_cons (pv 1) (pa_cons pe_int pa_nil))) (pe_callTy call_int1 (by rfl) T.g_int (by decide +kernel) (pa_cons (pe_cmpR (op_neD hr.units) (pv 8) (pe_lst pa_nil) (nomark _)) pa_nil))) pa_nil)) (pg_name (i := 9) nd rfl (Or.inl rfl))
    (pss_cons (ps_set (i := 10) nd rfl (Or.inl rfl) (pe_call D_law_draw.ok (hr.mono (by decide)) (by rfl) D_law_draw.g D_law_draw.kp D_law_draw.b .nil pass0 (pa_cons (pv 1) (pa_cons (pe_callB call_len_seq (by rfl) T.g_len PySem.boot_len (pa_cons (pv 8) pa_nil)) pa_nil))))
    (pss_one (ps_asg (pe_call D_law_spoilt_row.ok (hr.mono (by decide)) (by rfl) D_law_spoilt_row.g D_law_spoilt_row.kp D_law_spoilt_row.b .nil pass0 (pa_cons (pv 1) (pa_cons (pe_ix ix_list (pv 8) (pv 10) (fun _ _ => rfl)) pa_nil))) (pg_sub (pv 8) (pv 10) set_list)))))
    (pss_cons (ps_set (i := 11) nd rfl (Or.inl rfl) (pe_ifExp (pt_cmpR (op_neD hr.units) (pv 8) (pe_lst pa_nil) (nomark _)) (pe_call D_law_draw.ok (hr.mono (by decide)) (by rfl) D_law_draw.g D_law_draw.kp D_law_draw.b .nil pass0 (pa_cons (pv 1) (pa_cons pe_int pa_nil))) pe_int))
    (pss_cons (ps_set (i := 10) nd rfl (Or.inl rfl) (pe_ifExp (pt_cmpR op_lt (pv 11) pe_int (nomark _)) (pe_call D_law_draw.ok (hr.mono (by decide)) (by rfl) D_law_draw.g D_law_draw.kp D_law_draw.b .nil pass0 (pa_cons (pv 1) (pa_cons (pe_callB call_len_seq (by rfl) T.g_len PySem.boot_len (pa_cons (pv 8) pa_nil)) pa_nil))) pe_int))
    (pss_cons (ps_if (pt_cmpR op_eq (pv 11) pe_int (nomark _))
    (pss_one (ps_set (i := 8) nd rfl (Or.inl rfl) (pe_op op_cat (pe_slice sl_list (pv 8) po_none (po_some (pv 10))) (pe_slice sl_list (pv 8) (po_some (pe_op op_add (pv 10) pe_int)) po_none))))
    (pss_one (ps_if (pt_cmpR op_eq (pv 11) pe_int (nomark _))
    (pss_one (ps_set (i := 8) nd rfl (Or.inl rfl) (pe_op op_cat (pe_op op_cat (pe_slice sl_list (pv 8) po_none (po_some (pv 10))) (pe_lst (pa_cons (pe_ix ix_list (pv 8) (pv 10) (fun _ _ => rfl)) pa_nil))) (pe_slice sl_list (pv 8) (po_some (pv 10)) po_none))))
    (pss_one (ps_if (pt_cmpR op_eq (pv 11) pe_int (nomark _))
    (pss_one (ps_set (i := 8) nd rfl (Or.inl rfl) (pe_op op_cat (pe_op op_cat (pe_slice sl_list (pv 8) po_none (po_some (pv 10))) (pe_slice sl_list (pe_slice sl_list (pe_lst (pa_cons pe_str (pa_cons pe_str (pa_cons pe_str pa_nil)))) (po_some (pe_call D_law_draw.ok (hr.mono (by decide)) (by rfl) D_law_draw.g D_law_draw.kp D_law_draw.b .nil pass0 (pa_cons (pv 1) (pa_cons pe_int pa_nil)))) po_none) po_none (po_some pe_int))) (pe_slice sl_list (pv 8) (po_some (pv 10)) po_none))))
    pss_nil)))))
    (pss_cons (ps_set (i := 12) nd rfl (Or.inl rfl) (pe_join pe_str (pv 8)))
    (pss_one (ps_if (pt_cmpR op_ne (pe_callB (call_reprD hgd hr.units) (by rfl) g_repr (by decide +kernel) (pa_cons (pe_call D_law_told.ok (hr.mono (by decide)) (by rfl) D_law_told.g D_law_told.kp D_law_told.b .nil pass0 (pa_cons (pv 12) pa_nil)) pa_nil)) (pe_callB (call_reprD hgd hr.units) (by rfl) g_repr (by decide +kernel) (pa_cons (pe_call D_law_due.ok (hr.mono (by decide)) (by rfl) D_law_due.g D_law_due.kp D_law_due.b .nil pass0 (pa_cons (pv 12) pa_nil)) pa_nil)) (nomark _))
    (pss_one (ps_ret pe_bl))
    pss_nil)))))))))))))
    (pss_cons (ps_for PassesOwn.never rfl (pi_tup (pe_tup (pa_cons pe_str (pa_cons pe_str (pa_cons pe_str (pa_cons pe_str (pa_cons pe_str (pa_cons pe_str (pa_cons pe_str pa_nil))))))))) (pg_name (i := 12) nd rfl (Or.inl rfl))
    (pss_one (ps_if (pt_cmpR op_ne (pe_callB (call_reprD hgd hr.units) (by rfl) g_repr (by decide +kernel) (pa_cons (pe_call D_law_told.ok (hr.mono (by decide)) (by rfl) D_law_told.g D_law_told.kp D_law_told.b .nil pass0 (pa_cons (pv 12) pa_nil)) pa_nil)) (pe_callB (call_reprD hgd hr.units) (by rfl) g_repr (by decide +kernel) (pa_cons (pe_call D_law_due.ok (hr.mono (by decide)) (by rfl) D_law_due.g D_law_due.kp D_law_due.b .nil pass0 (pa_cons (pv 12) pa_nil)) pa_nil)) (nomark _))
    (pss_one (ps_ret pe_bl))
    pss_nil)))
    (pss_one (ps_ret pe_bl))))), ?_⟩
    refine ⟨_, rfl, sA, ns, rfl, hS, hlen, fun d l H1 _ _ sm1 D1 => ?_⟩
    refine ⟨_, rfl, _, rfl, sA, _, rfl, Same.seq sm1 hS, fun p hp => ?_⟩
    obtain ⟨ms, em, hml⟩ := cut_ints ns none (some 1)
    rw [em]
    have hl2 : (ms.map V.int).length ≤ 63 := by rw [List.length_map]; omega
    have D1' := D1.new (o := .lst (ms.map V.int)) hp
    refine ⟨p, _, rfl, .inl (SqL.of upd_same), _, _, rfl, rfl, _, rfl, by omega, by omega, ?_⟩
    refine for_range (lo := 0) (n := _) (fun i σ H2 => ∃ a2 a3 a4 a7 a8 a9 a10 a11 a12 : Option V, σ = [some (.ref sA), some (.ref d), a2, a3, a4, none, none, a7, a8, a9, a10, a11, a12] ∧ Deal H2 d l) ⟨_, _, _, _, _, _, _, _, _, rfl, D1'⟩ ?_ ?_
    · rintro i σ H2 hi ⟨a2, a3, a4, a7, a8, a9, a10, a11, a12, rfl, D2⟩
      refine ⟨_, rfl, _, rfl, d, l, _, rfl, D2, by decide, by decide, fun x H3 x0 x1 D3 kp3 => ?_⟩
      obtain ⟨n, rfl⟩ : ∃ n : Nat, x = (n : Int) := ⟨x.toNat, by omega⟩
      refine ⟨d, l, n, rfl, D3, by omega, fun L rs H4 hL0 D4 kp4 hl4 hok hrl => ?_⟩
      obtain ⟨as, h4, hr4⟩ := hl4
      have hall : ∀ r ∈ rs, r.ok := fun r hr => by
        obtain ⟨i, hi⟩ := List.mem_iff_getElem?.mp hr
        exact (hok i r hi).1
      have hal : (refs as).length = rs.length := by rw [refs_len, hr4.len]
      dsimp only [List.set_cons_succ, List.set_cons_zero]
      -- the right lines
      refine ⟨_, rfl, L, rfl, ⟨_, SqL.of h4⟩, fun GA hGA => ?_⟩
      refine lc_it walk_list (fun i H1 => Same H4 H1 ∧ H1 GA = some (.lst (((rs.map rowTxt).take i).map V.str))) ⟨new_same hGA, upd_same⟩ (fun i H1 _ h => SqL.of (h.1 _ _ h4)) ?_ ?_
      · rintro i x H1 H2 hi ⟨s1, hd⟩ ⟨rfl, hx⟩
        rw [hal] at hi
        have hri : rs[i]? = some rs[i] := List.getElem?_eq_getElem hi
        obtain ⟨q, e1, e2⟩ := hr4.at_ i rs[i] hri
        obtain rfl : x = .ref q := by
          have := refs_at e1
          rw [this] at hx
          exact (Option.some.inj hx).symm
        have hok1 := hall _ (List.getElem_mem hi)
        have hq := e2.same s1
        refine ⟨rfl, ?_⟩
        refine ⟨by show 5 < 13; decide, q, _, rfl, hq, hok1, fun H3 s3 => ?_⟩
        have hd3 := s3 _ _ hd
        refine ⟨_, hd3, ?_, ?_, ?_⟩
        · rw [List.length_map, List.length_take]
          exact small1000 (by omega)
        · intro b o e
          rw [upd_ne (ne_of_none e hGA)]
          exact s3 _ _ (s1 _ _ e)
        · rw [upd_same, List.take_add_one, List.getElem?_map, hri, List.map_append]
          rfl
      rintro H5 ⟨s5, hd⟩
      rw [hal, show rs.length = (rs.map rowTxt).length by rw [List.length_map], List.take_length] at hd
      have D5 := D4.same s5
      obtain ⟨nGd, nGl⟩ := D4.free hGA
      have LG : Lns d l H5 GA 110 0 8 (rs.map rowTxt) := ⟨hd, nGd, nGl, by rw [List.length_map]; omega, fun z hz => by
        obtain ⟨r, hr', rfl⟩ := List.mem_map.mp hz
        exact row_tok (hall r hr')⟩
      generalize rs.map rowTxt = gs at LG
      dsimp only [List.set_cons_succ, List.set_cons_zero]
      refine ⟨10, rfl, by decide, by decide, ?_⟩
      refine for_range (lo := 0) (n := (10 : Int).toNat) (fun j σ H6 => ∃ b7 b8 b9 b10 b11 b12 : Option V, σ = [some (.ref sA), some (.ref d), some (.int (0 + (i : Int))), some (.ref L), some (.ref GA), none, none, b7, b8, b9, b10, b11, b12] ∧ Deal H6 d l ∧ Lns d l H6 GA 110 0 8 gs) ⟨_, _, _, _, _, _, rfl, D5, LG⟩ ?_ ?_
      · rintro j σ H6 hj ⟨b7, b8, b9, b10, b11, b12, rfl, D6, LG6⟩
        refine ⟨_, rfl, GA, _, rfl, .inl (SqL.of LG6.at_), fun q hq => ?_⟩
        have s7 := new_same (o := .lst (gs.map V.str)) hq
        obtain ⟨nqd, nql⟩ := D6.free hq
        have D7 := D6.same s7
        have LG7 := LG6.same s7
        have LQ : Lns d l (upd H6 q (.lst (gs.map V.str))) q 110 0 8 gs := ⟨upd_same, nqd, nql, LG6.len, LG6.ok⟩
        have nqG : q ≠ GA := fun e => by rw [e] at hq; rw [LG6.at_] at hq; cases hq
        generalize upd H6 q (.lst (gs.map V.str)) = H7 at s7 D7 LG7 LQ ⊢
        dsimp only [List.set_cons_succ, List.set_cons_zero]
        -- how often it is spoilt
        refine ⟨_, rfl, d, l, _, rfl, D7, by decide, by decide, fun r H8 r0 r1 D8 kp8 => ?_⟩
        have LQ8 := LQ.kept kp8
        have LG8 := LG7.kept kp8
        refine ⟨_, rfl, by show 0 ≤ sizeLine; decide, fun e he => ?_⟩
        have s9 := new_same (o := .lst []) he
        have LQ9 := LQ8.same s9
        have LG9 := LG8.same s9
        have D9 := D8.same s9
        refine ⟨.list (gs.map .str), .list [], .lst (SqL.of LQ9.at_) (txs_dp _), .lst (SqL.of upd_same) .nil, txs_shape LQ9.strs, rfl, ?_⟩
        rw [txs_nil]
        generalize upd H8 e (.lst []) = H9 at LQ9 LG9 D9 ⊢
        refine .inr ⟨_, rfl, ?_⟩
        refine ⟨_, _, rfl, rfl, .inl ⟨by omega, by omega⟩, _, rfl, by split <;> omega, by split <;> omega, ?_⟩
        have hmany : (r * (if (!gs.isEmpty) = true then 1 else 0)).toNat ≤ 3 := by split <;> omega
        have hpos : ∀ i, i < (r * (if (!gs.isEmpty) = true then 1 else 0)).toNat → 0 < gs.length := fun i hi => by
          cases gs with
          | nil =>
            have : (r * (if (!([] : List Str).isEmpty) = true then 1 else 0)).toNat = 0 := by
              rw [if_neg (by decide)]
              omega
            omega
          | cons _ _ => exact Nat.succ_pos _
        generalize hM : (r * (if (!gs.isEmpty) = true then 1 else 0)).toNat = many at hmany hpos ⊢
        refine for_range (lo := 0) (n := many) (fun m σ HA => ∃ (b9 b10 : Option V) (zs : List Str), σ = [some (.ref sA), some (.ref d), some (.int (0 + (i : Int))), some (.ref L), some (.ref GA), none, none, some (.int (0 + (j : Int))), some (.ref q), b9, b10, b11, b12] ∧ Deal HA d l ∧ Lns d l HA GA 110 0 8 gs ∧ Lns d l HA q (nB m) (kB m) 8 zs ∧ zs.length = gs.length) ⟨_, _, gs, rfl, D9, LG9, LQ9, rfl⟩ ?_ ?_
        · rintro m σ HA hm ⟨c9, c10, zs, rfl, DA, LGA, LZ, hzl⟩
          have hp0 := hpos m hm
          refine ⟨_, rfl, _, rfl, q, _, rfl, .inl (SqL.of LZ.at_), d, l, _, rfl, DA, by rw [List.length_map]; omega, by rw [List.length_map]; have := LZ.len; omega, fun at_ HB at0 at1 DB kpB => ?_⟩
          rw [List.length_map] at at1
          have LZB := LZ.kept kpB
          have LGB := LGA.kept kpB
          dsimp only [List.set_cons_succ, List.set_cons_zero]
          obtain ⟨z, hz, ez⟩ := get_mem (zs := zs) at0 at1
          have hb := nB_le (j := m) (by omega)
          refine ⟨_, rfl, _, rfl, _, rfl, q, _, _, _, rfl, rfl, SqL.of LZB.at_, ez, d, l, z, nB m, kB m, rfl, DB, LZB.ok z hz, by omega, fun u HC DC kpC hu1 => ?_⟩
          have LZC := LZB.kept kpC
          obtain ⟨jj, rfl⟩ : ∃ jj : Nat, at_ = (jj : Int) := ⟨at_.toNat, by omega⟩
          refine ⟨_, rfl, _, rfl, q, _, _, jj, rfl, rfl, LZC.at_, ?_, ?_⟩
          · unfold ixN
            rw [if_pos (by omega), if_pos (by rw [List.length_map]; omega)]
            rfl
          · have e1 : (zs.map V.str).set jj (.str u) = (zs.set jj u).map V.str := by rw [List.map_set]
            rw [e1]
            refine ⟨_, _, zs.set jj u, rfl, DC.other LZC.nd LZC.nl, ?_, ⟨upd_same, LZC.nd, LZC.nl, by rw [List.length_set]; exact LZC.len, fun y hy => ?_⟩, by rw [List.length_set]; exact hzl⟩
            · have g := LGB.kept kpC
              exact ⟨by rw [upd_ne (Ne.symm nqG)]; exact g.at_, g.nd, g.nl, g.len, g.ok⟩
            · rcases List.mem_or_eq_of_mem_set hy with hy | rfl
              · exact (LZC.ok y hy).mono (by show nB m ≤ 2 * nB m + 30; omega) (by show kB m ≤ 2 * kB m + 1; omega)
              · exact hu1
        rintro σ HA ⟨c9, c10, zs, rfl, DA, LGA, LZ0, hzl⟩
        have hb := nB_le hmany
        have LZ : Lns d l HA q 1090 7 8 zs := ⟨LZ0.at_, LZ0.nd, LZ0.nl, LZ0.len, fun z hz => (LZ0.ok z hz).mono hb.1 hb.2⟩
        clear LZ0
        -- how the lines are changed
        dsimp only
        refine seq_by (fun σ HB => ∃ fo : Int, σ = [some (.ref sA), some (.ref d), some (.int (0 + (i : Int))), some (.ref L), some (.ref GA), none, none, some (.int (0 + (j : Int))), some (.ref q), c9, c10, some (.int fo), b12] ∧ Deal HB d l ∧ Lns d l HB GA 110 0 8 gs ∧ Lns d l HB q 1090 7 8 zs ∧ (fo < 3 → 0 < zs.length)) (fun D' hD' => ?_) ?_
        · refine ⟨_, rfl, by show 0 ≤ sizeLine; decide, fun e he => ?_⟩
          have sB := new_same (o := .lst []) he
          have LZB := LZ.same sB
          have LGB := LGA.same sB
          have DB := DA.same sB
          refine ⟨.list (zs.map .str), .list [], .lst (SqL.of LZB.at_) (txs_dp _), .lst (SqL.of upd_same) .nil, txs_shape LZB.strs, rfl, ?_⟩
          rw [txs_nil]
          generalize upd HA e (.lst []) = HB at LZB LGB DB ⊢
          refine ⟨_, rfl, ?_⟩
          cases hz : zs with
          | nil =>
            refine iteF ?_
            exact hD' _ _ ⟨7, rfl, DB, LGB, LZB, fun h => by omega⟩
          | cons z0 zr =>
            refine iteT ?_
            refine ⟨_, rfl, d, l, _, rfl, DB, by decide, by decide, fun fo HC fo0 fo1 DC kpC => ?_⟩
            exact hD' _ _ ⟨fo, rfl, DC, LGB.kept kpC, LZB.kept kpC, fun _ => by rw [hz]; exact Nat.succ_pos _⟩
        rintro σ HB ⟨fo, rfl, DB, LGB, LZB, hfo⟩
        refine seq_by (fun σ HC => ∃ a_ : Int, σ = [some (.ref sA), some (.ref d), some (.int (0 + (i : Int))), some (.ref L), some (.ref GA), none, none, some (.int (0 + (j : Int))), some (.ref q), c9, some (.int a_), some (.int fo), b12] ∧ Deal HC d l ∧ Lns d l HC GA 110 0 8 gs ∧ Lns d l HC q 1090 7 8 zs ∧ (fo < 3 → 0 ≤ a_ ∧ a_ < zs.length)) (fun D' hD' => ?_) ?_
        · refine ⟨_, rfl, _, _, rfl, rfl, _, rfl, ?_⟩
          refine ite2 (fun h => ?_) (fun h => ?_)
          · have h3 := hfo (of_decide_eq_true h)
            refine ⟨_, rfl, _, rfl, q, _, rfl, .inl (SqL.of LZB.at_), d, l, _, rfl, DB, by rw [List.length_map]; omega, by rw [List.length_map]; have := LZB.len; omega, fun a_ HC a0 a1 DC kpC => ?_⟩
            rw [List.length_map] at a1
            exact hD' _ _ ⟨a_, rfl, DC, LGB.kept kpC, LZB.kept kpC, fun _ => ⟨a0, a1⟩⟩
          · exact hD' _ _ ⟨0, rfl, DB, LGB, LZB, fun h' => absurd (decide_eq_true h') h⟩
        rintro σ HC ⟨a_, rfl, DC, LGC, LZC, ha⟩
        refine seq_by (fun σ HD => ∃ (q2 : Addr) (ys : List Str), σ = [some (.ref sA), some (.ref d), some (.int (0 + (i : Int))), some (.ref L), some (.ref GA), none, none, some (.int (0 + (j : Int))), some (.ref q2), c9, some (.int a_), some (.int fo), b12] ∧ Deal HD d l ∧ Lns d l HD GA 110 0 8 gs ∧ HD q2 = some (.lst (ys.map V.str)) ∧ ys.length ≤ 20 ∧ ∀ y ∈ ys, TOk 1090 7 (tl y)) (fun D' hD' => ?_) ?_
        · have size : ∀ {x : Nat}, x ≤ 20000 → x ≤ sizeLine := fun h => Nat.le_trans h (by decide +kernel)
          have hzl8 := LZC.len
          have fin : ∀ (HD : Hp) (q2 : Addr) (ys : List Str), Deal HD d l → Kept d l HC HD → HD q2 = some (.lst (ys.map V.str)) → ys.length ≤ 20 → (∀ y ∈ ys, TOk 1090 7 (tl y)) → D'.nx [some (.ref sA), some (.ref d), some (.int (0 + (i : Int))), some (.ref L), some (.ref GA), none, none, some (.int (0 + (j : Int))), some (.ref q2), c9, some (.int a_), some (.int fo), b12] HD := fun HD q2 ys DD kp h2 hl ho => hD' _ _ ⟨q2, ys, rfl, DD, LGC.kept kp, h2, hl, ho⟩
          -- two pieces with something between
          have three : ∀ (HD : Hp) (DD : Deal HD d l) (kpD : Kept d l HC HD) (q1 q3 : Addr) (xs us : List Str), xs.length ≤ 8 → (∀ x ∈ xs, TOk 1090 7 (tl x)) → us.length ≤ 3 → (∀ x ∈ us, TOk 1090 7 (tl x)) → HD q1 = some (.lst (xs.map V.str)) → HD q3 = some (.lst (us.map V.str)) → ∀ (R : VK), (∀ (q5 : Addr) (HE : Hp) (ys : List Str), Deal HE d l → Kept d l HC HE → HE q5 = some (.lst (ys.map V.str)) → ys.length ≤ 20 → (∀ y ∈ ys, TOk 1090 7 (tl y)) → R (.ref q5) HE) →
              rCat (.ref q1) (.ref q3) HD fun v HE => ∃ a ws, V.ref q = .ref a ∧ SqL K HE a ws ∧ ∀ q4, HE q4 = none → rCat v (.ref q4) (upd HE q4 (.lst (cutV ws (some a_) none))) R := by
            intro HD DD kpD q1 q3 xs us hxl hxo hul huo h1 h3 R kR
            have hZ := LZC.kept kpD
            refine ⟨q1, q3, _, _, rfl, rfl, h1, h3, size (by rw [List.length_map, List.length_map]; omega), fun q6 hq6 => ?_⟩
            have t1 := new_same (o := .lst (xs.map V.str ++ us.map V.str)) hq6
            have u1 : upd HD q6 (.lst (xs.map V.str ++ us.map V.str)) q6 = some (.lst ((xs ++ us).map V.str)) := by rw [upd_same, List.map_append]
            generalize upd HD q6 (.lst (xs.map V.str ++ us.map V.str)) = G1 at t1 u1 ⊢
            refine ⟨q, zs.map V.str, rfl, SqL.of (t1 _ _ hZ.at_), fun q4 hq4 => ?_⟩
            obtain ⟨vs, ev, hvl, hvo⟩ := cut_mem zs (some a_) none
            rw [ev]
            have t2 := new_same (o := .lst (vs.map V.str)) hq4
            have u2 : upd G1 q4 (.lst (vs.map V.str)) q4 = some (.lst (vs.map V.str)) := upd_same
            have u1' := t2 _ _ u1
            generalize upd G1 q4 (.lst (vs.map V.str)) = G2 at t2 u2 u1' ⊢
            refine ⟨q6, q4, _, _, rfl, rfl, u1', u2, size (by rw [List.length_map, List.length_map, List.length_append]; omega), fun q5 hq5 => ?_⟩
            have t3 := (t1.trans t2).trans (new_same (o := .lst ((xs ++ us).map V.str ++ vs.map V.str)) hq5)
            refine kR q5 _ ((xs ++ us) ++ vs) (DD.same t3) (kpD.trans (Kept.of t3)) (by rw [upd_same, ← List.map_append]) (by rw [List.length_append, List.length_append]; omega) (fun y hy => ?_)
            rcases List.mem_append.mp hy with hy | hy
            · rcases List.mem_append.mp hy with hy | hy
              · exact hxo y hy
              · exact huo y hy
            · exact LZC.ok y (hvo y hy)
          refine ⟨_, rfl, rfl, _, rfl, ?_⟩
          refine ite2 (fun _ => ?_) (fun _ => ?_)
          · refine ⟨_, rfl, _, rfl, _, rfl, q, _, rfl, SqL.of LZC.at_, fun q1 hq1 => ?_⟩
            obtain ⟨xs, ex, hxl, hxo⟩ := cut_mem zs none (some a_)
            rw [ex]
            have t1 := new_same (o := .lst (xs.map V.str)) hq1
            have u1 : upd HC q1 (.lst (xs.map V.str)) q1 = some (.lst (xs.map V.str)) := upd_same
            generalize upd HC q1 (.lst (xs.map V.str)) = G1 at t1 u1 ⊢
            refine ⟨_, rfl, _, rfl, _, _, rfl, rfl, _, rfl, q, _, rfl, SqL.of (t1 _ _ LZC.at_), fun q2 hq2 => ?_⟩
            obtain ⟨vs, ev, hvl, hvo⟩ := cut_mem zs (some (a_ + 1)) none
            rw [ev]
            have t2 := new_same (o := .lst (vs.map V.str)) hq2
            have u2 : upd G1 q2 (.lst (vs.map V.str)) q2 = some (.lst (vs.map V.str)) := upd_same
            have u1' := t2 _ _ u1
            generalize upd G1 q2 (.lst (vs.map V.str)) = G2 at t2 u2 u1' ⊢
            refine ⟨q1, q2, _, _, rfl, rfl, u1', u2, size (by rw [List.length_map, List.length_map]; omega), fun q3 hq3 => ?_⟩
            have t3 := (t1.trans t2).trans (new_same (o := .lst (xs.map V.str ++ vs.map V.str)) hq3)
            refine fin _ q3 (xs ++ vs) (DC.same t3) (Kept.of t3) (by rw [upd_same, List.map_append]) (by rw [List.length_append]; omega) (fun y hy => ?_)
            rcases List.mem_append.mp hy with hy | hy
            · exact LZC.ok y (hxo y hy)
            · exact LZC.ok y (hvo y hy)
          refine ⟨_, rfl, rfl, _, rfl, ?_⟩
          refine ite2 (fun hf => ?_) (fun _ => ?_)
          · have hf : fo = 1 := V.int.inj (of_decide_eq_true hf)
            obtain ⟨a0, a1⟩ := ha (by omega)
            refine ⟨_, rfl, _, rfl, _, rfl, q, _, rfl, SqL.of LZC.at_, fun q1 hq1 => ?_⟩
            obtain ⟨xs, ex, hxl, hxo⟩ := cut_mem zs none (some a_)
            rw [ex]
            have t1 := new_same (o := .lst (xs.map V.str)) hq1
            have u1 : upd HC q1 (.lst (xs.map V.str)) q1 = some (.lst (xs.map V.str)) := upd_same
            generalize upd HC q1 (.lst (xs.map V.str)) = G1 at t1 u1 ⊢
            obtain ⟨z, hz, ez⟩ := get_mem (zs := zs) a0 a1
            refine ⟨_, rfl, _, rfl, q, _, _, _, rfl, rfl, SqL.of (t1 _ _ LZC.at_), ez, by show 1 ≤ sizeLine; decide, fun q2 hq2 => ?_⟩
            have t2 := new_same (o := .lst [V.str z]) hq2
            have u2 : upd G1 q2 (.lst [V.str z]) q2 = some (.lst (([z] : List Str).map V.str)) := upd_same
            have u1' := t2 _ _ u1
            generalize upd G1 q2 (.lst [V.str z]) = G2 at t2 u2 u1' ⊢
            have t12 := t1.trans t2
            obtain ⟨a, b, ps, rs', e1, e2, h1, h2, hl, kk⟩ := three G2 (DC.same t12) (Kept.of t12) q1 q2 xs [z] (by omega) (fun x hx => LZC.ok x (hxo x hx)) (by show 1 ≤ 3; decide) (fun x hx => by rw [List.mem_singleton.mp hx]; exact LZC.ok z hz) u1' u2 (fun v HE => ∃ q5, v = .ref q5 ∧ D'.nx [some (.ref sA), some (.ref d), some (.int (0 + (i : Int))), some (.ref L), some (.ref GA), none, none, some (.int (0 + (j : Int))), some v, c9, some (.int a_), some (.int fo), b12] HE) (fun q5 HE ys DE kpE h5 hl5 ho5 => ⟨q5, rfl, fin HE q5 ys DE kpE h5 hl5 ho5⟩)
            refine ⟨a, b, ps, rs', e1, e2, h1, h2, hl, fun q6 hq6 => ?_⟩
            obtain ⟨a', ws, e3, h3, k4⟩ := kk q6 hq6
            obtain rfl := V.ref.inj e3
            refine ⟨_, rfl, _, rfl, _, rfl, q, ws, rfl, h3, fun q4 hq4 => ?_⟩
            obtain ⟨a2', b2', ps2, rs2, e4, e5, h4', h5', hl', kk2⟩ := k4 q4 hq4
            refine ⟨a2', b2', ps2, rs2, e4, e5, h4', h5', hl', fun q7 hq7 => ?_⟩
            obtain ⟨q5, e6, k6⟩ := kk2 q7 hq7
            exact k6
          refine ⟨_, rfl, rfl, _, rfl, ?_⟩
          refine ite2 (fun hf => ?_) (fun _ => ?_)
          · refine ⟨_, rfl, _, rfl, _, rfl, q, _, rfl, SqL.of LZC.at_, fun q1 hq1 => ?_⟩
            obtain ⟨xs, ex, hxl, hxo⟩ := cut_mem zs none (some a_)
            rw [ex]
            have t1 := new_same (o := .lst (xs.map V.str)) hq1
            have u1 : upd HC q1 (.lst (xs.map V.str)) q1 = some (.lst (xs.map V.str)) := upd_same
            have D1 := DC.same t1
            obtain ⟨n1d, n1l⟩ := DC.free hq1
            generalize upd HC q1 (.lst (xs.map V.str)) = G1 at t1 u1 D1 ⊢
            refine ⟨by show 3 ≤ sizeLine; decide, fun q8 hq8 => ?_⟩
            have t8 := new_same (o := .lst [V.str "", V.str "wait", V.str "-"]) hq8
            have u8 : upd G1 q8 (.lst [V.str "", V.str "wait", V.str "-"]) q8 = some (.lst ((["", "wait", "-"] : List Str).map V.str)) := upd_same
            obtain ⟨n8d, n8l⟩ := D1.free hq8
            have D8' := D1.same t8
            have u1' := t8 _ _ u1
            have t18 := t1.trans t8
            generalize upd G1 q8 (.lst [V.str "", V.str "wait", V.str "-"]) = G2 at t8 u8 D8' u1' t18 ⊢
            refine ⟨_, rfl, d, l, _, rfl, D8', by decide, by decide, fun o G3 o0 o1 D9' kp9 => ?_⟩
            have u8' := kp9 _ _ u8 n8d n8l
            have u1'' := kp9 _ _ u1' n1d n1l
            refine ⟨_, rfl, q8, _, rfl, SqL.of u8', fun q9 hq9 => ?_⟩
            obtain ⟨cs, ec, hcl, hco⟩ := cut_mem ["", "wait", "-"] (some o) none
            rw [ec]
            have t9 := new_same (o := .lst (cs.map V.str)) hq9
            have u9 : upd G3 q9 (.lst (cs.map V.str)) q9 = some (.lst (cs.map V.str)) := upd_same
            generalize upd G3 q9 (.lst (cs.map V.str)) = G4 at t9 u9 ⊢
            refine ⟨_, rfl, q9, _, rfl, SqL.of u9, fun q2 hq2 => ?_⟩
            obtain ⟨us, eu, hul, huo⟩ := cut_mem cs none (some 1)
            rw [eu]
            have t2 := new_same (o := .lst (us.map V.str)) hq2
            have u2 : upd G4 q2 (.lst (us.map V.str)) q2 = some (.lst (us.map V.str)) := upd_same
            have t92 := t9.trans t2
            have uu1 := t92 _ _ u1''
            generalize upd G4 q2 (.lst (us.map V.str)) = G5 at t2 u2 t92 uu1 ⊢
            have hcl : cs.length ≤ 3 := hcl
            obtain ⟨a, b, ps, rs', e1, e2, h1, h2, hl, kk⟩ := three G5 (D9'.same t92) (((Kept.of t18).trans kp9).trans (Kept.of t92)) q1 q2 xs us (by omega) (fun x hx => LZC.ok x (hxo x hx)) (by omega) (fun x hx => wait_ok x (hco x (huo x hx))) uu1 u2 (fun v HE => ∃ q5, v = .ref q5 ∧ D'.nx [some (.ref sA), some (.ref d), some (.int (0 + (i : Int))), some (.ref L), some (.ref GA), none, none, some (.int (0 + (j : Int))), some v, c9, some (.int a_), some (.int fo), b12] HE) (fun q5 HE ys DE kpE h5 hl5 ho5 => ⟨q5, rfl, fin HE q5 ys DE kpE h5 hl5 ho5⟩)
            refine ⟨a, b, ps, rs', e1, e2, h1, h2, hl, fun q6 hq6 => ?_⟩
            obtain ⟨a', ws, e3, h3, k4⟩ := kk q6 hq6
            obtain rfl := V.ref.inj e3
            refine ⟨_, rfl, _, rfl, _, rfl, q, ws, rfl, h3, fun q4 hq4 => ?_⟩
            obtain ⟨a2', b2', ps2, rs2, e4, e5, h4', h5', hl', kk2⟩ := k4 q4 hq4
            refine ⟨a2', b2', ps2, rs2, e4, e5, h4', h5', hl', fun q7 hq7 => ?_⟩
            obtain ⟨q5, e6, k6⟩ := kk2 q7 hq7
            exact k6
          · exact fin HC q zs DC Kept.refl LZC.at_ (by omega) LZC.ok
        rintro σ HD ⟨q2, ys, rfl, DD, LGD, h2, hyl, hyo⟩
        -- the text
        refine ⟨⟨_, rfl⟩, _, rfl, _, q2, ys, rfl, rfl, .inl (SqL.of h2), sum_join hyl hyo, ?_⟩
        have hB := txb_join hyl hyo
        generalize Txt.join "\n" ys = t at hB ⊢
        dsimp only [List.set_cons_succ, List.set_cons_zero]
        have ook := out_ok hB
        refine ⟨_, rfl, t, rfl, hB, fun v1 HE sE ho1 => ?_⟩
        dsimp only [tNil]
        refine ot_repr ho1 ook ?_
        refine ⟨_, rfl, t, rfl, hB, fun v2 HF sF ho2 => ?_⟩
        dsimp only [tNil]
        refine ot_repr ho2 ook ?_
        refine ⟨rfl, _, rfl, ?_⟩
        refine iteNS rfl ?_
        exact ⟨_, _, _, _, _, _, rfl, (DD.same sE).same sF, (LGD.same sE).same sF⟩
      · rintro σ H6 ⟨b7, b8, b9, b10, b11, b12, rfl, D6, LG6⟩
        exact ⟨_, _, _, _, _, _, _, _, _, rfl, D6⟩
    · rintro σ H2 ⟨a2, a3, a4, a7, a8, a9, a10, a11, a12, rfl, D2⟩
      refine ⟨by show 7 ≤ sizeLine; decide, fun U hU => ?_⟩
      have vU : upd H2 U (.tup [V.str "\n", V.str " ", V.str "left 0 0\n", V.str "\nleft 0 0", V.str "add 9 9 9\nleft", V.str "skip 0 1 0 1", V.str "skip 0 3 0 9\nset 0 -0"]) U = some (.tup (last7.map V.str)) := upd_same
      generalize upd H2 U (.tup [V.str "\n", V.str " ", V.str "left 0 0\n", V.str "\nleft 0 0", V.str "add 9 9 9\nleft", V.str "skip 0 1 0 1", V.str "skip 0 3 0 9\nset 0 -0"]) = H3 at vU ⊢
      refine ⟨U, rfl, ⟨_, SqT.of vU⟩, ?_⟩
      refine for_it walk_tup (fun m σ H4 => ∃ b12 : Option V, σ = [some (.ref sA), some (.ref d), a2, a3, a4, none, none, a7, a8, a9, a10, a11, b12] ∧ Same H3 H4) ⟨_, rfl, Same.refl _⟩ (fun m σ H4 _ ⟨_, _, sm⟩ => SqT.of (sm _ _ vU)) ?_ ?_
      · rintro m x σ H4 H5 hm ⟨b12, rfl, sm⟩ ⟨rfl, hx⟩
        obtain ⟨t, ht, rfl⟩ : ∃ t, t ∈ last7 ∧ x = .str t := by
          obtain ⟨t, ht, e⟩ := List.mem_map.mp (List.mem_of_getElem? hx)
          exact ⟨t, ht, e.symm⟩
        have hB := last_ok t ht
        have ook := out_ok hB
        dsimp only [List.set_cons_succ, List.set_cons_zero]
        refine ⟨_, rfl, t, rfl, hB, fun v1 HE sE ho1 => ?_⟩
        dsimp only [tNil]
        refine ot_repr ho1 ook ?_
        refine ⟨_, rfl, t, rfl, hB, fun v2 HF sF ho2 => ?_⟩
        dsimp only [tNil]
        refine ot_repr ho2 ook ?_
        refine ⟨rfl, _, rfl, ?_⟩
        refine iteNS rfl ?_
        exact ⟨_, rfl, (sm.trans sE).trans sF⟩
      · rintro σ H4 ⟨b12, rfl, sm⟩
        exact k _
end
end My

set_option Elab.async false
set_option linter.all false
set_option maxRecDepth 100000
set_option maxHeartbeats 0
namespace My
open PySem L2 MyR RT
def intsAre : List Value → List Int → Bool
  | [], [] => true
  | .int x _ :: r, y :: s => x == y && intsAre r s
  | _, _ => false
theorem ints_vals : ∀ {us : List Value} {zs : List Int}, intsAre us zs = true → Vals (zs.map V.int) us
  | [], zs, h => by
    cases zs with
    | nil => exact .nil
    | cons z s => cases h
  | v :: r, zs, h => by
    cases v with
    | int x t =>
      cases zs with
      | nil => cases h
      | cons y s =>
        have h' : (x == y && intsAre r s) = true := h
        rw [Bool.and_eq_true] at h'
        obtain rfl := beq_iff_eq.mp h'.1
        exact .cons ⟨t, rfl⟩ (ints_vals h'.2)
    | _ => cases zs <;> cases h
theorem ble_size {n : Nat} (h : Nat.ble n 1000 = true) : n ≤ sizeLine := Nat.le_of_lt (small1000 (Nat.le_of_ble_eq_true h))
theorem kit_own {K : PySem.W.Frag} {C D : Addr} (h1 : PySem.W.isClsIn K D = true) (h2 : PySem.W.typeIn K (.ref D) = some (.type "type")) (h3 : PySem.W.subIn K (.ref C) (.ref D) = some true) : PySem.W.kitOne K (.ref C) (.ref D) = some true := by
  unfold PySem.W.kitOne
  by_cases e : ((Value.ref C) == (Value.ref D)) = true
  · rw [if_pos e]
  · rw [if_neg e]
    have h1' : (PySem.W.clsIn K D).isSome = true := h1
    show (if ((PySem.W.clsIn K D).isSome && PySem.W.typeIn K (.ref D) == some (.type "type")) = true then PySem.W.subIn K (.ref C) (.ref D) else none) = some true
    rw [h1', h2, if_pos (by rfl)]
    exact h3
def keysF (e : DictEntry) : Bool := match e.key with
  | .str s _ => (formOf s).isSome
  | _ => false
theorem miss_of {K : PySem.W.Frag} {a : Addr} {es : Array DictEntry} {n : Nat} {x : Str} (l : K.lookup a = some ⟨.type "dict", none, .dict es n, #[]⟩) (h : es.toList.all keysF = true) (hx : formOf x = none) : PySem.W.nsIn K a x = some none := by
  have hk := List.all_eq_true.mp h
  have h1 : es.toList.find? (·.key.isStr x) = none := by
    rw [List.find?_eq_none]
    intro e he hs
    have := hk e he
    unfold keysF at this
    cases hkey : e.key with
    | str s t =>
      rw [hkey] at this hs
      have es : s = x := beq_iff_eq.mp hs
      subst es
      have this : (formOf s).isSome = true := this
      rw [hx] at this
      cases this
    | _ => rw [hkey] at this; cases this
  have h2 : es.toList.any (·.refKey) = false := by
    rw [List.any_eq_false]
    intro e he hr
    have := hk e he
    unfold keysF at this
    unfold DictEntry.refKey at hr
    cases hkey : e.key with
    | ref r => rw [hkey] at this; cases this
    | _ => rw [hkey] at hr; cases hr
  unfold PySem.W.nsIn
  rw [l]
  dsimp only
  rw [h1, h2]
  rfl
theorem kit_not {K : PySem.W.Frag} {D : Addr} {t : Value} (h1 : PySem.W.isClsIn K D = true) (h2 : PySem.W.typeIn K (.ref D) = some (.type "type")) (h3 : PySem.W.subIn K t (.ref D) = some false) (ne : (t == .ref D) = false) : PySem.W.kitOne K t (.ref D) = some false := by
  unfold PySem.W.kitOne
  rw [if_neg (by rw [ne]; exact Bool.false_ne_true)]
  have h1' : (PySem.W.clsIn K D).isSome = true := h1
  show (if ((PySem.W.clsIn K D).isSome && PySem.W.typeIn K (.ref D) == some (.type "type")) = true then PySem.W.subIn K t (.ref D) else none) = some false
  rw [h1', h2, if_pos (by rfl)]
  exact h3
theorem ref_ne {C D : Addr} (h : (C == D) = false) : (Value.ref C == Value.ref D) = false := Bool.eq_false_iff.mpr fun q => by
  have e : C = D := Value.ref.inj (beq_iff_eq.mp q)
  rw [e, beq_self_eq_true] at h
  cases h
theorem all_mk {P : Program} {w : World} {K : PySem.W.Frag} {h : Heap} {mg : Str → Option Value} {fa : Addr} (X : K.In h) (G : h.Ns mainGlobals mg) (hfa : mg "law" = some (.ref fa))
    {f_is_integer f_is_between f_is_small f_digits_value f_signed_value f_is_item f_is_row f_read_code_row f_law_deal f_law_draw f_law_number f_law_figures f_law_row f_law_far_row f_law_far_rows f_law_read_row f_law_in_bounds f_law_due f_law_told f_law_odd_word f_law_spoilt_row f_law f_Code_init f_InvalidCode_init f_InvalidText_init f_Code_read C_Code C_InvalidCode C_InvalidText C_LowError aM aF pRead : Addr}
    {od_is_integer an_is_integer : Option Addr} {sl_is_integer : Array (Option Value)} {oc_is_integer kV_is_integer dc_is_integer pm_is_integer cd_is_integer ct_is_integer : Value}
    {od_is_between an_is_between : Option Addr} {sl_is_between : Array (Option Value)} {oc_is_between kV_is_between dc_is_between pm_is_between cd_is_between ct_is_between : Value}
    {od_is_small an_is_small : Option Addr} {sl_is_small : Array (Option Value)} {oc_is_small kV_is_small dc_is_small pm_is_small cd_is_small ct_is_small : Value}
    {od_digits_value an_digits_value : Option Addr} {sl_digits_value : Array (Option Value)} {oc_digits_value kV_digits_value dc_digits_value pm_digits_value cd_digits_value ct_digits_value : Value}
    {od_signed_value an_signed_value : Option Addr} {sl_signed_value : Array (Option Value)} {oc_signed_value kV_signed_value dc_signed_value pm_signed_value cd_signed_value ct_signed_value : Value}
    {od_is_item an_is_item : Option Addr} {sl_is_item : Array (Option Value)} {oc_is_item kV_is_item dc_is_item pm_is_item cd_is_item ct_is_item : Value}
    {od_is_row an_is_row : Option Addr} {sl_is_row : Array (Option Value)} {oc_is_row kV_is_row dc_is_row pm_is_row cd_is_row ct_is_row : Value}
    {od_read_code_row an_read_code_row : Option Addr} {sl_read_code_row : Array (Option Value)} {oc_read_code_row kV_read_code_row dc_read_code_row pm_read_code_row cd_read_code_row ct_read_code_row : Value}
    {od_law_deal an_law_deal : Option Addr} {sl_law_deal : Array (Option Value)} {oc_law_deal kV_law_deal dc_law_deal pm_law_deal cd_law_deal ct_law_deal : Value}
    {od_law_draw an_law_draw : Option Addr} {sl_law_draw : Array (Option Value)} {oc_law_draw kV_law_draw dc_law_draw pm_law_draw cd_law_draw ct_law_draw : Value}
    {od_law_number an_law_number : Option Addr} {sl_law_number : Array (Option Value)} {oc_law_number kV_law_number dc_law_number pm_law_number cd_law_number ct_law_number : Value}
    {od_law_figures an_law_figures : Option Addr} {sl_law_figures : Array (Option Value)} {oc_law_figures kV_law_figures dc_law_figures pm_law_figures cd_law_figures ct_law_figures : Value}
    {od_law_row an_law_row : Option Addr} {sl_law_row : Array (Option Value)} {oc_law_row kV_law_row dc_law_row pm_law_row cd_law_row ct_law_row : Value}
    {od_law_far_row an_law_far_row : Option Addr} {sl_law_far_row : Array (Option Value)} {oc_law_far_row kV_law_far_row dc_law_far_row pm_law_far_row cd_law_far_row ct_law_far_row : Value}
    {od_law_far_rows an_law_far_rows : Option Addr} {sl_law_far_rows : Array (Option Value)} {oc_law_far_rows kV_law_far_rows dc_law_far_rows pm_law_far_rows cd_law_far_rows ct_law_far_rows : Value}
    {od_law_read_row an_law_read_row : Option Addr} {sl_law_read_row : Array (Option Value)} {oc_law_read_row kV_law_read_row dc_law_read_row pm_law_read_row cd_law_read_row ct_law_read_row : Value}
    {od_law_in_bounds an_law_in_bounds : Option Addr} {sl_law_in_bounds : Array (Option Value)} {oc_law_in_bounds kV_law_in_bounds dc_law_in_bounds pm_law_in_bounds cd_law_in_bounds ct_law_in_bounds : Value}
    {od_law_due an_law_due : Option Addr} {sl_law_due : Array (Option Value)} {oc_law_due kV_law_due dc_law_due pm_law_due cd_law_due ct_law_due : Value}
    {od_law_told an_law_told : Option Addr} {sl_law_told : Array (Option Value)} {oc_law_told kV_law_told dc_law_told pm_law_told cd_law_told ct_law_told : Value}
    {od_law_odd_word an_law_odd_word : Option Addr} {sl_law_odd_word : Array (Option Value)} {oc_law_odd_word kV_law_odd_word dc_law_odd_word pm_law_odd_word cd_law_odd_word ct_law_odd_word : Value}
    {od_law_spoilt_row an_law_spoilt_row : Option Addr} {sl_law_spoilt_row : Array (Option Value)} {oc_law_spoilt_row kV_law_spoilt_row dc_law_spoilt_row pm_law_spoilt_row cd_law_spoilt_row ct_law_spoilt_row : Value}
    {od_law an_law : Option Addr} {sl_law : Array (Option Value)} {oc_law kV_law dc_law pm_law cd_law ct_law : Value}
    {od_Code_init an_Code_init : Option Addr} {sl_Code_init : Array (Option Value)} {oc_Code_init kV_Code_init dc_Code_init pm_Code_init cd_Code_init ct_Code_init : Value}
    {od_InvalidCode_init an_InvalidCode_init : Option Addr} {sl_InvalidCode_init : Array (Option Value)} {oc_InvalidCode_init kV_InvalidCode_init dc_InvalidCode_init pm_InvalidCode_init cd_InvalidCode_init ct_InvalidCode_init : Value}
    {od_InvalidText_init an_InvalidText_init : Option Addr} {sl_InvalidText_init : Array (Option Value)} {oc_InvalidText_init kV_InvalidText_init dc_InvalidText_init pm_InvalidText_init cd_InvalidText_init ct_InvalidText_init : Value}
    {rest_read : List Value}
    {od_Code_read an_Code_read : Option Addr} {sl_Code_read : Array (Option Value)} {oc_Code_read kV_Code_read dc_Code_read pm_Code_read cd_Code_read ct_Code_read : Value}
    {nmI qI : Str} {NI : Addr} {bsI : List Value} {snI : List Str} {subI : List Value} {abI : Bool} {colI : Option Bool} {ddI : Option Addr} {m0I m1I m2I m3I m5I : Option Value}
    {nmT qT : Str} {NT : Addr} {bsT : List Value} {snT : List Str} {subT : List Value} {abT : Bool} {colT : Option Bool} {ddT : Option Addr} {m0T m1T m2T m3T m5T : Option Value}
    {t1 t2 t3 t4 t5 : Tok}
    {odM : Option Addr} {itsM : Array Value} {nM : Nat} {slM : Array (Option Value)} {esF : Array DictEntry} {nF : Nat}
    {tf_set tf_copy tf_add tf_sub tf_mul tf_left tf_right tf_load tf_store tf_skip : Tok}
    (a_is_integer : PySem.W.nsIn K mainGlobals "is_integer" = some (some (.ref f_is_integer)))
    (l_is_integer : K.lookup f_is_integer = some ⟨oc_is_integer, od_is_integer, .func (PySem.W.fnOf "is_integer" "is_integer" (defArgs s_is_integer) (defBody s_is_integer) (defScope s_is_integer) .none kV_is_integer dc_is_integer pm_is_integer an_is_integer cd_is_integer ct_is_integer), sl_is_integer⟩)
    (c_is_integer : PySem.W.codeIn K cd_is_integer "is_integer" = true)
    (k_is_integer : PySem.W.keepIn K (.ref f_is_integer) = true)
    (a_is_between : PySem.W.nsIn K mainGlobals "is_between" = some (some (.ref f_is_between)))
    (l_is_between : K.lookup f_is_between = some ⟨oc_is_between, od_is_between, .func (PySem.W.fnOf "is_between" "is_between" (defArgs s_is_between) (defBody s_is_between) (defScope s_is_between) .none kV_is_between dc_is_between pm_is_between an_is_between cd_is_between ct_is_between), sl_is_between⟩)
    (c_is_between : PySem.W.codeIn K cd_is_between "is_between" = true)
    (k_is_between : PySem.W.keepIn K (.ref f_is_between) = true)
    (a_is_small : PySem.W.nsIn K mainGlobals "is_small" = some (some (.ref f_is_small)))
    (l_is_small : K.lookup f_is_small = some ⟨oc_is_small, od_is_small, .func (PySem.W.fnOf "is_small" "is_small" (defArgs s_is_small) (defBody s_is_small) (defScope s_is_small) .none kV_is_small dc_is_small pm_is_small an_is_small cd_is_small ct_is_small), sl_is_small⟩)
    (c_is_small : PySem.W.codeIn K cd_is_small "is_small" = true)
    (k_is_small : PySem.W.keepIn K (.ref f_is_small) = true)
    (a_digits_value : PySem.W.nsIn K mainGlobals "digits_value" = some (some (.ref f_digits_value)))
    (l_digits_value : K.lookup f_digits_value = some ⟨oc_digits_value, od_digits_value, .func (PySem.W.fnOf "digits_value" "digits_value" (defArgs s_digits_value) (defBody s_digits_value) (defScope s_digits_value) .none kV_digits_value dc_digits_value pm_digits_value an_digits_value cd_digits_value ct_digits_value), sl_digits_value⟩)
    (c_digits_value : PySem.W.codeIn K cd_digits_value "digits_value" = true)
    (k_digits_value : PySem.W.keepIn K (.ref f_digits_value) = true)
    (a_signed_value : PySem.W.nsIn K mainGlobals "signed_value" = some (some (.ref f_signed_value)))
    (l_signed_value : K.lookup f_signed_value = some ⟨oc_signed_value, od_signed_value, .func (PySem.W.fnOf "signed_value" "signed_value" (defArgs s_signed_value) (defBody s_signed_value) (defScope s_signed_value) .none kV_signed_value dc_signed_value pm_signed_value an_signed_value cd_signed_value ct_signed_value), sl_signed_value⟩)
    (c_signed_value : PySem.W.codeIn K cd_signed_value "signed_value" = true)
    (k_signed_value : PySem.W.keepIn K (.ref f_signed_value) = true)
    (a_is_item : PySem.W.nsIn K mainGlobals "is_item" = some (some (.ref f_is_item)))
    (l_is_item : K.lookup f_is_item = some ⟨oc_is_item, od_is_item, .func (PySem.W.fnOf "is_item" "is_item" (defArgs s_is_item) (defBody s_is_item) (defScope s_is_item) .none kV_is_item dc_is_item pm_is_item an_is_item cd_is_item ct_is_item), sl_is_item⟩)
    (c_is_item : PySem.W.codeIn K cd_is_item "is_item" = true)
    (k_is_item : PySem.W.keepIn K (.ref f_is_item) = true)
    (a_is_row : PySem.W.nsIn K mainGlobals "is_row" = some (some (.ref f_is_row)))
    (l_is_row : K.lookup f_is_row = some ⟨oc_is_row, od_is_row, .func (PySem.W.fnOf "is_row" "is_row" (defArgs s_is_row) (defBody s_is_row) (defScope s_is_row) .none kV_is_row dc_is_row pm_is_row an_is_row cd_is_row ct_is_row), sl_is_row⟩)
    (c_is_row : PySem.W.codeIn K cd_is_row "is_row" = true)
    (k_is_row : PySem.W.keepIn K (.ref f_is_row) = true)
    (a_read_code_row : PySem.W.nsIn K mainGlobals "read_code_row" = some (some (.ref f_read_code_row)))
    (l_read_code_row : K.lookup f_read_code_row = some ⟨oc_read_code_row, od_read_code_row, .func (PySem.W.fnOf "read_code_row" "read_code_row" (defArgs s_read_code_row) (defBody s_read_code_row) (defScope s_read_code_row) .none kV_read_code_row dc_read_code_row pm_read_code_row an_read_code_row cd_read_code_row ct_read_code_row), sl_read_code_row⟩)
    (c_read_code_row : PySem.W.codeIn K cd_read_code_row "read_code_row" = true)
    (k_read_code_row : PySem.W.keepIn K (.ref f_read_code_row) = true)
    (a_law_deal : PySem.W.nsIn K mainGlobals "_law_deal" = some (some (.ref f_law_deal)))
    (l_law_deal : K.lookup f_law_deal = some ⟨oc_law_deal, od_law_deal, .func (PySem.W.fnOf "_law_deal" "_law_deal" (defArgs s_law_deal) (defBody s_law_deal) (defScope s_law_deal) .none kV_law_deal dc_law_deal pm_law_deal an_law_deal cd_law_deal ct_law_deal), sl_law_deal⟩)
    (c_law_deal : PySem.W.codeIn K cd_law_deal "_law_deal" = true)
    (k_law_deal : PySem.W.keepIn K (.ref f_law_deal) = true)
    (a_law_draw : PySem.W.nsIn K mainGlobals "_law_draw" = some (some (.ref f_law_draw)))
    (l_law_draw : K.lookup f_law_draw = some ⟨oc_law_draw, od_law_draw, .func (PySem.W.fnOf "_law_draw" "_law_draw" (defArgs s_law_draw) (defBody s_law_draw) (defScope s_law_draw) .none kV_law_draw dc_law_draw pm_law_draw an_law_draw cd_law_draw ct_law_draw), sl_law_draw⟩)
    (c_law_draw : PySem.W.codeIn K cd_law_draw "_law_draw" = true)
    (k_law_draw : PySem.W.keepIn K (.ref f_law_draw) = true)
    (a_law_number : PySem.W.nsIn K mainGlobals "_law_number" = some (some (.ref f_law_number)))
    (l_law_number : K.lookup f_law_number = some ⟨oc_law_number, od_law_number, .func (PySem.W.fnOf "_law_number" "_law_number" (defArgs s_law_number) (defBody s_law_number) (defScope s_law_number) .none kV_law_number dc_law_number pm_law_number an_law_number cd_law_number ct_law_number), sl_law_number⟩)
    (c_law_number : PySem.W.codeIn K cd_law_number "_law_number" = true)
    (k_law_number : PySem.W.keepIn K (.ref f_law_number) = true)
    (a_law_figures : PySem.W.nsIn K mainGlobals "_law_figures" = some (some (.ref f_law_figures)))
    (l_law_figures : K.lookup f_law_figures = some ⟨oc_law_figures, od_law_figures, .func (PySem.W.fnOf "_law_figures" "_law_figures" (defArgs s_law_figures) (defBody s_law_figures) (defScope s_law_figures) .none kV_law_figures dc_law_figures pm_law_figures an_law_figures cd_law_figures ct_law_figures), sl_law_figures⟩)
    (c_law_figures : PySem.W.codeIn K cd_law_figures "_law_figures" = true)
    (k_law_figures : PySem.W.keepIn K (.ref f_law_figures) = true)
    (a_law_row : PySem.W.nsIn K mainGlobals "_law_row" = some (some (.ref f_law_row)))
    (l_law_row : K.lookup f_law_row = some ⟨oc_law_row, od_law_row, .func (PySem.W.fnOf "_law_row" "_law_row" (defArgs s_law_row) (defBody s_law_row) (defScope s_law_row) .none kV_law_row dc_law_row pm_law_row an_law_row cd_law_row ct_law_row), sl_law_row⟩)
    (c_law_row : PySem.W.codeIn K cd_law_row "_law_row" = true)
    (k_law_row : PySem.W.keepIn K (.ref f_law_row) = true)
    (a_law_far_row : PySem.W.nsIn K mainGlobals "_law_far_row" = some (some (.ref f_law_far_row)))
    (l_law_far_row : K.lookup f_law_far_row = some ⟨oc_law_far_row, od_law_far_row, .func (PySem.W.fnOf "_law_far_row" "_law_far_row" (defArgs s_law_far_row) (defBody s_law_far_row) (defScope s_law_far_row) .none kV_law_far_row dc_law_far_row pm_law_far_row an_law_far_row cd_law_far_row ct_law_far_row), sl_law_far_row⟩)
    (c_law_far_row : PySem.W.codeIn K cd_law_far_row "_law_far_row" = true)
    (k_law_far_row : PySem.W.keepIn K (.ref f_law_far_row) = true)
    (a_law_far_rows : PySem.W.nsIn K mainGlobals "_law_far_rows" = some (some (.ref f_law_far_rows)))
    (l_law_far_rows : K.lookup f_law_far_rows = some ⟨oc_law_far_rows, od_law_far_rows, .func (PySem.W.fnOf "_law_far_rows" "_law_far_rows" (defArgs s_law_far_rows) (defBody s_law_far_rows) (defScope s_law_far_rows) .none kV_law_far_rows dc_law_far_rows pm_law_far_rows an_law_far_rows cd_law_far_rows ct_law_far_rows), sl_law_far_rows⟩)
    (c_law_far_rows : PySem.W.codeIn K cd_law_far_rows "_law_far_rows" = true)
    (k_law_far_rows : PySem.W.keepIn K (.ref f_law_far_rows) = true)
    (a_law_read_row : PySem.W.nsIn K mainGlobals "_law_read_row" = some (some (.ref f_law_read_row)))
    (l_law_read_row : K.lookup f_law_read_row = some ⟨oc_law_read_row, od_law_read_row, .func (PySem.W.fnOf "_law_read_row" "_law_read_row" (defArgs s_law_read_row) (defBody s_law_read_row) (defScope s_law_read_row) .none kV_law_read_row dc_law_read_row pm_law_read_row an_law_read_row cd_law_read_row ct_law_read_row), sl_law_read_row⟩)
    (c_law_read_row : PySem.W.codeIn K cd_law_read_row "_law_read_row" = true)
    (k_law_read_row : PySem.W.keepIn K (.ref f_law_read_row) = true)
    (a_law_in_bounds : PySem.W.nsIn K mainGlobals "_law_in_bounds" = some (some (.ref f_law_in_bounds)))
    (l_law_in_bounds : K.lookup f_law_in_bounds = some ⟨oc_law_in_bounds, od_law_in_bounds, .func (PySem.W.fnOf "_law_in_bounds" "_law_in_bounds" (defArgs s_law_in_bounds) (defBody s_law_in_bounds) (defScope s_law_in_bounds) .none kV_law_in_bounds dc_law_in_bounds pm_law_in_bounds an_law_in_bounds cd_law_in_bounds ct_law_in_bounds), sl_law_in_bounds⟩)
    (c_law_in_bounds : PySem.W.codeIn K cd_law_in_bounds "_law_in_bounds" = true)
    (k_law_in_bounds : PySem.W.keepIn K (.ref f_law_in_bounds) = true)
    (a_law_due : PySem.W.nsIn K mainGlobals "_law_due" = some (some (.ref f_law_due)))
    (l_law_due : K.lookup f_law_due = some ⟨oc_law_due, od_law_due, .func (PySem.W.fnOf "_law_due" "_law_due" (defArgs s_law_due) (defBody s_law_due) (defScope s_law_due) .none kV_law_due dc_law_due pm_law_due an_law_due cd_law_due ct_law_due), sl_law_due⟩)
    (c_law_due : PySem.W.codeIn K cd_law_due "_law_due" = true)
    (k_law_due : PySem.W.keepIn K (.ref f_law_due) = true)
    (a_law_told : PySem.W.nsIn K mainGlobals "_law_told" = some (some (.ref f_law_told)))
    (l_law_told : K.lookup f_law_told = some ⟨oc_law_told, od_law_told, .func (PySem.W.fnOf "_law_told" "_law_told" (defArgs s_law_told) (defBody s_law_told) (defScope s_law_told) .none kV_law_told dc_law_told pm_law_told an_law_told cd_law_told ct_law_told), sl_law_told⟩)
    (c_law_told : PySem.W.codeIn K cd_law_told "_law_told" = true)
    (k_law_told : PySem.W.keepIn K (.ref f_law_told) = true)
    (a_law_odd_word : PySem.W.nsIn K mainGlobals "_law_odd_word" = some (some (.ref f_law_odd_word)))
    (l_law_odd_word : K.lookup f_law_odd_word = some ⟨oc_law_odd_word, od_law_odd_word, .func (PySem.W.fnOf "_law_odd_word" "_law_odd_word" (defArgs s_law_odd_word) (defBody s_law_odd_word) (defScope s_law_odd_word) .none kV_law_odd_word dc_law_odd_word pm_law_odd_word an_law_odd_word cd_law_odd_word ct_law_odd_word), sl_law_odd_word⟩)
    (c_law_odd_word : PySem.W.codeIn K cd_law_odd_word "_law_odd_word" = true)
    (k_law_odd_word : PySem.W.keepIn K (.ref f_law_odd_word) = true)
    (a_law_spoilt_row : PySem.W.nsIn K mainGlobals "_law_spoilt_row" = some (some (.ref f_law_spoilt_row)))
    (l_law_spoilt_row : K.lookup f_law_spoilt_row = some ⟨oc_law_spoilt_row, od_law_spoilt_row, .func (PySem.W.fnOf "_law_spoilt_row" "_law_spoilt_row" (defArgs s_law_spoilt_row) (defBody s_law_spoilt_row) (defScope s_law_spoilt_row) .none kV_law_spoilt_row dc_law_spoilt_row pm_law_spoilt_row an_law_spoilt_row cd_law_spoilt_row ct_law_spoilt_row), sl_law_spoilt_row⟩)
    (c_law_spoilt_row : PySem.W.codeIn K cd_law_spoilt_row "_law_spoilt_row" = true)
    (k_law_spoilt_row : PySem.W.keepIn K (.ref f_law_spoilt_row) = true)
    (a_law : PySem.W.nsIn K mainGlobals "law" = some (some (.ref f_law)))
    (l_law : K.lookup f_law = some ⟨oc_law, od_law, .func (PySem.W.fnOf "law" "law" (defArgs s_law) (defBody s_law) (defScope s_law) .none kV_law dc_law pm_law an_law cd_law ct_law), sl_law⟩)
    (c_law : PySem.W.codeIn K cd_law "law" = true)
    (k_law : PySem.W.keepIn K (.ref f_law) = true)
    (a_Code : PySem.W.nsIn K mainGlobals "Code" = some (some (.ref C_Code)))
    (a_InvalidCode : PySem.W.nsIn K mainGlobals "InvalidCode" = some (some (.ref C_InvalidCode)))
    (a_InvalidText : PySem.W.nsIn K mainGlobals "InvalidText" = some (some (.ref C_InvalidText)))
    (a_LowError : PySem.W.nsIn K mainGlobals "LowError" = some (some (.ref C_LowError)))
    (m_Code_init : PySem.W.findIn K (.ref C_Code) "__init__" = some (some (.ref f_Code_init)))
    (l_Code_init : K.lookup f_Code_init = some ⟨oc_Code_init, od_Code_init, .func (PySem.W.fnOf "__init__" "Code.__init__" (defArgs s_Code_init) (defBody s_Code_init) (defScope s_Code_init) .none kV_Code_init dc_Code_init pm_Code_init an_Code_init cd_Code_init ct_Code_init), sl_Code_init⟩)
    (c_Code_init : PySem.W.codeIn K cd_Code_init "Code.__init__" = true)
    (k_Code_init : PySem.W.keepIn K (.ref f_Code_init) = true)
    (i_Code_init : PySem.W.isFn K (.ref f_Code_init) = true)
    (m_InvalidCode_init : PySem.W.findIn K (.ref C_InvalidCode) "__init__" = some (some (.ref f_InvalidCode_init)))
    (l_InvalidCode_init : K.lookup f_InvalidCode_init = some ⟨oc_InvalidCode_init, od_InvalidCode_init, .func (PySem.W.fnOf "__init__" "InvalidCode.__init__" (defArgs s_InvalidCode_init) (defBody s_InvalidCode_init) (defScope s_InvalidCode_init) .none kV_InvalidCode_init dc_InvalidCode_init pm_InvalidCode_init an_InvalidCode_init cd_InvalidCode_init ct_InvalidCode_init), sl_InvalidCode_init⟩)
    (c_InvalidCode_init : PySem.W.codeIn K cd_InvalidCode_init "InvalidCode.__init__" = true)
    (k_InvalidCode_init : PySem.W.keepIn K (.ref f_InvalidCode_init) = true)
    (y_InvalidCode_init : PySem.W.typeIn K (.ref f_InvalidCode_init) = some (.type "function"))
    (m_InvalidText_init : PySem.W.findIn K (.ref C_InvalidText) "__init__" = some (some (.ref f_InvalidText_init)))
    (l_InvalidText_init : K.lookup f_InvalidText_init = some ⟨oc_InvalidText_init, od_InvalidText_init, .func (PySem.W.fnOf "__init__" "InvalidText.__init__" (defArgs s_InvalidText_init) (defBody s_InvalidText_init) (defScope s_InvalidText_init) .none kV_InvalidText_init dc_InvalidText_init pm_InvalidText_init an_InvalidText_init cd_InvalidText_init ct_InvalidText_init), sl_InvalidText_init⟩)
    (c_InvalidText_init : PySem.W.codeIn K cd_InvalidText_init "InvalidText.__init__" = true)
    (k_InvalidText_init : PySem.W.keepIn K (.ref f_InvalidText_init) = true)
    (y_InvalidText_init : PySem.W.typeIn K (.ref f_InvalidText_init) = some (.type "function"))
    (rd_read : PySem.W.readsIn K C_Code (.type "type") = true)
    (ga_read : PySem.W.specialIn K (.ref C_Code) "__getattribute__" = some (some (.builtin "type.__getattribute__")))
    (at_read : PySem.W.findCls K (.ref C_Code) (.type "type") "read" = some (.get (.builtin "classmethod.__get__") (.ref pRead) .none (.ref C_Code)))
    (rc_read : PySem.W.recIn K pRead "classmethod" = some (.ref f_Code_read :: rest_read))
    (fi_read : PySem.W.fnIn K f_Code_read = true)
    (l_Code_read : K.lookup f_Code_read = some ⟨oc_Code_read, od_Code_read, .func (PySem.W.fnOf "read" "Code.read" (defArgs s_Code_read) (defBody s_Code_read) (defScope s_Code_read) .none kV_Code_read dc_Code_read pm_Code_read an_Code_read cd_Code_read ct_Code_read), sl_Code_read⟩)
    (c_Code_read : PySem.W.codeIn K cd_Code_read "Code.read" = true)
    (k_Code_read : PySem.W.keepIn K (.ref f_Code_read) = true)
    (pg_Code : PySem.W.plainGet K C_Code Str.empty = true)
    (hd_Code : PySem.W.hasDictIn K C_Code = true)
    (po_Code : PySem.W.plainOver K C_Code = true)
    (sa_Code : PySem.W.findIn K (.ref C_Code) "__setattr__" = some (some (.builtin "object.__setattr__")))
    (mk_Code : PySem.W.makesIn K C_Code = true)
    (kc_Code : PySem.W.keepIn K (.ref C_Code) = true)
    (ca_Code : PySem.W.findIn K (.ref C_Code) "__class__" = some (some (.builtin "object.__class__")))
    (cm_Code : PySem.W.mroIn K C_Code (.type "object") = some true)
    (ty_Code : PySem.W.typeIn K (.ref C_Code) = some (.type "type"))
    (ne_Code : PySem.W.findIn K (.ref C_Code) "__ne__" = some (some (.builtin "object.__ne__")))
    (sb_Code : PySem.W.subIn K (.ref C_Code) (.ref C_Code) = some true)
    (cls_Code : PySem.W.isClsIn K C_Code = true)
    (n_rows : PySem.W.findIn K (.ref C_Code) "rows" = some none)
    (cn : PySem.W.specialIn K (.builtin "object.__class__") "__get__" = some (some (.builtin "getset_descriptor.__get__")))
    (ct : PySem.W.takesIn K (.builtin "object.__class__") = some true)
    (xLI : K.lookup C_InvalidCode = some (excClassObj nmI qI C_InvalidCode NI bsI [.ref C_LowError, .type "ValueError", .type "Exception", .type "BaseException", .type "object"] true snI subI abI colI ddI m0I m1I m2I m3I m5I "ValueError.__new__"))
    (saI : PySem.W.findIn K (.ref C_InvalidCode) "__setattr__" = some (some (.builtin "object.__setattr__")))
    (gI : PySem.W.findIn K (.ref C_InvalidCode) "__getattribute__" = some (some (.builtin "BaseException.__getattribute__")))
    (hI : PySem.W.findIn K (.ref C_InvalidCode) "__getattr__" = some none)
    (dI : PySem.W.hasDictIn K C_InvalidCode = true)
    (caI : PySem.W.findIn K (.ref C_InvalidCode) "__class__" = some (some (.builtin "object.__class__")))
    (cmI : PySem.W.mroIn K C_InvalidCode (.type "object") = some true)
    (clsI : PySem.W.isClsIn K C_InvalidCode = true)
    (sLI : PySem.W.subIn K (.ref C_InvalidCode) (.ref C_LowError) = some true)
    (kI : PySem.W.keepIn K (.ref C_InvalidCode) = true)
    (bI : PySem.W.subIn K (.ref C_InvalidCode) (.type "BaseException") = some true)
    (tI : PySem.W.typeIn K (.ref C_InvalidCode) = some (.type "type"))
    (xLT : K.lookup C_InvalidText = some (excClassObj nmT qT C_InvalidText NT bsT [.ref C_LowError, .type "ValueError", .type "Exception", .type "BaseException", .type "object"] true snT subT abT colT ddT m0T m1T m2T m3T m5T "ValueError.__new__"))
    (saT : PySem.W.findIn K (.ref C_InvalidText) "__setattr__" = some (some (.builtin "object.__setattr__")))
    (gT : PySem.W.findIn K (.ref C_InvalidText) "__getattribute__" = some (some (.builtin "BaseException.__getattribute__")))
    (hT : PySem.W.findIn K (.ref C_InvalidText) "__getattr__" = some none)
    (dT : PySem.W.hasDictIn K C_InvalidText = true)
    (caT : PySem.W.findIn K (.ref C_InvalidText) "__class__" = some (some (.builtin "object.__class__")))
    (cmT : PySem.W.mroIn K C_InvalidText (.type "object") = some true)
    (clsT : PySem.W.isClsIn K C_InvalidText = true)
    (sLT : PySem.W.subIn K (.ref C_InvalidText) (.ref C_LowError) = some true)
    (kT : PySem.W.keepIn K (.ref C_InvalidText) = true)
    (bT : PySem.W.subIn K (.ref C_InvalidText) (.type "BaseException") = some true)
    (tT : PySem.W.typeIn K (.ref C_InvalidText) = some (.type "type"))
    (nwI : PySem.W.findIn K (.ref C_InvalidCode) "word" = some none)
    (nrI : PySem.W.findIn K (.ref C_InvalidCode) "row" = some none)
    (naT : PySem.W.findIn K (.ref C_InvalidText) "at" = some none)
    (bL : PySem.W.subIn K (.ref C_LowError) (.type "BaseException") = some true)
    (dL : PySem.W.hasDictIn K C_LowError = true)
    (tL : PySem.W.typeIn K (.ref C_LowError) = some (.type "type"))
    (sIT : PySem.W.subIn K (.ref C_InvalidCode) (.ref C_InvalidText) = some false)
    (sTI : PySem.W.subIn K (.ref C_InvalidText) (.ref C_InvalidCode) = some false)
    (dfIT : (C_InvalidCode == C_InvalidText) = false)
    (dfTI : (C_InvalidText == C_InvalidCode) = false)
    (gl_LIMIT : PySem.W.nsIn K mainGlobals "LIMIT" = some (some (.int 18446744073709551616 t1)))
    (gl_ROWS : PySem.W.nsIn K mainGlobals "MOST_ROWS" = some (some (.int 1000 t2)))
    (gl_REGS : PySem.W.nsIn K mainGlobals "MOST_REGISTERS" = some (some (.int 8 t3)))
    (gl_SLOTS : PySem.W.nsIn K mainGlobals "SLOTS" = some (some (.int 1000 t4)))
    (gl_DIGITS : PySem.W.nsIn K mainGlobals "MOST_DIGITS" = some (some (.int 20 t5)))
    (gl_MODULI : PySem.W.nsIn K mainGlobals "MODULI" = some (some (.ref aM)))
    (gl_FORMS : PySem.W.nsIn K mainGlobals "FORMS" = some (some (.ref aF)))
    (lM : K.lookup aM = some ⟨.type "tuple", odM, .seq itsM nM, slM⟩)
    (sM : intsAre itsM.toList mods = true)
    (zM : Nat.ble itsM.size 1000 = true)
    (lF : K.lookup aF = some ⟨.type "dict", none, .dict esF nF, #[]⟩)
    (kF : PySem.W.KeysLit w.params esF.toList)
    (oF : (aF == sysModules) = false)
    (eF : esF.toList.all keysF = true)
    (d_set : PySem.W.nsIn K aF "set" = some (some (.str "WI" tf_set)))
    (d_copy : PySem.W.nsIn K aF "copy" = some (some (.str "WR" tf_copy)))
    (d_add : PySem.W.nsIn K aF "add" = some (some (.str "WRR" tf_add)))
    (d_sub : PySem.W.nsIn K aF "sub" = some (some (.str "WRR" tf_sub)))
    (d_mul : PySem.W.nsIn K aF "mul" = some (some (.str "WRR" tf_mul)))
    (d_left : PySem.W.nsIn K aF "left" = some (some (.str "WR" tf_left)))
    (d_right : PySem.W.nsIn K aF "right" = some (some (.str "WR" tf_right)))
    (d_load : PySem.W.nsIn K aF "load" = some (some (.str "WS" tf_load)))
    (d_store : PySem.W.nsIn K aF "store" = some (some (.str "SR" tf_store)))
    (d_skip : PySem.W.nsIn K aF "skip" = some (some (.str "RMCN" tf_skip)))
    (z_len : PySem.W.nsIn K mainGlobals "len" = some none)
    (z_max : PySem.W.nsIn K mainGlobals "max" = some none)
    (z_list : PySem.W.nsIn K mainGlobals "list" = some none)
    (z_tuple : PySem.W.nsIn K mainGlobals "tuple" = some none)
    (z_reversed : PySem.W.nsIn K mainGlobals "reversed" = some none)
    (z_range : PySem.W.nsIn K mainGlobals "range" = some none)
    (z_int : PySem.W.nsIn K mainGlobals "int" = some none)
    (z_str : PySem.W.nsIn K mainGlobals "str" = some none)
    (z_bool : PySem.W.nsIn K mainGlobals "bool" = some none)
    (z_isinstance : PySem.W.nsIn K mainGlobals "isinstance" = some none)
    (z_all : PySem.W.nsIn K mainGlobals "all" = some none)
    (z_enumerate : PySem.W.nsIn K mainGlobals "enumerate" = some none)
    (z_zip : PySem.W.nsIn K mainGlobals "zip" = some none)
    (z_any : PySem.W.nsIn K mainGlobals "any" = some none)
    (z_repr : PySem.W.nsIn K mainGlobals "repr" = some none) :
    ∃ fd : FuncData, (∀ (s : Shared) (v : Value), BindsTo s fd ⟨[v], []⟩ [("_law_script", v)]) ∧ ∀ base : Heap, K.In base → base.Ns mainGlobals mg → FnOkG P w K mg base CX0 9 fa fd ["_law_script"] (spLaw K) := by
  have e := hfa.symm.trans (PySem.W.mg_of X G a_law)
  cases e
  refine ⟨PySem.W.fnOf "law" "law" (defArgs s_law) (defBody s_law) (defScope s_law) .none kV_law dc_law pm_law an_law cd_law ct_law, fun s v => .of_eq rfl, fun base _ _ => ?_⟩
  have F_is_integer := fun_mk (st := s_is_integer) l_is_integer c_is_integer k_is_integer
  have F_is_between := fun_mk (st := s_is_between) l_is_between c_is_between k_is_between
  have F_is_small := fun_mk (st := s_is_small) l_is_small c_is_small k_is_small
  have F_digits_value := fun_mk (st := s_digits_value) l_digits_value c_digits_value k_digits_value
  have F_signed_value := fun_mk (st := s_signed_value) l_signed_value c_signed_value k_signed_value
  have F_is_item := fun_mk (st := s_is_item) l_is_item c_is_item k_is_item
  have F_is_row := fun_mk (st := s_is_row) l_is_row c_is_row k_is_row
  have F_read_code_row := fun_mk (st := s_read_code_row) l_read_code_row c_read_code_row k_read_code_row
  have F_law_deal := fun_mk (st := s_law_deal) l_law_deal c_law_deal k_law_deal
  have F_law_draw := fun_mk (st := s_law_draw) l_law_draw c_law_draw k_law_draw
  have F_law_number := fun_mk (st := s_law_number) l_law_number c_law_number k_law_number
  have F_law_figures := fun_mk (st := s_law_figures) l_law_figures c_law_figures k_law_figures
  have F_law_row := fun_mk (st := s_law_row) l_law_row c_law_row k_law_row
  have F_law_far_row := fun_mk (st := s_law_far_row) l_law_far_row c_law_far_row k_law_far_row
  have F_law_far_rows := fun_mk (st := s_law_far_rows) l_law_far_rows c_law_far_rows k_law_far_rows
  have F_law_read_row := fun_mk (st := s_law_read_row) l_law_read_row c_law_read_row k_law_read_row
  have F_law_in_bounds := fun_mk (st := s_law_in_bounds) l_law_in_bounds c_law_in_bounds k_law_in_bounds
  have F_law_due := fun_mk (st := s_law_due) l_law_due c_law_due k_law_due
  have F_law_told := fun_mk (st := s_law_told) l_law_told c_law_told k_law_told
  have F_law_odd_word := fun_mk (st := s_law_odd_word) l_law_odd_word c_law_odd_word k_law_odd_word
  have F_law_spoilt_row := fun_mk (st := s_law_spoilt_row) l_law_spoilt_row c_law_spoilt_row k_law_spoilt_row
  have F_law := fun_mk (st := s_law) l_law c_law k_law
  have F_Code_init := fun_mk (st := s_Code_init) l_Code_init c_Code_init k_Code_init
  have F_InvalidCode_init := fun_mk (st := s_InvalidCode_init) l_InvalidCode_init c_InvalidCode_init k_InvalidCode_init
  have F_InvalidText_init := fun_mk (st := s_InvalidText_init) l_InvalidText_init c_InvalidText_init k_InvalidText_init
  have F_Code_read := fun_mk (st := s_Code_read) l_Code_read c_Code_read k_Code_read
  have b_is_integer := F_is_integer.binds (ps := ["value"]) fun _ _ _ _ _ _ us hl => match us, hl with | [_], _ => rfl
  have b_is_between := F_is_between.binds (ps := ["value", "least", "most"]) fun _ _ _ _ _ _ us hl => match us, hl with | [_, _, _], _ => rfl
  have b_is_small := F_is_small.binds (ps := ["value"]) fun _ _ _ _ _ _ us hl => match us, hl with | [_], _ => rfl
  have b_digits_value := F_digits_value.binds (ps := ["word"]) fun _ _ _ _ _ _ us hl => match us, hl with | [_], _ => rfl
  have b_signed_value := F_signed_value.binds (ps := ["word"]) fun _ _ _ _ _ _ us hl => match us, hl with | [_], _ => rfl
  have b_is_item := F_is_item.binds (ps := ["letter", "value"]) fun _ _ _ _ _ _ us hl => match us, hl with | [_, _], _ => rfl
  have b_is_row := F_is_row.binds (ps := ["row"]) fun _ _ _ _ _ _ us hl => match us, hl with | [_], _ => rfl
  have b_read_code_row := F_read_code_row.binds (ps := ["text"]) fun _ _ _ _ _ _ us hl => match us, hl with | [_], _ => rfl
  have b_law_deal := F_law_deal.binds (ps := ["_law_script", "_law_base"]) fun _ _ _ _ _ _ us hl => match us, hl with | [_, _], _ => rfl
  have b_law_draw := F_law_draw.binds (ps := ["_law_deal_here", "_law_many"]) fun _ _ _ _ _ _ us hl => match us, hl with | [_, _], _ => rfl
  have b_law_number := F_law_number.binds (ps := ["_law_deal_here"]) fun _ _ _ _ _ _ us hl => match us, hl with | [_], _ => rfl
  have b_law_figures := F_law_figures.binds (ps := ["_law_word"]) fun _ _ _ _ _ _ us hl => match us, hl with | [_], _ => rfl
  have b_law_row := F_law_row.binds (ps := ["_law_deal_here", "_law_registers", "_law_left"]) fun _ _ _ _ _ _ us hl => match us, hl with | [_, _, _], _ => rfl
  have b_law_far_row := F_law_far_row.binds (ps := ["_law_deal_here", "_law_registers", "_law_left"]) fun _ _ _ _ _ _ us hl => match us, hl with | [_, _, _], _ => rfl
  have b_law_far_rows := F_law_far_rows.binds (ps := ["_law_deal_here", "_law_registers", "_law_many"]) fun _ _ _ _ _ _ us hl => match us, hl with | [_, _, _], _ => rfl
  have b_law_read_row := F_law_read_row.binds (ps := ["_law_text"]) fun _ _ _ _ _ _ us hl => match us, hl with | [_], _ => rfl
  have b_law_in_bounds := F_law_in_bounds.binds (ps := ["_law_row_here"]) fun _ _ _ _ _ _ us hl => match us, hl with | [_], _ => rfl
  have b_law_due := F_law_due.binds (ps := ["_law_text"]) fun _ _ _ _ _ _ us hl => match us, hl with | [_], _ => rfl
  have b_law_told := F_law_told.binds (ps := ["_law_text"]) fun _ _ _ _ _ _ us hl => match us, hl with | [_], _ => rfl
  have b_law_odd_word := F_law_odd_word.binds (ps := ["_law_deal_here"]) fun _ _ _ _ _ _ us hl => match us, hl with | [_], _ => rfl
  have b_law_spoilt_row := F_law_spoilt_row.binds (ps := ["_law_deal_here", "_law_text"]) fun _ _ _ _ _ _ us hl => match us, hl with | [_, _], _ => rfl
  have b_law := F_law.binds (ps := ["_law_script"]) fun _ _ _ _ _ _ us hl => match us, hl with | [_], _ => rfl
  have b_Code_init := F_Code_init.binds (ps := ["self", "rows"]) fun _ _ _ _ _ _ us hl => match us, hl with | [_, _], _ => rfl
  have b_InvalidCode_init := F_InvalidCode_init.binds (ps := ["self", "word", "row"]) fun _ _ _ _ _ _ us hl => match us, hl with | [_, _, _], _ => rfl
  have b_InvalidText_init := F_InvalidText_init.binds (ps := ["self", "at"]) fun _ _ _ _ _ _ us hl => match us, hl with | [_, _], _ => rfl
  have b_Code_read := F_Code_read.binds (ps := ["cls", "text"]) fun _ _ _ _ _ _ us hl => match us, hl with | [_, _], _ => rfl
  have T : Glob mg := ⟨PySem.W.mg_none_of X G z_len, PySem.W.mg_none_of X G z_max, PySem.W.mg_none_of X G z_list, PySem.W.mg_none_of X G z_tuple, PySem.W.mg_none_of X G z_reversed, PySem.W.mg_none_of X G z_range, PySem.W.mg_none_of X G z_int, PySem.W.mg_none_of X G z_str, PySem.W.mg_none_of X G z_bool, PySem.W.mg_none_of X G z_isinstance, PySem.W.mg_none_of X G z_all, PySem.W.mg_none_of X G z_enumerate, PySem.W.mg_none_of X G z_zip⟩
  have hFs : ∀ x f, (x, f) ∈ forms → KDct K w aF x (.str f) := by
    intro x f hm
    have q : (x = ("set" : Str) ∧ f = ("WI" : Str)) ∨ (x = ("copy" : Str) ∧ f = ("WR" : Str)) ∨ (x = ("add" : Str) ∧ f = ("WRR" : Str)) ∨ (x = ("sub" : Str) ∧ f = ("WRR" : Str)) ∨ (x = ("mul" : Str) ∧ f = ("WRR" : Str)) ∨ (x = ("left" : Str) ∧ f = ("WR" : Str)) ∨ (x = ("right" : Str) ∧ f = ("WR" : Str)) ∨ (x = ("load" : Str) ∧ f = ("WS" : Str)) ∨ (x = ("store" : Str) ∧ f = ("SR" : Str)) ∨ (x = ("skip" : Str) ∧ f = ("RMCN" : Str)) := by
      unfold forms at hm
      simp only [List.mem_cons, List.not_mem_nil, or_false, Prod.mk.injEq] at hm
      exact hm
    rcases q with ⟨rfl, rfl⟩ | ⟨rfl, rfl⟩ | ⟨rfl, rfl⟩ | ⟨rfl, rfl⟩ | ⟨rfl, rfl⟩ | ⟨rfl, rfl⟩ | ⟨rfl, rfl⟩ | ⟨rfl, rfl⟩ | ⟨rfl, rfl⟩ | ⟨rfl, rfl⟩
    · exact ⟨esF, nF, _, lF, kF, d_set, ⟨_, rfl⟩⟩
    · exact ⟨esF, nF, _, lF, kF, d_copy, ⟨_, rfl⟩⟩
    · exact ⟨esF, nF, _, lF, kF, d_add, ⟨_, rfl⟩⟩
    · exact ⟨esF, nF, _, lF, kF, d_sub, ⟨_, rfl⟩⟩
    · exact ⟨esF, nF, _, lF, kF, d_mul, ⟨_, rfl⟩⟩
    · exact ⟨esF, nF, _, lF, kF, d_left, ⟨_, rfl⟩⟩
    · exact ⟨esF, nF, _, lF, kF, d_right, ⟨_, rfl⟩⟩
    · exact ⟨esF, nF, _, lF, kF, d_load, ⟨_, rfl⟩⟩
    · exact ⟨esF, nF, _, lF, kF, d_store, ⟨_, rfl⟩⟩
    · exact ⟨esF, nF, _, lF, kF, d_skip, ⟨_, rfl⟩⟩
  have T2 : Tabs w K mg := ⟨⟨t1, PySem.W.mg_of X G gl_LIMIT⟩, ⟨t2, PySem.W.mg_of X G gl_ROWS⟩, ⟨t3, PySem.W.mg_of X G gl_REGS⟩, ⟨t4, PySem.W.mg_of X G gl_SLOTS⟩, ⟨aM, PySem.W.mg_of X G gl_MODULI, fun H => .inr ⟨_, itsM, nM, lM, rfl, rfl, ble_size zM, ints_vals sM⟩⟩, ⟨aF, PySem.W.mg_of X G gl_FORMS, ⟨esF, nF, lF, kF, oF⟩, hFs⟩⟩
  have T3 : Tabs3 w K mg := { T2 with miss := ⟨aF, PySem.W.mg_of X G gl_FORMS, fun x hx => miss_of lF eF hx⟩ }
  have cl_Code : Cls K C_Code := ⟨pg_Code, hd_Code, po_Code, sa_Code⟩
  have D_is_integer : Df P w K mg base 1 "is_integer" ["value"] spInt := ⟨f_is_integer, _, ok_is_integer F_is_integer T, PySem.W.mg_of X G a_is_integer, k_is_integer, b_is_integer⟩
  have D_is_between : Df P w K mg base 2 "is_between" ["value", "least", "most"] spBtw := ⟨f_is_between, _, ok_is_between F_is_between D_is_integer, PySem.W.mg_of X G a_is_between, k_is_between, b_is_between⟩
  have D_is_small : Df P w K mg base 2 "is_small" ["value"] spSmall := ⟨f_is_small, _, ok_is_small F_is_small T2 D_is_integer, PySem.W.mg_of X G a_is_small, k_is_small, b_is_small⟩
  have D_is_item : Df P w K mg base 3 "is_item" ["letter", "value"] spItem := ⟨f_is_item, _, ok_is_item F_is_item T2 D_is_between D_is_small, PySem.W.mg_of X G a_is_item, k_is_item, b_is_item⟩
  have D_is_row : Df P w K mg base 4 "is_row" ["row"] spRow := ⟨f_is_row, _, ok_is_row F_is_row T T3 D_is_item, PySem.W.mg_of X G a_is_row, k_is_row, b_is_row⟩
  have D_digits_value : Df P w K mg base 1 "digits_value" ["word"] spDigits := ⟨f_digits_value, _, ok_digits_value F_digits_value T t5 (PySem.W.mg_of X G gl_DIGITS), PySem.W.mg_of X G a_digits_value, k_digits_value, b_digits_value⟩
  have D_signed_value : Df P w K mg base 2 "signed_value" ["word"] spSigned := ⟨f_signed_value, _, ok_signed_value F_signed_value D_digits_value, PySem.W.mg_of X G a_signed_value, k_signed_value, b_signed_value⟩
  have D_read_code_row : Df P w K mg base 3 "read_code_row" ["text"] spReadRow := ⟨f_read_code_row, _, ok_read_code_row F_read_code_row T (PySem.W.mg_none_of X G z_any) T3 D_digits_value D_signed_value, PySem.W.mg_of X G a_read_code_row, k_read_code_row, b_read_code_row⟩
  have oxI : OexC K C_InvalidCode := ⟨⟨nmI, qI, NI, bsI, _, snI, subI, abI, colI, ddI, m0I, m1I, m2I, m3I, m5I, xLI, (by show PySem.HandSPX.refsVE [.type "ValueError", .type "Exception", .type "BaseException", .type "object"] = true; decide +kernel)⟩, saI, bI, tI, kI⟩
  have EI : ErrI P w K mg base C_InvalidCode := ⟨f_InvalidCode_init, _, oxI, m_InvalidCode_init, y_InvalidCode_init, ok_InvalidCode_init F_InvalidCode_init oxI nwI nrI, b_InvalidCode_init, PySem.W.mg_of X G a_InvalidCode⟩
  have oxT : OexC K C_InvalidText := ⟨⟨nmT, qT, NT, bsT, _, snT, subT, abT, colT, ddT, m0T, m1T, m2T, m3T, m5T, xLT, (by show PySem.HandSPX.refsVE [.type "ValueError", .type "Exception", .type "BaseException", .type "object"] = true; decide +kernel)⟩, saT, bT, tT, kT⟩
  have ET : ErrT P w K mg base C_InvalidText := ⟨f_InvalidText_init, _, oxT, m_InvalidText_init, y_InvalidText_init, ok_InvalidText_init F_InvalidText_init oxT naT, b_InvalidText_init, PySem.W.mg_of X G a_InvalidText⟩
  have M : CodeX P w K mg base C_Code C_InvalidCode := ⟨f_Code_init, _, ⟨mk_Code, m_Code_init, i_Code_init, kc_Code⟩, ok_Code_init F_Code_init T T2 cl_Code n_rows EI D_is_row, PySem.W.mg_of X G a_Code, b_Code_init, cl_Code, n_rows⟩
  have fnr : FnR P w K mg base (L2.CX P w) 7 f_Code_read (spRead C_Code C_InvalidCode C_InvalidText) := ((ok_Code_read F_Code_read T M ET D_read_code_row).raw b_Code_read .nil).imp fun vs H Q E h => by
    rw [List.append_nil]
    exact h
  have MC : CodeRd P w K mg base C_Code C_InvalidCode C_InvalidText := ⟨f_Code_read, .type "type", pRead, ⟨rd_read, ga_read⟩, ⟨at_read, ⟨_, rc_read⟩, fi_read⟩, fnr⟩
  have EL : ErrL K mg C_InvalidCode C_InvalidText C_LowError := ⟨⟨gI, hI, bI, dI, caI, cn, ct, cmI⟩, ⟨gT, hT, bT, dT, caT, cn, ct, cmT⟩, ⟨gI, hI, bI, dI⟩, ⟨gT, hT, bT, dT⟩, naT, nwI, nrI, PySem.W.mg_of X G a_LowError, PySem.W.mg_of X G a_InvalidCode, PySem.W.mg_of X G a_InvalidText, PySem.W.exm_ref bL dL tL sLI, PySem.W.exm_ref bL dL tL sLT, kit_not clsT tT sIT (ref_ne dfIT), kit_not clsI tI sTI (ref_ne dfTI)⟩
  have D_law_deal : Df P w K mg base 1 "_law_deal" ["_law_script", "_law_base"] (spDeal K) := ⟨f_law_deal, _, ok_law_deal F_law_deal T, PySem.W.mg_of X G a_law_deal, k_law_deal, b_law_deal⟩
  have D_law_draw : Df P w K mg base 1 "_law_draw" ["_law_deal_here", "_law_many"] spDraw := ⟨f_law_draw, _, ok_law_draw F_law_draw T, PySem.W.mg_of X G a_law_draw, k_law_draw, b_law_draw⟩
  have D_law_number : Df P w K mg base 2 "_law_number" ["_law_deal_here"] spNum := ⟨f_law_number, _, ok_law_number F_law_number T D_law_draw, PySem.W.mg_of X G a_law_number, k_law_number, b_law_number⟩
  have D_law_row : Df P w K mg base 3 "_law_row" ["_law_deal_here", "_law_registers", "_law_left"] spRowL := ⟨f_law_row, _, ok_law_row F_law_row T D_law_draw D_law_number, PySem.W.mg_of X G a_law_row, k_law_row, b_law_row⟩
  have D_law_far_row : Df P w K mg base 4 "_law_far_row" ["_law_deal_here", "_law_registers", "_law_left"] spRowL := ⟨f_law_far_row, _, ok_law_far_row F_law_far_row T D_law_draw D_law_row, PySem.W.mg_of X G a_law_far_row, k_law_far_row, b_law_far_row⟩
  have D_law_far_rows : Df P w K mg base 5 "_law_far_rows" ["_law_deal_here", "_law_registers", "_law_many"] spRows := ⟨f_law_far_rows, _, ok_law_far_rows F_law_far_rows T D_law_far_row, PySem.W.mg_of X G a_law_far_rows, k_law_far_rows, b_law_far_rows⟩
  have D_law_figures : Df P w K mg base 1 "_law_figures" ["_law_word"] spFig := ⟨f_law_figures, _, ok_law_figures F_law_figures T, PySem.W.mg_of X G a_law_figures, k_law_figures, b_law_figures⟩
  have D_law_read_row : Df P w K mg base 2 "_law_read_row" ["_law_text"] spReadL := ⟨f_law_read_row, _, ok_law_read_row F_law_read_row T D_law_figures, PySem.W.mg_of X G a_law_read_row, k_law_read_row, b_law_read_row⟩
  have D_law_in_bounds : Df P w K mg base 1 "_law_in_bounds" ["_law_row_here"] spInB := ⟨f_law_in_bounds, _, ok_law_in_bounds F_law_in_bounds T, PySem.W.mg_of X G a_law_in_bounds, k_law_in_bounds, b_law_in_bounds⟩
  have D_law_due : Df P w K mg base 4 "_law_due" ["_law_text"] spDueT := ⟨f_law_due, _, ok_law_due F_law_due T D_law_read_row D_law_in_bounds, PySem.W.mg_of X G a_law_due, k_law_due, b_law_due⟩
  have D_law_told : Df P w K mg base 8 "_law_told" ["_law_text"] spToldT := ⟨f_law_told, _, ok_law_told F_law_told T M MC EL, PySem.W.mg_of X G a_law_told, k_law_told, b_law_told⟩
  have D_law_odd_word : Df P w K mg base 2 "_law_odd_word" ["_law_deal_here"] spOddW := ⟨f_law_odd_word, _, ok_law_odd_word F_law_odd_word T D_law_draw, PySem.W.mg_of X G a_law_odd_word, k_law_odd_word, b_law_odd_word⟩
  have D_law_spoilt_row : Df P w K mg base 3 "_law_spoilt_row" ["_law_deal_here", "_law_text"] spSpoilT := ⟨f_law_spoilt_row, _, ok_law_spoilt_row F_law_spoilt_row T D_law_draw D_law_odd_word, PySem.W.mg_of X G a_law_spoilt_row, k_law_spoilt_row, b_law_spoilt_row⟩
  exact ok_law F_law T (PySem.W.mg_none_of X G z_repr) D_law_deal D_law_draw D_law_far_rows D_law_told D_law_due D_law_spoilt_row
end My

set_option Elab.async false
set_option linter.all false
set_option maxRecDepth 100000
set_option maxHeartbeats 1000000
namespace My
open PySem L2 MyR RT
theorem walk {l : PySem.W.OpenLaw} {q : Program} {loose : List Str} {XP : (Str → Option Value) → Heap → Prop} {YP : World → Heap → Prop} {d : DefRec} {K : Params → PySem.W.Frag} (hn : l.most = some 63) (hdf : d.params.defaults = [])
    (hY : ∀ (w : World) (h : Heap), YP w h → (K w.params).In h)
    (F : ∀ (w : World) (mg : Str → Option Value) (fa : Addr) (h : Heap), (K w.params).In h → h.Ns mainGlobals mg → mg d.name = some (.ref fa) →
      ∃ fd : FuncData, (∀ (s : Shared) (u : Value), BindsTo s fd ⟨[u], []⟩ [("_law_script", u)]) ∧ ∀ base : Heap, (K w.params).In base → base.Ns mainGlobals mg → FnOkG l.prog w (K w.params) mg base CX0 9 fa fd ["_law_script"] (spLaw (K w.params))) :
    PySem.W.WalkO q loose XP YP l.row.toRowW d [] (fun f vs => PySem.call f vs) :=
  walk_ofG (n := 63) (k := 9) (x := "_law_script") (CX := fun _ => CX0) (sp := fun w => spLaw (K w.params)) hn (by decide) hdf ⟨rfl, by decide, by decide⟩ hY F (fun _ _ a ns hl _ hS => ⟨a, ns, rfl, hS, hl, fun _ => rfl⟩) fun _ _ _ _ _ z => z
end My
open PySem PySem.W PyProof.Rows
set_option pp.maxSteps 300 in
set_option maxRecDepth 100000 in
set_option maxHeartbeats 0 in
theorem PySem.Challenge.cw_lowsure_k56_texts_of_no_code_holds : PySem.Challenge.rw_lowsure_k56_texts_of_no_code.Holds := by
  w_on; o_law; k_head; (case hw => w_witness2)
  k_fill
  refine My.walk (l := PySem.Challenge.rw_lowsure_k56_texts_of_no_code) rfl rfl (fun w h Y => PySem.W.kIn_of Y) ?F
  case F =>
    intro w mg fa h KX G hmg
    refine' My.all_mk KX G hmg ?a_is_integer ?l_is_integer ?c_is_integer ?k_is_integer ?a_is_between ?l_is_between ?c_is_between ?k_is_between ?a_is_small ?l_is_small ?c_is_small ?k_is_small ?a_digits_value ?l_digits_value ?c_digits_value ?k_digits_value ?a_signed_value ?l_signed_value ?c_signed_value ?k_signed_value ?a_is_item ?l_is_item ?c_is_item ?k_is_item ?a_is_row ?l_is_row ?c_is_row ?k_is_row ?a_read_code_row ?l_read_code_row ?c_read_code_row ?k_read_code_row ?a_law_deal ?l_law_deal ?c_law_deal ?k_law_deal ?a_law_draw ?l_law_draw ?c_law_draw ?k_law_draw ?a_law_number ?l_law_number ?c_law_number ?k_law_number ?a_law_figures ?l_law_figures ?c_law_figures ?k_law_figures ?a_law_row ?l_law_row ?c_law_row ?k_law_row ?a_law_far_row ?l_law_far_row ?c_law_far_row ?k_law_far_row ?a_law_far_rows ?l_law_far_rows ?c_law_far_rows ?k_law_far_rows ?a_law_read_row ?l_law_read_row ?c_law_read_row ?k_law_read_row ?a_law_in_bounds ?l_law_in_bounds ?c_law_in_bounds ?k_law_in_bounds ?a_law_due ?l_law_due ?c_law_due ?k_law_due ?a_law_told ?l_law_told ?c_law_told ?k_law_told ?a_law_odd_word ?l_law_odd_word ?c_law_odd_word ?k_law_odd_word ?a_law_spoilt_row ?l_law_spoilt_row ?c_law_spoilt_row ?k_law_spoilt_row ?a_law ?l_law ?c_law ?k_law ?a_Code ?a_InvalidCode ?a_InvalidText ?a_LowError ?m_Code_init ?l_Code_init ?c_Code_init ?k_Code_init ?i_Code_init ?m_InvalidCode_init ?l_InvalidCode_init ?c_InvalidCode_init ?k_InvalidCode_init ?y_InvalidCode_init ?m_InvalidText_init ?l_InvalidText_init ?c_InvalidText_init ?k_InvalidText_init ?y_InvalidText_init ?rd_read ?ga_read ?at_read ?rc_read ?fi_read ?l_Code_read ?c_Code_read ?k_Code_read ?pg_Code ?hd_Code ?po_Code ?sa_Code ?mk_Code ?kc_Code ?ca_Code ?cm_Code ?ty_Code ?ne_Code ?sb_Code ?cls_Code ?n_rows ?cn ?ct ?xLI ?saI ?gI ?hI ?dI ?caI ?cmI ?clsI ?sLI ?kI ?bI ?tI ?xLT ?saT ?gT ?hT ?dT ?caT ?cmT ?clsT ?sLT ?kT ?bT ?tT ?nwI ?nrI ?naT ?bL ?dL ?tL ?sIT ?sTI ?dfIT ?dfTI ?gl_LIMIT ?gl_ROWS ?gl_REGS ?gl_SLOTS ?gl_DIGITS ?gl_MODULI ?gl_FORMS ?lM ?sM ?zM ?lF ?kF ?oF ?eF ?d_set ?d_copy ?d_add ?d_sub ?d_mul ?d_left ?d_right ?d_load ?d_store ?d_skip ?z_len ?z_max ?z_list ?z_tuple ?z_reversed ?z_range ?z_int ?z_str ?z_bool ?z_isinstance ?z_all ?z_enumerate ?z_zip ?z_any ?z_repr
    (case a_is_integer => k_is)
    (case l_is_integer => k_is)
    (case c_is_integer => k_is)
    (case k_is_integer => k_is)
    (case a_is_between => k_is)
    (case l_is_between => k_is)
    (case c_is_between => k_is)
    (case k_is_between => k_is)
    (case a_is_small => k_is)
    (case l_is_small => k_is)
    (case c_is_small => k_is)
    (case k_is_small => k_is)
    (case a_digits_value => k_is)
    (case l_digits_value => k_is)
    (case c_digits_value => k_is)
    (case k_digits_value => k_is)
    (case a_signed_value => k_is)
    (case l_signed_value => k_is)
    (case c_signed_value => k_is)
    (case k_signed_value => k_is)
    (case a_is_item => k_is)
    (case l_is_item => k_is)
    (case c_is_item => k_is)
    (case k_is_item => k_is)
    (case a_is_row => k_is)
    (case l_is_row => k_is)
    (case c_is_row => k_is)
    (case k_is_row => k_is)
    (case a_read_code_row => k_is)
    (case l_read_code_row => k_is)
    (case c_read_code_row => k_is)
    (case k_read_code_row => k_is)
    (case a_law_deal => k_is)
    (case l_law_deal => k_is)
    (case c_law_deal => k_is)
    (case k_law_deal => k_is)
    (case a_law_draw => k_is)
    (case l_law_draw => k_is)
    (case c_law_draw => k_is)
    (case k_law_draw => k_is)
    (case a_law_number => k_is)
    (case l_law_number => k_is)
    (case c_law_number => k_is)
    (case k_law_number => k_is)
    (case a_law_figures => k_is)
    (case l_law_figures => k_is)
    (case c_law_figures => k_is)
    (case k_law_figures => k_is)
    (case a_law_row => k_is)
    (case l_law_row => k_is)
    (case c_law_row => k_is)
    (case k_law_row => k_is)
    (case a_law_far_row => k_is)
    (case l_law_far_row => k_is)
    (case c_law_far_row => k_is)
    (case k_law_far_row => k_is)
    (case a_law_far_rows => k_is)
    (case l_law_far_rows => k_is)
    (case c_law_far_rows => k_is)
    (case k_law_far_rows => k_is)
    (case a_law_read_row => k_is)
    (case l_law_read_row => k_is)
    (case c_law_read_row => k_is)
    (case k_law_read_row => k_is)
    (case a_law_in_bounds => k_is)
    (case l_law_in_bounds => k_is)
    (case c_law_in_bounds => k_is)
    (case k_law_in_bounds => k_is)
    (case a_law_due => k_is)
    (case l_law_due => k_is)
    (case c_law_due => k_is)
    (case k_law_due => k_is)
    (case a_law_told => k_is)
    (case l_law_told => k_is)
    (case c_law_told => k_is)
    (case k_law_told => k_is)
    (case a_law_odd_word => k_is)
    (case l_law_odd_word => k_is)
    (case c_law_odd_word => k_is)
    (case k_law_odd_word => k_is)
    (case a_law_spoilt_row => k_is)
    (case l_law_spoilt_row => k_is)
    (case c_law_spoilt_row => k_is)
    (case k_law_spoilt_row => k_is)
    (case a_law => k_is)
    (case l_law => k_is)
    (case c_law => k_is)
    (case k_law => k_is)
    (case a_Code => k_is)
    (case a_InvalidCode => k_is)
    (case a_InvalidText => k_is)
    (case a_LowError => k_is)
    (case m_Code_init => k_is)
    (case l_Code_init => k_is)
    (case c_Code_init => k_is)
    (case k_Code_init => k_is)
    (case i_Code_init => k_is)
    (case m_InvalidCode_init => k_is)
    (case l_InvalidCode_init => k_is)
    (case c_InvalidCode_init => k_is)
    (case k_InvalidCode_init => k_is)
    (case y_InvalidCode_init => k_is)
    (case m_InvalidText_init => k_is)
    (case l_InvalidText_init => k_is)
    (case c_InvalidText_init => k_is)
    (case k_InvalidText_init => k_is)
    (case y_InvalidText_init => k_is)
    (case rd_read => k_is)
    (case ga_read => k_is)
    (case at_read => k_is)
    (case rc_read => k_is)
    (case fi_read => k_is)
    (case l_Code_read => k_is)
    (case c_Code_read => k_is)
    (case k_Code_read => k_is)
    (case pg_Code => k_is)
    (case hd_Code => k_is)
    (case po_Code => k_is)
    (case sa_Code => k_is)
    (case mk_Code => k_is)
    (case kc_Code => k_is)
    (case ca_Code => k_is)
    (case cm_Code => k_is)
    (case ty_Code => k_is)
    (case ne_Code => k_is)
    (case sb_Code => k_is)
    (case cls_Code => k_is)
    (case n_rows => k_is)
    (case cn => k_is)
    (case ct => k_is)
    (case xLI => k_is)
    (case saI => k_is)
    (case gI => k_is)
    (case hI => k_is)
    (case dI => k_is)
    (case caI => k_is)
    (case cmI => k_is)
    (case clsI => k_is)
    (case sLI => k_is)
    (case kI => k_is)
    (case bI => k_is)
    (case tI => k_is)
    (case xLT => k_is)
    (case saT => k_is)
    (case gT => k_is)
    (case hT => k_is)
    (case dT => k_is)
    (case caT => k_is)
    (case cmT => k_is)
    (case clsT => k_is)
    (case sLT => k_is)
    (case kT => k_is)
    (case bT => k_is)
    (case tT => k_is)
    (case nwI => k_is)
    (case nrI => k_is)
    (case naT => k_is)
    (case bL => k_is)
    (case dL => k_is)
    (case tL => k_is)
    (case sIT => k_is)
    (case sTI => k_is)
    (case dfIT => decide)
    (case dfTI => decide)
    (case gl_LIMIT => k_is)
    (case gl_ROWS => k_is)
    (case gl_REGS => k_is)
    (case gl_SLOTS => k_is)
    (case gl_DIGITS => k_is)
    (case gl_MODULI => k_is)
    (case gl_FORMS => k_is)
    (case lM => k_is)
    (case sM => kernel_rfl)
    (case zM => kernel_rfl)
    (case lF => k_is)
    (case kF => k_keys)
    (case oF => decide)
    (case eF => kernel_rfl)
    (case d_set => k_is)
    (case d_copy => k_is)
    (case d_add => k_is)
    (case d_sub => k_is)
    (case d_mul => k_is)
    (case d_left => k_is)
    (case d_right => k_is)
    (case d_load => k_is)
    (case d_store => k_is)
    (case d_skip => k_is)
    (case z_len => k_is)
    (case z_max => k_is)
    (case z_list => k_is)
    (case z_tuple => k_is)
    (case z_reversed => k_is)
    (case z_range => k_is)
    (case z_int => k_is)
    (case z_str => k_is)
    (case z_bool => k_is)
    (case z_isinstance => k_is)
    (case z_all => k_is)
    (case z_enumerate => k_is)
    (case z_zip => k_is)
    (case z_any => k_is)
    (case z_repr => k_is)
