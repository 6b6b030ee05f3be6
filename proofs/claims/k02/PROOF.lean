import PyProof.Rows.All
import Wide.All
import OpenK.AllK
import Wide.FinOn
import HandS.ForMost
import HandS.Rev
import HandS.Wide
import PySem.Challenge.RW_lowsure_k02_nodes_keep_their_arguments
import HandS.IsInst
import HandS.Walk
import HandS.Exc
import HandS.ExcOwn
import HandS.ExcBuiltin
import HandS.WordsExc
import KE.KTypeName
import HandS.OwnEq
import PyProof.InstNe
import HandS.More
import HandS.Steps
import HandS.NoneIn
import HandS.ExcIs
import HandS.Style
set_option Elab.async false
set_option linter.all false
set_option maxRecDepth 100000
set_option maxHeartbeats 1000000
namespace MyR
open PySem PySem.Spec PyProof.Rows L2 RT
section
variable {prog : Program} {w : World} {A : Around} {E : Value → Shared → Prop} {s : Shared}
theorem extend_rev {R : Result → Shared → Prop} {S it l : Addr} {items : Array Value} {res : Value} {c0 : Nat} (hh : A.handled = none) (hit : s.heap.IsRevIter it l ((items.size : Int) - 1)) (hl : s.heap.IsList l items) (hne : l ≠ it) (hSi : S ≠ it) (hSl : S ≠ l) (hn : items.size ≤ sizeLine)
    (hS : s.heap.get? S = some { cls := .type "list", data := .seq #[] c0 })
    (hR : ∀ (s' : Shared) (acc : Array Value) (c' : Nat), (∀ b o, b ≠ it → b ≠ S → s.heap.get? b = some o → s'.heap.get? b = some o) → s' = { s with heap := s'.heap, toks := s'.toks } → s'.heap.get? S = some { cls := .type "list", dict := none, data := .seq acc c', slots := #[] } →
      ItemsOf (fun i v => items[items.size - 1 - i]? = some v) acc items.size → R (.ok (.ret res)) s') :
    wpAny (model prog w) A.in1 (Builtin.List.listExtendWith (.ref S) (.ref it) res)
      (fun fin s' => match fin with | .done f => R (.ok f) s' | .again c' => c'.quiet = true ∧ codeAny (model prog w) A c' R s') (fun e s' => R (.error e) s') s := by
  have W := (Walks.listRev (prog := prog) (w := w) (A := A.in1) hh it l hne items).toS
  have hSf : S ∉ [it, l] := by simp only [List.mem_cons, List.not_mem_nil, or_false, not_or]; exact ⟨hSi, hSl⟩
  have hT : s.TypeIs (.ref it) "list_reverseiterator" := hit.typeIs
  have h1 : Builtin.List.listSameRef (.ref S) (.ref it) = false := by simp [Builtin.List.listSameRef, hSi]
  unfold Builtin.List.listExtendWith
  refine wpAny_bind (wpAny_typeOf hT ?_)
  rw [if_neg (by rw [h1]; decide)]
  refine wpAny_bind (wpAny_pyIter_revIter hit ?_)
  refine wpAny_bind (wpAny_holding ?_)
  unfold Builtin.List.listLengthHint
  refine wpAny_bind (wpAny_specialOf hT nolen_lri ?_)
  show wpAny _ A.in1 (specialOf (Value.ref it) (Str.ofString "__length_hint__") >>= _) _ _ _
  refine wpAny_bind (wpAny_specialOf hT hint_lri ?_)
  generalize hid : ("list_reverseiterator.__length_hint__" : String) = id0
  wp_delta
  rw [show splitId id0 = some ("list_reverseiterator", "__length_hint__") from by subst hid; decide +kernel]
  subst hid
  refine wpAny_bind (wpAny_isInstance (b := true) hT (by rw [isSubtype_type]; kernel_rfl) ?_)
  refine wpAny_pure ?_
  rw [if_neg (by decide)]
  have e0 : ((items.size : Nat) : Int) - 1 - ((0 : Nat) : Int) = (items.size : Int) - 1 := by omega
  refine wpAny_pure ⟨plainId_quiet F.plain_extend_loop _, codeAny_extend_loopS W hn _ hSf _ items.size 0 _ _ _ rfl (Nat.zero_le _) ⟨Nat.zero_le _, by rw [e0]; exact hit, hl⟩ hS (ItemsOf.nil _) fun s' acc' c' hm hS' hacc => ?_⟩
  refine hR s' acc' c' (fun b o hb hb2 e => hm.heap b o (fun hmem => ?_) e) (Moved.eq_with hm) hS' hacc
  rcases List.mem_cons.mp hmem with e' | hmem
  · exact hb2 e'
  · exact hb (List.mem_singleton.mp hmem)
theorem list_init_rev {R : Result → Shared → Prop} {S it l : Addr} {items : Array Value} (hh : A.handled = none) (hit : s.heap.IsRevIter it l ((items.size : Int) - 1)) (hl : s.heap.IsList l items) (hne : l ≠ it) (hSi : S ≠ it) (hSl : S ≠ l) (hn : items.size ≤ sizeLine)
    (hS : s.heap.get? S = some { cls := .type "list", data := .seq #[] })
    (hR : ∀ (s' : Shared) (acc : Array Value) (c' : Nat), (∀ b o, b ≠ it → b ≠ S → s.heap.get? b = some o → s'.heap.get? b = some o) → s' = { s with heap := s'.heap, toks := s'.toks } → s'.heap.get? S = some { cls := .type "list", dict := none, data := .seq acc c', slots := #[] } →
      ItemsOf (fun i v => items[items.size - 1 - i]? = some v) acc items.size → R (.ok (.ret .none)) s') :
    wpAny (model prog w) A.in1 (Builtin.«list.__init__» ⟨[.ref S, .ref it], []⟩)
      (fun fin s' => match fin with | .done f => R (.ok f) s' | .again c' => c'.quiet = true ∧ codeAny (model prog w) A c' R s') (fun e s' => R (.error e) s') s := by
  show wpAny _ A.in1 (do let old ← Builtin.List.listItems (.ref S); Builtin.List.listUpdate (.ref S) (fun _ => #[]); letGo old.toList.reverse; Builtin.List.listExtendWith (.ref S) (.ref it) .none) _ _ s
  refine wpAny_bind ?_
  unfold Builtin.List.listItems
  refine wpAny_bind (wpAny_seqItems hS rfl (wpAny_pure ?_))
  show wpAny _ A.in1 (updateSeq S (fun _ => #[]) >>= fun _ => letGo (#[] : Array Value).toList.reverse >>= fun _ => Builtin.List.listExtendWith (.ref S) (.ref it) .none) _ _ s
  refine wpAny_bind (wpAny_updateSeq hS rfl ?_)
  have hS2 := Heap.get?_update_self (Obj.mapSeq (fun _ => (#[] : Array Value))) hS rfl
  have oth : ∀ b o, b ≠ S → s.heap.get? b = some o → (s.heap.update S (Obj.mapSeq (fun _ => (#[] : Array Value)))).get? b = some o :=
    fun b o hb e => (Heap.get?_update_other _ _ (Ne.symm hb)).trans e
  refine wpAny_bind (wpAny_letGo ?_)
  refine extend_rev hh (hit.at fun o e => oth it o (Ne.symm hSi) e) (hl.at fun o e => oth l o (Ne.symm hSl) e) hne hSi hSl hn hS2 fun s' acc c' hk hs hS' hi => ?_
  refine hR s' acc c' (fun b o h1 h2 e => hk b o h1 h2 (oth b o h2 e)) ?_ hS' hi
  exact hs
theorem call_list_rev {it l : Addr} {items : Array Value} {Q : Value → Shared → Prop} (hh : A.handled = none) (hit : s.heap.IsRevIter it l ((items.size : Int) - 1)) (hl : s.heap.IsList l items) (hne : l ≠ it) (hn : items.size ≤ sizeLine)
    (hQ : ∀ (s' : Shared) (acc : Array Value) (c' : Nat), (∀ b o, b ≠ it → s.heap.get? b = some o → s'.heap.get? b = some o) → s' = { s with heap := s'.heap, toks := s'.toks } → s'.heap.get? s.heap.objs.size = some { cls := .type "list", dict := none, data := .seq acc c', slots := #[] } →
      ItemsOf (fun i v => items[items.size - 1 - i]? = some v) acc items.size → Q (.ref s.heap.objs.size) s') :
    wpAny (model prog w) A (call (.type "list") [.ref it]) Q E s := by
  obtain ⟨oi, hoi, _⟩ := id hit
  obtain ⟨ol, hol, _⟩ := id hl
  have hSi : s.heap.objs.size ≠ it := Nat.ne_of_gt (Heap.lt_size hoi)
  have hSl : s.heap.objs.size ≠ l := Nat.ne_of_gt (Heap.lt_size hol)
  refine callType_codes (Q₁ := fun obj s₁ => obj = .ref s.heap.objs.size ∧ s₁ = { s with heap := s.heap.push { cls := .type "list", data := .seq #[] } }) F.called_list (F.typeCall_list_1 _) F.entry_list_init
    (code_list_new _ ⟨rfl, rfl⟩) fun obj s₁ h₁ => ?_
  obtain ⟨rfl, rfl⟩ := h₁
  have hS : (s.heap.push { cls := .type "list", data := .seq #[] }).get? s.heap.objs.size = some { cls := .type "list", data := .seq #[] } := Heap.get?_push_size _ rfl
  refine ⟨⟨_, hS, rfl⟩, F.args_list_init_2 _ _, list_init_rev (A := A.in1) hh (hit.at fun o e => Heap.get?_push_of_some _ e) (hl.push _) hne hSi hSl hn hS fun s' acc c' hk hs hS' hi => ?_⟩
  exact ⟨rfl, hQ s' acc c' (fun b o hb e => hk b o hb (Nat.ne_of_lt (Heap.lt_size e)) (Heap.get?_push_of_some _ e)) hs hS' hi⟩
end
/-- list(reversed(x)), x a list: a new list -/
def tLstRev (K : PySem.W.Frag) (te : TE) : TE := fun σ H Q => te σ H fun v H1 => ∃ (a : Addr) (xs : List V), v = .ref a ∧ SqL K H1 a xs ∧ ∀ q, H1 q = none → Q (.ref q) (upd H1 q (.lst xs.reverse))
section
variable {X : Cx}
theorem pe_lstRev {e : Expr} {te : TE} {p p2 pos pos2 : Pos} (hc : X.calm = true) (hg : Gl X "list") (hm : X.mg "list" = none) (hg2 : Gl X "reversed") (hm2 : X.mg "reversed" = none) (he : PE X e te)
    (hs : starEach [e] X.env = (false, eval e X.env) :: starEach [] X.env := by rfl)
    (hs2 : starEach [.Call (.Name "reversed" p2) [e] [] pos2] X.env = (false, eval (.Call (.Name "reversed" p2) [e] [] pos2) X.env) :: starEach [] X.env := by rfl) :
    PE X (.Call (.Name "list" p) [.Call (.Name "reversed" p2) [e] [] pos2] [] pos) (tLstRev X.K te) := by
  refine ⟨fun pins s σ H Q I h => ?_⟩
  refine Call_ (ld_blt I hg hm (show bootBuiltins "list" = some (.type "list") by decide +kernel) (PyProof.Rows.callWith_type1 (args_cons (Call_ (ld_blt I hg2 hm2 PyProof.Rows.boot_reversed (PyProof.Rows.callWith_type1 (args_cons (thn (he.run pins s σ H _ I h) fun u s1 ⟨v, H1, I1, r1, q1⟩ => args_nil ?_) hs) hs rfl))) hs2) hs2 rfl))
  obtain ⟨a, xs, ev, hq, q⟩ := q1
  subst ev
  obtain rfl : u = Value.ref a := r1
  obtain ⟨its, rv, p', hz⟩ := I1.list hq
  refine call_reversed_list p'.isList (args_nil ?_)
  have k0 : ∀ b o, s1.heap.get? b = some o → (s1.heap.push (revObj a ((its.toArray.size : Int) - 1))).get? b = some o := fun b o e => Heap.get?_push_of_some _ e
  have hl := p'.isList
  obtain ⟨ol, hol, _⟩ := id hl
  have hne : a ≠ s1.heap.objs.size := Nat.ne_of_lt (Heap.lt_size hol)
  have hn : its.toArray.size ≤ sizeLine := by rw [List.size_toArray, ← rv.length]; exact hz
  refine call_list_rev (s := { s1 with heap := s1.heap.push (revObj a ((its.toArray.size : Int) - 1)) }) (I1.ok.hd hc) ⟨_, Heap.get?_push_size _ rfl, rfl, rfl⟩ (hl.push _) hne hn fun s' acc c' hk hs' hS' hi => ?_
  have kk : ∀ b o, s1.heap.get? b = some o → s'.heap.get? b = some o := fun b o e => hk b o (Nat.ne_of_lt (Heap.lt_size e)) (k0 b o e)
  have hsz : s1.heap.objs.size ≤ (s1.heap.push (revObj a ((its.toArray.size : Int) - 1))).objs.size := by rw [Heap.size_push]; exact Nat.le_succ _
  have J := I1.laid (a := (s1.heap.push (revObj a ((its.toArray.size : Int) - 1))).objs.size) (o := .lst xs.reverse) (h' := s'.heap) (t' := s'.toks) kk hsz
    (show ObjOk X.prog X.w _ _ _ (.lst xs.reverse) from ⟨by rw [List.length_reverse]; exact hz, acc.toList, c', vals_rev rv hi, by rw [Array.toArray_toList]; exact hS'⟩)
  rw [hs']
  exact ⟨.ref _, _, J, rfl, q _ (I1.hok.fresh hsz)⟩
end
end MyR

set_option Elab.async false
set_option linter.all false
set_option maxRecDepth 100000
set_option maxHeartbeats 1000000
namespace My
open PySem L2 MyR
def top (i : Nat) : Stmt := PySem.Challenge.pw_lowsure_k02_nodes_keep_their_arguments.main.body.getD i (.Pass ⟨0, 0, 0, 0⟩)
/-- what the module's names hold -/
structure Glob (mg : Str → Option Value) : Prop where
  g_len : mg "len" = none
  g_max : mg "max" = none
  g_list : mg "list" = none
  g_tuple : mg "tuple" = none
  g_reversed : mg "reversed" = none
  g_range : mg "range" = none
  g_int : mg "int" = none
  g_str : mg "str" = none
  g_bool : mg "bool" = none
  g_isinstance : mg "isinstance" = none
  g_all : mg "all" = none
/-! ### the source of draws -/
def dKV (s n : Int) (l : Addr) : List (Key × V) := [(.inr "seed", .int s), (.inr "number", .int n), (.inr "left", .ref l)]
theorem k_sn : ¬ ((.inr "seed" : Key) = .inr "number") := fun h => absurd (Sum.inr.inj h) (by decide +kernel)
theorem k_sl : ¬ ((.inr "seed" : Key) = .inr "left") := fun h => absurd (Sum.inr.inj h) (by decide +kernel)
theorem k_nl : ¬ ((.inr "number" : Key) = .inr "left") := fun h => absurd (Sum.inr.inj h) (by decide +kernel)
theorem d_seed {s n : Int} {l : Addr} : valV (dKV s n l) (.inr "seed") = some (.int s) := valV_pos rfl
theorem d_number {s n : Int} {l : Addr} : valV (dKV s n l) (.inr "number") = some (.int n) := by
  unfold dKV; rw [valV_neg k_sn, valV_pos rfl]
theorem d_left {s n : Int} {l : Addr} : valV (dKV s n l) (.inr "left") = some (.ref l) := by
  unfold dKV; rw [valV_neg k_sl, valV_neg k_nl, valV_pos rfl]
theorem d_put_seed {s n z : Int} {l : Addr} : putK (dKV s n l) (.inr "seed") (.int z) = dKV z n l := by
  unfold putK
  rw [valV_any, d_seed]
  rw [if_pos (show (some (V.int s)).isSome = true from rfl)]
  unfold dKV
  simp only [List.map_cons, List.map_nil, if_true, if_neg (Ne.symm k_sn), if_neg (Ne.symm k_sl)]
theorem d_put_number {s n z : Int} {l : Addr} : putK (dKV s n l) (.inr "number") (.int z) = dKV s z l := by
  unfold putK
  rw [valV_any, d_number]
  rw [if_pos (show (some (V.int n)).isSome = true from rfl)]
  unfold dKV
  simp only [List.map_cons, List.map_nil, if_true, if_neg k_sn, if_neg (Ne.symm k_nl)]
theorem d_merge {s n : Int} {l : Addr} : mergeK [] (dKV s n l) = dKV s n l := by
  unfold mergeK dKV
  simp only [List.foldl_cons, List.foldl_nil]
  have e1 : putK ([] : List (Key × V)) (.inr "seed") (.int s) = [(.inr "seed", .int s)] := putK_new _ valV_nil
  have e2 : putK ([(.inr "seed", .int s)] : List (Key × V)) (.inr "number") (.int n) = [(.inr "seed", .int s), (.inr "number", .int n)] := putK_new _ (by rw [valV_neg k_sn]; rfl)
  have e3 : putK ([(.inr "seed", .int s), (.inr "number", .int n)] : List (Key × V)) (.inr "left") (.ref l) = [(.inr "seed", .int s), (.inr "number", .int n), (.inr "left", .ref l)] := putK_new _ (by rw [valV_neg k_sl, valV_neg k_nl]; rfl)
  rw [e1, e2, e3]
theorem g_seed {H : Hp} {d l : Addr} {s n : Int} (h : H d = some (.dK (dKV s n l))) : DGet H d (.str "seed") (some (.int s)) := by
  have q := DGet.k (k := .inr "seed") h
  rw [d_seed] at q
  exact q
theorem g_number {H : Hp} {d l : Addr} {s n : Int} (h : H d = some (.dK (dKV s n l))) : DGet H d (.str "number") (some (.int n)) := by
  have q := DGet.k (k := .inr "number") h
  rw [d_number] at q
  exact q
theorem g_left {H : Hp} {d l : Addr} {s n : Int} (h : H d = some (.dK (dKV s n l))) : DGet H d (.str "left") (some (.ref l)) := by
  have q := DGet.k (k := .inr "left") h
  rw [d_left] at q
  exact q
theorem p_seed {H : Hp} {d l : Addr} {s n z : Int} (h : H d = some (.dK (dKV s n l))) : DPut H d (.str "seed") (.int z) (upd H d (.dK (dKV z n l))) := by
  have q := DPut.k (k := .inr "seed") (v := .int z) h (by show 3 < sizeLine; decide)
  rw [d_put_seed] at q
  exact q
theorem p_number {H : Hp} {d l : Addr} {s n z : Int} (h : H d = some (.dK (dKV s n l))) : DPut H d (.str "number") (.int z) (upd H d (.dK (dKV s z l))) := by
  have q := DPut.k (k := .inr "number") (v := .int z) h (by show 3 < sizeLine; decide)
  rw [d_put_number] at q
  exact q
/-- what holds between a statement and the rest -/
theorem seq_by {t u : TS} {D : Ends} {σ : St} {H : Hp} (Pv : St → Hp → Prop) (h1 : ∀ D' : Ends, (∀ σ H, Pv σ H → D'.nx σ H) → t D' σ H) (h2 : ∀ σ H, Pv σ H → u D σ H) : tSeq t u D σ H := h1 { D with nx := u D } h2
structure Deal (H : Hp) (d l : Addr) : Prop where
  ex : ∃ (s n : Int) (ns : List Int), H d = some (.dK (dKV s n l)) ∧ H l = some (.lst (ns.map V.int)) ∧ 0 ≤ s ∧ s < 2147483648
/-- what stood but at d and l stands as it was -/
def Kept (d l : Addr) (H H' : Hp) : Prop := ∀ b o, H b = some o → b ≠ d → b ≠ l → H' b = some o
theorem Kept.refl {d l : Addr} {H : Hp} : Kept d l H H := fun _ _ e _ _ => e
theorem Kept.trans {d l : Addr} {H H1 H2 : Hp} (a : Kept d l H H1) (b : Kept d l H1 H2) : Kept d l H H2 := fun c o e h1 h2 => b c o (a c o e h1 h2) h1 h2
theorem Kept.d {d l : Addr} {H H1 : Hp} {o : HO} (a : Kept d l H H1) : Kept d l H (upd H1 d o) := fun c o e h1 h2 => by rw [upd_ne h1]; exact a c o e h1 h2
theorem Kept.l {d l : Addr} {H H1 : Hp} {o : HO} (a : Kept d l H H1) : Kept d l H (upd H1 l o) := fun c o e h1 h2 => by rw [upd_ne h2]; exact a c o e h1 h2
def spDraw : Sp := fun vs H Q _ => ∃ (d l : Addr) (m : Int), vs = [.ref d, .int m] ∧ Deal H d l ∧ 0 < m ∧ m.natAbs < 2 ^ 65 ∧
  ∀ (r : Int) (H' : Hp), 0 ≤ r → r < m → Deal H' d l → Kept d l H H' → Q (.int r) H'
section
variable {P : Program} {w : World} {K : PySem.W.Frag} {mg : Str → Option Value} {base : Heap}
abbrev s_law_draw : Stmt := top 34
abbrev N_law_draw : List Str := ["_law_deal_here", "_law_many", "_law_number_here", "_law_one", "_law_other"]
theorem sc_law_draw : FnScope N_law_draw ["_law_deal_here", "_law_many"] (defScope s_law_draw) := ⟨rfl, rfl, rfl, by decide +kernel, rfl, by decide +kernel, by decide +kernel⟩
theorem ok_law_draw {f : Addr} {fd : FuncData} (F : Fun K "_law_draw" "_law_draw" s_law_draw f fd) (T : Glob mg) : FnOk P w K mg base CX0 1 f fd ["_law_deal_here", "_law_many"] spDraw := by
  refine F.ok sc_law_draw (fun vs H Q E h => ?_) (fun cdv A outer s H vs Q E hr h => ?_)
  · obtain ⟨d, l, m, rfl, _⟩ := h
    rfl
  · obtain ⟨d, l, m, rfl, D, hm, hb, k⟩ := h
    have hu := hu_of hr
    have nd := sc_law_draw.nd
    refine ⟨_, (pss_cons (ps_while PassesOwn.never (PW.pt (pw_and (pt_cmpR op_eq (pe_dget hu (pv 0) pe_str (fun _ _ => rfl)) pe_int (nomark _)) (pw_and1 (pt_cmpR op_gt (pe_callB call_len_seq (by rfl) T.g_len PySem.boot_len (pa_cons (pe_dget hu (pv 0) pe_str (fun _ _ => rfl)) pa_nil)) pe_int (nomark _)))))
      (pss_one (ps_dput hu (pv 0) pe_str (pe_bm0 PySem.F.plainAttrs_list PySem.F.slot_list_pop PySem.F.type_list_pop mt_pop (pe_dget hu (pv 0) pe_str (fun _ _ => rfl))) rfl)))
    (pss_cons (ps_set (i := 2) nd rfl (Or.inl rfl) (pe_dget hu (pv 0) pe_str (fun _ _ => rfl)))
    (pss_cons (ps_if (pt_cmpR op_gt (pv 2) pe_int (nomark _))
    (pss_cons (ps_dput hu (pv 0) pe_str (pe_op op_fdivW (pv 2) (pv 1)) rfl)
    (pss_one (ps_ret (pe_op op_mod (pv 2) (pv 1)))))
    pss_nil)
    (pss_cons (ps_set (i := 3) nd rfl (Or.inl rfl) (pe_op op_mod (pe_op op_add (pe_op op_mul (pe_dget hu (pv 0) pe_str (fun _ _ => rfl)) pe_int) pe_int) pe_int))
    (pss_cons (ps_dput hu (pv 0) pe_str (pe_op op_mod (pe_op op_add (pe_op op_mul (pv 3) pe_int) pe_int) pe_int) rfl)
    (pss_cons (ps_set (i := 4) nd rfl (Or.inl rfl) (pe_op op_mod (pe_op op_mul (pe_dget hu (pv 0) pe_str (fun _ _ => rfl)) (pe_dget hu (pv 0) pe_str (fun _ _ => rfl))) pe_int))
    (pss_one (ps_ret (pe_op op_mod (pe_op op_add (pe_op op_mul (pe_op op_mod (pe_op op_mul (pv 3) (pv 3)) pe_int) pe_int) (pv 4)) (pv 1)))))))))), ?_⟩
    refine seq_by (fun σ H1 => σ = [some (.ref d), some (.int m), none, none, none] ∧ Deal H1 d l ∧ Kept d l H H1) (fun D' hD' => ?_) ?_
    · refine while_by (fun σ H1 => σ = [some (.ref d), some (.int m), none, none, none] ∧ Deal H1 d l ∧ Kept d l H H1)
        (fun _ H1 => match H1 l with | some (.lst xs) => xs.length | _ => 0) ⟨rfl, D, Kept.refl⟩ ?_ ?_
      · rintro σ H1 ⟨rfl, D1, kp⟩
        obtain ⟨s0, n, ns, hd, hl, hs0, hs1⟩ := id D1
        have ndl : d ≠ l := ne_of hd hl (by intro z; cases z)
        refine ⟨_, rfl, d, _, rfl, g_number hd, rfl, _, rfl, ?_⟩
        refine ite2 (fun hz => ?_) (fun hz => ?_)
        · refine ⟨_, rfl, d, _, rfl, g_left hd, l, _, rfl, .inl (SqL.of hl), _, _, rfl, rfl, _, rfl, ?_⟩
          refine ite2 (fun hz2 => ?_) (fun hz2 => ?_)
          · have hp : 0 < ns.length := by
              have := of_decide_eq_true hz2
              rw [List.length_map] at this
              omega
            have hg : (ns.map V.int)[(ns.map V.int).length - 1]? = some (.int (ns[ns.length - 1])) := by
              rw [List.length_map, List.getElem?_map, List.getElem?_eq_getElem (by omega)]
              rfl
            refine ⟨_, rfl, d, _, rfl, g_left hd, .inl ⟨rfl, _, SqL.of hl⟩, l, _, _, rfl, rfl, hl, hg, _, rfl, d, _, rfl, p_number (by rw [upd_ne ndl]; exact hd), ?_⟩
            have e2 : (ns.map V.int).dropLast = ns.dropLast.map V.int := by rw [List.map_dropLast]
            refine ⟨⟨rfl, ⟨⟨s0, _, ns.dropLast, upd_same, by rw [upd_ne ndl.symm, upd_same, e2], hs0, hs1⟩⟩, kp.l.d⟩, ?_⟩
            rw [upd_ne ndl.symm, upd_same, hl]
            show (ns.map V.int).dropLast.length < (ns.map V.int).length
            rw [List.length_dropLast, List.length_map]
            omega
          · exact hD' _ _ ⟨rfl, D1, kp⟩
        · refine iteF ?_
          exact hD' _ _ ⟨rfl, D1, kp⟩
      · intro σ H1 Q1 Q2 hq hc
        obtain ⟨x, e1, a, v, e2, hg, sc, b1, eb, hc⟩ := hc
        refine ⟨x, e1, a, v, e2, hg, sc, b1, eb, ?_⟩
        revert hc
        cases b1 with
        | false => exact fun hc => hq _ _ hc
        | true =>
          intro hc
          obtain ⟨x2, e3, a2, v2, e4, hg2, p, ys, e5, sq, i1, j1, e6, e7, k1, e8, hc⟩ := hc
          exact ⟨x2, e3, a2, v2, e4, hg2, p, ys, e5, sq, i1, j1, e6, e7, k1, e8, hq _ _ hc⟩
    · rintro σ H1 ⟨rfl, D1, kp⟩
      obtain ⟨s0, n, ns, hd, hl, hs0, hs1⟩ := id D1
      have ndl : d ≠ l := ne_of hd hl (by intro z; cases z)
      refine ⟨_, rfl, d, _, rfl, g_number hd, _, rfl, _, _, rfl, rfl, _, rfl, ?_⟩
      refine ite2 (fun hz => ?_) (fun hz => ?_)
      · have h63 : 0 < m := hm
        refine ⟨_, rfl, _, rfl, _, _, rfl, rfl, wide_div hm hb (by decide) (by decide), _, rfl, d, _, rfl, p_number hd, ?_⟩
        refine ⟨_, rfl, _, rfl, _, _, rfl, rfl, hm, ?_⟩
        exact k _ _ (Int.emod_nonneg _ (by omega)) (Int.emod_lt_of_pos _ hm) ⟨⟨s0, _, ns, upd_same, by rw [upd_ne ndl.symm]; exact hl, hs0, hs1⟩⟩ kp.d
      · -- the seed turns
        have r1 : ∀ (x y : Int), 0 < y → 0 ≤ x % y ∧ x % y < y := fun x y hy => ⟨Int.emod_nonneg _ (by omega), Int.emod_lt_of_pos _ hy⟩
        have ha1 := r1 (s0 * 48271 + 7919) 2147483647 (by decide)
        have hb1 := r1 ((s0 * 48271 + 7919) % 2147483647 * 40692 + 104729) 2147483399 (by decide)
        have q := r1 ((s0 * 48271 + 7919) % 2147483647 * ((s0 * 48271 + 7919) % 2147483647)) 2147483629 (by decide)
        refine ⟨_, rfl, d, _, rfl, g_seed hd, _, _, rfl, rfl, .inl ⟨by omega, by omega⟩, _, _, rfl, rfl, _, _, rfl, rfl, (by show (0 : Int) < 2147483647; decide), ?_⟩
        refine ⟨_, rfl, _, _, rfl, rfl, .inl ⟨by omega, by omega⟩, _, _, rfl, rfl, _, _, rfl, rfl, (by show (0 : Int) < 2147483399; decide), ?_⟩
        refine ⟨_, rfl, d, _, rfl, p_seed hd, ?_⟩
        refine ⟨_, rfl, d, _, rfl, g_seed upd_same, _, rfl, d, _, rfl, g_seed upd_same, _, _, rfl, rfl, .inl ⟨by omega, by omega⟩, _, _, rfl, rfl, (by show (0 : Int) < 2147483563; decide), ?_⟩
        refine ⟨_, rfl, _, rfl, _, _, rfl, rfl, .inl ⟨by omega, by omega⟩, _, _, rfl, rfl, (by show (0 : Int) < 2147483629; decide), _, _, rfl, rfl, .inl ⟨by omega, by omega⟩, _, rfl, _, _, rfl, rfl, _, rfl, _, _, rfl, rfl, hm, ?_⟩
        exact k _ _ (Int.emod_nonneg _ (by omega)) (Int.emod_lt_of_pos _ hm) ⟨⟨_, n, ns, upd_same, by rw [upd_ne ndl.symm]; exact hl, hb1.1, by omega⟩⟩ kp.d
end
end My

set_option Elab.async false
set_option linter.all false
set_option maxRecDepth 100000
set_option maxHeartbeats 1000000
namespace My
open PySem L2 MyR
/-- a new source of draws from the script -/
def spDeal (K : PySem.W.Frag) : Sp := fun vs H Q _ => ∃ (a : Addr) (ns : List Int), vs = [.ref a, .int 0] ∧ SqL K H a (ns.map V.int) ∧ ns.length ≤ 63 ∧
  ∀ (d l : Addr) (H' : Hp), H d = none → H l = none → Same H H' → Deal H' d l → Q (.ref d) H'
theorem cut_ints (ns : List Int) (lo hi : Option Int) : ∃ ms : List Int, cutV (ns.map V.int) lo hi = ms.map V.int ∧ ms.length ≤ ns.length := by
  unfold cutV
  rw [← List.map_drop, ← List.map_take]
  refine ⟨_, rfl, ?_⟩
  rw [List.length_take, List.length_drop]
  omega
theorem get_int {ms : List Int} {i : Nat} {x : V} (h : (ms.map V.int)[i]? = some x) : ∃ z, x = V.int z ∧ i < ms.length := by
  rw [List.getElem?_map] at h
  cases e : ms[i]? with
  | none => rw [e] at h; cases h
  | some z =>
    rw [e] at h
    exact ⟨z, (Option.some.inj h).symm, (List.getElem?_eq_some_iff.mp e).1⟩
theorem small63 {n : Nat} (h : n ≤ 63) : n < sizeLine := small1000 (by omega)
section
variable {P : Program} {w : World} {K : PySem.W.Frag} {mg : Str → Option Value} {base : Heap}
abbrev s_law_deal : Stmt := top 33
abbrev N_law_deal : List Str := ["_law_script", "_law_base", "_law_cells", "_law_cell", "_law_number_here"]
theorem sc_law_deal : FnScope N_law_deal ["_law_script", "_law_base"] (defScope s_law_deal) := ⟨rfl, rfl, rfl, by decide +kernel, rfl, by decide +kernel, by decide +kernel⟩
theorem ok_law_deal {f : Addr} {fd : FuncData} (F : Fun K "_law_deal" "_law_deal" s_law_deal f fd) (T : Glob mg) : FnOk P w K mg base CX0 1 f fd ["_law_script", "_law_base"] (spDeal K) := by
  refine F.ok sc_law_deal (fun vs H Q E h => ?_) (fun cdv A outer s H vs Q E hr h => ?_)
  · obtain ⟨a, ns, rfl, _⟩ := h
    rfl
  · obtain ⟨a, ns, rfl, hS, hlen, k⟩ := h
    have hu := hu_of hr
    have nd := sc_law_deal.nd
    refine ⟨_, (pss_cons (ps_setLc (i := 2) (own := [("_law_cell", 3)]) (g := gName 3) (tt := tYes) rfl nd rfl rfl (sw_true rfl rfl rfl (by decide +kernel)) (pi_list (pe_slice sl_list (pv 0) (po_some (pv 1)) (po_some pe_int))) (blkOk_by (N := N_law_deal) (sc := defScope s_law_deal) (by decide +kernel)) (fun _ _ _ _ _ => pg_name (i := 3) nd rfl (Or.inl rfl)) (fun _ _ _ _ _ => pts_nil) (fun _ _ _ _ _ => (pe_callB (call_max2 rfl) (by rfl) T.g_max (by decide +kernel) (pa_cons (pv 3) (pa_cons (pe_op op_sub pe_int (pv 3)) pa_nil)))))
    (pss_cons (ps_set (i := 4) nd rfl (Or.inl rfl) (pe_op op_add pe_int (pv 1)))
    (pss_cons (ps_for PassesOwn.never rfl (pi_list (pv 2)) (pg_name (i := 3) nd rfl (Or.inl rfl))
    (pss_one (ps_set (i := 4) nd rfl (Or.inl rfl) (pe_op op_mod (pe_op op_add (pe_op op_mul (pv 4) pe_int) (pe_op op_mod (pv 3) pe_int)) pe_int))))
    (pss_one (ps_ret (pe_disp (pps_cons pe_str (pv 4) (pps_cons pe_str pe_int (pps_cons pe_str (pe_lstRev rfl (by rfl) T.g_list (by rfl) T.g_reversed (pe_lc (own := [("_law_cell", 3)]) (g := gName 3) rfl nd (pi_list (pv 2)) (blkOk_by (N := N_law_deal) (sc := defScope s_law_deal) (by decide +kernel)) (fun _ _ _ _ _ => pg_name (i := 3) nd rfl (Or.inl rfl)) (fun _ _ _ _ _ => pts_one (pt_cmpR op_ge (pv 3) (pe_op op_pow pe_int pe_int) (nomark _))) (fun _ _ _ _ _ => (pv 3)))) pps_nil))) (by rfl) (by rfl) (fun z => by cases z) (by decide))))))), ?_⟩
    -- the cells
    refine ⟨_, rfl, _, rfl, _, rfl, _, rfl, a, _, rfl, hS, fun sl hsl => ?_⟩
    obtain ⟨ms, em, hml⟩ := cut_ints ns (some 0) (some 63)
    rw [em]
    refine ⟨sl, rfl, ⟨_, SqL.of upd_same⟩, fun D hD => ?_⟩
    have nDs : sl ≠ D := fun e => by rw [e, upd_same] at hD; cases hD
    have hD0 : H D = none := by rw [← upd_ne (H := H) (Ne.symm nDs)]; exact hD
    refine lc_list (K := K) (a := sl) (xs := ms.map V.int) (fun i H1 => Same H H1 ∧ H1 sl = some (.lst (ms.map V.int)) ∧ ∃ acc : List Int, H1 D = some (.lst (acc.map V.int)) ∧ acc.length = i)
      ⟨fun b o e => by rw [upd_ne (ne_of_none e hD0), upd_ne (ne_of_none e hsl)]; exact e, by rw [upd_ne nDs, upd_same], [], upd_same, rfl⟩ (fun i H1 _ ⟨_, h1, _⟩ => SqL.of h1) ?_ ?_
    · rintro i x H1 hx ⟨sm, h1, acc, h2, hl⟩
      obtain ⟨z, rfl, hi⟩ := get_int hx
      refine ⟨rfl, ?_⟩
      refine ⟨_, rfl, _, rfl, _, _, rfl, rfl, ?_⟩
      refine ⟨_, _, rfl, ?_⟩
      refine ⟨acc.map V.int, h2, by rw [List.length_map]; exact small63 (by omega), fun b o e => ?_, ?_, ?_⟩
      · rw [upd_ne (ne_of_none e hD0)]; exact sm b o e
      · rw [upd_ne nDs]; exact h1
      · refine ⟨acc ++ [if 0 - z > z then 0 - z else z], ?_, by rw [List.length_append, hl]; rfl⟩
        rw [upd_same, List.map_append]
        rfl
    · rintro H1 ⟨sm, h1, cs, h2, hl⟩
      rw [List.length_map] at hl
      refine ⟨_, rfl, _, _, rfl, rfl, ?_⟩
      refine ⟨_, rfl, D, rfl, ⟨_, SqL.of h2⟩, ?_⟩
      refine for_list (K := K) (a := D) (xs := cs.map V.int) (fun i σ H2 => ∃ (v : Option V) (t : Int), σ = [some (.ref a), some (.int 0), some (.ref D), v, some (.int t)] ∧ 0 ≤ t ∧ t < 2147483648 ∧ H2 = H1)
        ⟨none, 6143, rfl, by decide, by decide, rfl⟩ (fun i σ H2 _ ⟨_, _, _, _, _, e⟩ => by rw [e]; exact SqL.of h2) ?_ ?_
      · rintro i x σ H2 hx ⟨v, t, rfl, t0, t1, rfl⟩
        obtain ⟨z, rfl, hi⟩ := get_int hx
        refine ⟨_, rfl, _, _, rfl, rfl, .inl ⟨by omega, by omega⟩, _, rfl, _, _, rfl, rfl, (by show (0 : Int) < 2147483629; decide), _, _, rfl, rfl, _, _, rfl, rfl, (by show (0 : Int) < 2147483647; decide), ?_⟩
        refine ⟨_, _, rfl, Int.emod_nonneg _ (by decide), ?_, rfl⟩
        have := Int.emod_lt_of_pos (t * 69621 + z % 2147483629) (show (0 : Int) < 2147483647 by decide)
        omega
      · rintro σ H2 ⟨v, t, rfl, t0, t1, rfl⟩
        -- the dict
        intro d hd
        have nDd : D ≠ d := ne_of_none h2 hd
        refine ⟨_, rfl, ?_⟩
        refine ⟨_, rfl, D, rfl, ⟨_, SqL.of (by rw [upd_ne nDd]; exact h2)⟩, fun L hL => ?_⟩
        have nLd : d ≠ L := fun e => by rw [e, upd_same] at hL; cases hL
        have hL0 : H2 L = none := by rw [← upd_ne (H := H2) (Ne.symm nLd)]; exact hL
        have nDL : D ≠ L := ne_of_none h2 hL0
        refine lc_list (K := K) (a := D) (xs := cs.map V.int) (fun i H3 => Same H2 H3 ∧ H3 d = some (.dK []) ∧ ∃ acc : List Int, H3 L = some (.lst (acc.map V.int)) ∧ acc.length ≤ i)
          ⟨fun b o e => by rw [upd_ne (ne_of_none e hL0), upd_ne (ne_of_none e hd)]; exact e, by rw [upd_ne nLd, upd_same], [], upd_same, Nat.le_refl _⟩ (fun i H3 _ ⟨sm3, _, _⟩ => SqL.of (sm3 _ _ h2)) ?_ ?_
        · rintro i x H3 hx ⟨sm3, hd3, acc, h3, hl3⟩
          obtain ⟨z, rfl, hi⟩ := get_int hx
          refine ⟨rfl, ?_⟩
          refine ⟨_, rfl, _, _, rfl, rfl, ⟨by decide, by decide, by decide⟩, _, _, rfl, rfl, _, rfl, ?_⟩
          have go : ∀ (zs : List Int), zs.length ≤ i + 1 → ∀ H4, H4 = upd H3 L (.lst (zs.map V.int)) → Same H2 H4 ∧ H4 d = some (.dK []) ∧ ∃ acc : List Int, H4 L = some (.lst (acc.map V.int)) ∧ acc.length ≤ i + 1 := fun zs hz H4 e4 => by
            subst e4
            refine ⟨fun b o e => ?_, by rw [upd_ne nLd]; exact hd3, zs, upd_same, hz⟩
            rw [upd_ne (ne_of_none e hL0)]
            exact sm3 b o e
          refine ite2 (fun _ => ?_) (fun _ => ?_)
          · refine ⟨_, rfl, acc.map V.int, h3, by rw [List.length_map]; exact small63 (by omega), ?_⟩
            refine go (acc ++ [z]) (by rw [List.length_append]; exact Nat.succ_le_succ hl3) _ ?_
            rw [List.map_append]
            rfl
          · exact ⟨sm3, hd3, acc, h3, Nat.le_succ_of_le hl3⟩
        · rintro H3 ⟨sm3, hd3, acc, h3, hl3⟩
          refine ⟨L, _, rfl, SqL.of h3, fun R hR => ?_⟩
          have nRd : d ≠ R := ne_of_none hd3 hR
          refine ⟨by rw [upd_ne nRd]; exact hd3, dKV t 0 R, rfl, (by show 3 ≤ 15; decide), ?_⟩
          rw [d_merge]
          have hR2 : H2 R = none := sm3.free hR
          refine k d R _ (sm.free hd) (sm.free hR2) (fun b o e => ?_) ⟨⟨t, 0, acc.reverse, upd_same, ?_, t0, t1⟩⟩
          · have e2 := sm b o e
            rw [upd_ne (ne_of_none e2 hd), upd_ne (ne_of_none e2 hR2)]
            exact sm3 b o e2
          · rw [upd_ne (Ne.symm nRd), upd_same, List.map_reverse]
end
end My

set_option Elab.async false
set_option linter.all false
set_option maxRecDepth 100000
set_option maxHeartbeats 1000000
namespace My
open PySem L2
/-! ### words as lists of signs -/
def keptL : List (List Nat) := [[102, 117, 110, 99, 116, 105, 111, 110], [108, 101, 116], [114, 101, 112, 101, 97, 116], [98, 121], [116, 105, 109, 101, 115], [103, 105, 118, 101], [104, 97, 108, 102], [111, 118, 101, 114], [116, 111], [105, 102], [109, 111, 100], [105, 115], [116, 104, 101, 110], [101, 108, 115, 101]]
def wd (l : List Nat) : Str := ⟨l.toArray⟩
abbrev abc : Str := "abcdefghijklmnopqrstuvwxyz"
abbrev keptT : Str := "function let repeat by times give half over to if mod is then else"
theorem kept_split : Txt.split keptT " " = keptL.map wd := by decide +kernel
theorem kept_len : keptT.length + 2 ≤ sizeLine := by decide +kernel
theorem abc_list : abc.cps.toList = (List.range 26).map (· + 97) := by decide +kernel
theorem abc_len : abc.length ≤ sizeLine := by decide +kernel
theorem abc_at {i : Int} (h0 : 0 ≤ i) (h1 : i < 26) : atI abc.cps.toList i = some (i.toNat + 97) := by
  obtain ⟨j, rfl⟩ : ∃ j : Nat, i = (j : Int) := ⟨i.toNat, by omega⟩
  refine atI_nat ?_
  rw [abc_list, List.getElem?_map, List.getElem?_range (by omega)]
  rfl
theorem wd_one (c : Nat) : (⟨#[c]⟩ : Str) = wd [c] := rfl
theorem wd_add (a b : List Nat) : wd a ++ wd b = wd (a ++ b) := by
  show (⟨a.toArray ++ b.toArray⟩ : Str) = ⟨(a ++ b).toArray⟩
  rw [List.append_toArray]
theorem wd_len (l : List Nat) : (wd l).length = l.length := by simp [wd, Str.length]
theorem wd_inj {a b : List Nat} (h : wd a = wd b) : a = b := by
  have e := congrArg (fun s : Str => s.cps.toList) h
  exact e
theorem wd_cps (l : List Nat) : (wd l).cps.toList = l := rfl
theorem wd_of (z : Str) : wd z.cps.toList = z := by
  cases z
  simp [wd]
theorem glue_fold : ∀ (l : List Nat) (a : List Nat), (l.map fun c => wd [c]).foldl (fun (acc : Array Nat) (p : Str) => acc ++ (wd []).cps ++ p.cps) a.toArray = (a ++ l).toArray
  | [], a => by simp
  | c :: l, a => by
    rw [List.map_cons, List.foldl_cons]
    have e : a.toArray ++ (wd []).cps ++ (wd [c]).cps = (a ++ [c]).toArray := by simp [wd]
    rw [e, glue_fold l (a ++ [c])]
    simp
theorem join_ones (l : List Nat) : Txt.join (Str.ofString "") (l.map fun c => wd [c]) = wd l := by
  have e0 : Str.ofString "" = wd [] := by decide +kernel
  rw [e0]
  unfold Txt.join Builtin.Str.glued
  cases l with
  | nil => rfl
  | cons c l =>
    show (⟨(l.map fun c => wd [c]).foldl (fun (acc : Array Nat) (p : Str) => acc ++ (wd []).cps ++ p.cps) [c].toArray⟩ : Str) = wd (c :: l)
    rw [glue_fold]
    rfl
theorem cut_wd (l : List Nat) (lo hi : Option Int) : cutS (wd l) lo hi = wd ((l.drop (HT.sIx l.length 0 lo)).take (HT.sIx l.length l.length hi - HT.sIx l.length 0 lo)) := by
  unfold cutS
  rw [wd_cps, wd_len]
  rfl
theorem cut_from1 (l : List Nat) : cutS (wd l) (some 1) none = wd (l.drop 1) := by
  rw [cut_wd, HT.sIx_none, show (some (1 : Int)) = some (((1 : Nat) : Int)) from rfl, HT.sIx_nat]
  cases l with
  | nil => rfl
  | cons c l =>
    have e : min 1 (c :: l).length = 1 := by rw [List.length_cons]; omega
    rw [e]
    congr 1
    rw [List.take_of_length_le (by rw [List.length_drop]; omega)]
theorem cut_to (l : List Nat) (n : Nat) : cutS (wd l) none (some (n : Int)) = wd (l.take n) := by
  rw [cut_wd, HT.sIx_none, HT.sIx_nat, List.drop_zero, Nat.sub_zero]
  congr 1
  by_cases h : n ≤ l.length
  · rw [Nat.min_eq_left h]
  · rw [Nat.min_eq_right (by omega), List.take_of_length_le (Nat.le_refl _), List.take_of_length_le (by omega)]
def isNm (l : List Nat) : Bool := decide (1 ≤ l.length) && decide (l.length ≤ 8) && (l.all fun c => decide (97 ≤ c) && decide (c ≤ 122)) && !keptL.contains l
theorem in_kept {l : List Nat} : inV (.str (wd l)) ((keptL.map wd).map V.str) = keptL.contains l := by
  unfold inV
  rw [List.map_map, List.any_map]
  generalize keptL = ks
  induction ks with
  | nil => rfl
  | cons k ks ih =>
    rw [List.any_cons, List.contains_cons, ih]
    congr 1
    show (wd k == wd l) = (l == k)
    by_cases h : l = k
    · subst h; simp
    · have h2 : ¬ wd k = wd l := fun e => h (wd_inj e).symm
      rw [beq_eq_false_iff_ne.mpr h2, beq_eq_false_iff_ne.mpr h]
theorem kept_flat : ((keptL.map wd).map V.str).all flatV = true := by decide +kernel
end My

set_option Elab.async false
set_option linter.all false
set_option maxRecDepth 100000
set_option maxHeartbeats 1000000
namespace My
open PySem L2 MyR
/-- a def as its callers know it -/
structure Df (P : Program) (w : World) (K : PySem.W.Frag) (mg : Str → Option Value) (base : Heap) (k : Nat) (x : Str) (ps : List Str) (sp : Sp) where
  f : Addr
  fd : FuncData
  ok : FnOk P w K mg base CX0 k f fd ps sp
  g : mg x = some (.ref f)
  kp : PySem.W.keepIn K (.ref f) = true
  b : Binds K fd ps []
/-- the objects of the deal are no others -/
theorem Deal.ne {H : Hp} {d l b : Addr} {xs : List V} (D : Deal H d l) (h : H b = some (.lst xs)) : b ≠ d := by
  obtain ⟨s, n, ns, hd, hl, _⟩ := D.ex
  exact ne_of h hd (by intro z; cases z)
theorem Deal.new {H : Hp} {d l p : Addr} {o : HO} (D : Deal H d l) (h : H p = none) : Deal (upd H p o) d l := by
  obtain ⟨s, n, ns, hd, hl, r⟩ := D.ex
  exact ⟨⟨s, n, ns, by rw [upd_ne (ne_of_none hd h)]; exact hd, by rw [upd_ne (ne_of_none hl h)]; exact hl, r⟩⟩
theorem Deal.other {H : Hp} {d l p : Addr} {o : HO} (D : Deal H d l) (h1 : p ≠ d) (h2 : p ≠ l) : Deal (upd H p o) d l := by
  obtain ⟨s, n, ns, hd, hl, r⟩ := D.ex
  exact ⟨⟨s, n, ns, by rw [upd_ne (Ne.symm h1)]; exact hd, by rw [upd_ne (Ne.symm h2)]; exact hl, r⟩⟩
theorem Deal.free {H : Hp} {d l p : Addr} (D : Deal H d l) (h : H p = none) : p ≠ d ∧ p ≠ l := by
  obtain ⟨s, n, ns, hd, hl, r⟩ := D.ex
  exact ⟨Ne.symm (ne_of_none hd h), Ne.symm (ne_of_none hl h)⟩
theorem Kept.new {d l p : Addr} {H H1 : Hp} {o : HO} (a : Kept d l H H1) (h : H p = none) : Kept d l H (upd H1 p o) := fun c u e h1 h2 => by rw [upd_ne (ne_of_none e h)]; exact a c u e h1 h2
theorem Kept.seq {K : PySem.W.Frag} {d l a : Addr} {H H1 : Hp} {xs : List V} (k : Kept d l H H1) (h : SqL K H a xs) (h1 : a ≠ d) (h2 : a ≠ l) : SqL K H1 a xs := by
  rcases h with (h | ⟨o, h⟩) | h
  · exact .inl (.inl (k _ _ h h1 h2))
  · exact .inl (.inr ⟨o, k _ _ h h1 h2⟩)
  · exact .inr h
theorem same_kept {d l : Addr} {H H1 : Hp} (h : Same H H1) : Kept d l H H1 := fun b o e _ _ => h b o e
theorem perm_erase {α : Type} : ∀ (l : List α) (j : Nat) (h : j < l.length), (l[j] :: l.eraseIdx j).Perm l
  | [], j, h => by simp at h
  | x :: l, 0, h => by simp
  | x :: l, j + 1, h => by
    have hj : j < l.length := by simpa using h
    have e := perm_erase l j hj
    simp only [List.getElem_cons_succ, List.eraseIdx_cons_succ]
    exact (List.Perm.swap _ _ _).trans (e.cons x)
/-- the items in some order, a new list -/
def spMixed (K : PySem.W.Frag) : Sp := fun vs H Q _ => ∃ (d l a : Addr) (xs : List V), vs = [.ref d, .ref a] ∧ Deal H d l ∧ SqL K H a xs ∧ xs.length ≤ 64 ∧
  ∀ (p : Addr) (ys : List V) (H' : Hp), H p = none → ys.Perm xs → Deal H' d l → Kept d l H H' → H' p = some (.lst ys) → Q (.ref p) H'
section
variable {P : Program} {w : World} {K : PySem.W.Frag} {mg : Str → Option Value} {base : Heap}
abbrev s_law_mixed : Stmt := top 35
abbrev N_law_mixed : List Str := ["_law_deal_here", "_law_items", "_law_left", "_law_found", "_law_turn"]
theorem sc_law_mixed : FnScope N_law_mixed ["_law_deal_here", "_law_items"] (defScope s_law_mixed) := ⟨rfl, rfl, rfl, by decide +kernel, rfl, by decide +kernel, by decide +kernel⟩
theorem ok_law_mixed {f : Addr} {fd : FuncData} (F : Fun K "_law_mixed" "_law_mixed" s_law_mixed f fd) (T : Glob mg) (D_law_draw : Df P w K mg base 1 "_law_draw" ["_law_deal_here", "_law_many"] spDraw) :
    FnOk P w K mg base CX0 2 f fd ["_law_deal_here", "_law_items"] (spMixed K) := by
  refine F.ok sc_law_mixed (fun vs H Q E h => ?_) (fun cdv A outer s H vs Q E hr h => ?_)
  · obtain ⟨d, l, a, xs, rfl, _⟩ := h
    rfl
  · obtain ⟨d, l, a, xs, rfl, D, hS, hlen, k⟩ := h
    have hu := hu_of hr
    have nd := sc_law_mixed.nd
    refine ⟨_, (pss_cons (ps_par (i := 2) (j := 3) rfl nd rfl rfl (by decide) rfl rfl (pa_cons (pe_callTy call_list_of (by rfl) T.g_list (by decide +kernel) (pa_cons (pv 1) pa_nil)) (pa_cons (pe_lst pa_nil) pa_nil)) (by rfl))
    (pss_cons (ps_for PassesOwn.never rfl (pi_range1 (by rfl) T.g_range (pa_cons (pe_callB call_len_seq (by rfl) T.g_len PySem.boot_len (pa_cons (pv 2) pa_nil)) pa_nil)) (pg_name (i := 4) nd rfl (Or.inl rfl))
    (pss_one (ps_expr (pe_bm PySem.F.plainAttrs_list PySem.F.slot_list_append PySem.F.type_list_append mt_append (pv 3) (pa_cons (pe_bm PySem.F.plainAttrs_list PySem.F.slot_list_pop PySem.F.type_list_pop mt_popAt (pv 2) (pa_cons (pe_call D_law_draw.ok (hr.mono (by decide)) (by rfl) D_law_draw.g D_law_draw.kp D_law_draw.b .nil pass0 (pa_cons (pv 0) (pa_cons (pe_callB call_len_seq (by rfl) T.g_len PySem.boot_len (pa_cons (pv 2) pa_nil)) pa_nil))) pa_nil)) pa_nil)))))
    (pss_one (ps_ret (pv 3))))), ?_⟩
    refine ⟨_, rfl, a, _, rfl, .inl hS, fun p hp => ?_⟩
    refine ⟨(by decide), fun q hq => ?_⟩
    have npq : p ≠ q := fun e => by rw [e, upd_same] at hq; cases hq
    have hq0 : H q = none := by rw [← upd_ne (H := H) (Ne.symm npq)]; exact hq
    refine ⟨_, _, rfl, ?_⟩
    obtain ⟨npd, npl⟩ := D.free hp
    obtain ⟨nqd, nql⟩ := D.free hq0
    refine ⟨_, rfl, p, _, rfl, .inl (SqL.of (by rw [upd_ne npq, upd_same])), xs.length, rfl, by omega, by omega, ?_⟩
    refine for_range (n := xs.length) (fun i σ H1 => ∃ (v : Option V) (us ws : List V), σ = [some (.ref d), some (.ref a), some (.ref p), some (.ref q), v] ∧ Deal H1 d l ∧ Kept d l H H1 ∧ H1 p = some (.lst us) ∧ H1 q = some (.lst ws) ∧ (us ++ ws).Perm xs ∧ ws.length = i)
      ⟨none, xs, [], rfl, (D.new hp).new hq, (Kept.refl.new hp).new hq0, by rw [upd_ne npq, upd_same], upd_same, by rw [List.append_nil], rfl⟩ ?_ (fun σ H1 => ?_)
    · rintro i σ H1 hi ⟨v, us, ws, rfl, D1, kp, hus, hws, pm, hl⟩
      have hln := pm.length_eq
      rw [List.length_append] at hln
      refine ⟨_, rfl, .inl ⟨rfl, _, SqL.of hws⟩, _, rfl, .inl ⟨rfl, _, SqL.of hus⟩, _, rfl, _, rfl, p, _, rfl, .inl (SqL.of hus), d, l, _, rfl, D1, by omega, ?_, fun r H2 r0 r1 D2 kp2 => ?_⟩
      · exact Nat.lt_of_le_of_lt (show ((us.length : Int)).natAbs ≤ 64 by omega) (by decide)
      · obtain ⟨j, rfl⟩ : ∃ j : Nat, r = (j : Int) := ⟨r.toNat, by omega⟩
        have hj : j < us.length := by omega
        have hus2 := kp2 _ _ hus npd npl
        have hws2 := kp2 _ _ hws nqd nql
        refine ⟨p, us, _, j, us[j], rfl, rfl, hus2, by omega, by omega, seqIndex_of (by omega) (by omega), List.getElem?_eq_getElem hj, ?_⟩
        refine ⟨q, ws, _, rfl, rfl, by rw [upd_ne (Ne.symm npq)]; exact hws2, small1000 (by omega), ?_⟩
        refine ⟨_, us.eraseIdx j, ws ++ [us[j]], rfl, ?_, ?_, ?_, upd_same, ?_, by rw [List.length_append, hl]; rfl⟩
        · exact (D2.other npd npl).other nqd nql
        · exact (((kp.trans kp2).new hp).new hq0)
        · rw [upd_ne npq, upd_same]
        · refine List.Perm.trans ?_ pm
          have e1 := perm_erase us j hj
          refine List.Perm.trans ?_ (e1.append_right ws)
          rw [← List.append_assoc]
          exact List.perm_append_comm
    · rintro ⟨v, us, ws, rfl, D1, kp, hus, hws, pm, hl⟩
      have hln := pm.length_eq
      rw [List.length_append] at hln
      have e : us = [] := List.length_eq_zero_iff.mp (by omega)
      subst e
      refine ⟨_, rfl, ?_⟩
      exact k q ws H1 hq0 pm D1 kp hws
end
end My

set_option Elab.async false
set_option linter.all false
set_option maxRecDepth 100000
set_option maxHeartbeats 1000000
namespace My
open PySem L2 MyR

theorem kept_q : ∀ k ∈ keptL, isNm (113 :: k.drop 1) = true := by decide +kernel
def lowL (l : List Nat) : Bool := l.all fun c => decide (97 ≤ c) && decide (c ≤ 122)
theorem lowL_app {a b : List Nat} (ha : lowL a = true) (hb : lowL b = true) : lowL (a ++ b) = true := by
  unfold lowL at *
  rw [List.all_append, ha, hb]
  rfl
theorem nm_of {l : List Nat} (h1 : 1 ≤ l.length) (h8 : l.length ≤ 8) (ha : lowL l = true) (hk : keptL.contains l = false) : isNm l = true := by
  unfold isNm
  rw [hk, decide_eq_true h1, decide_eq_true h8]
  unfold lowL at ha
  rw [ha]
  rfl
theorem any_kept {l : List Nat} (h : keptL.contains l = true) : isNm (113 :: l.drop 1) = true := kept_q l (List.contains_iff_mem.mp h)
theorem low_one {c : Nat} (h0 : 97 ≤ c) (h1 : c ≤ 122) : lowL [c] = true := by
  unfold lowL
  simp [h0, h1]
/-- a name that is none of the words -/
def spAny : Sp := fun vs H Q _ => ∃ (d l : Addr) (c : Nat), vs = [.ref d, .str (wd [c])] ∧ Deal H d l ∧ 97 ≤ c ∧ c ≤ 122 ∧
  ∀ (z : List Nat) (H' : Hp), isNm z = true → Deal H' d l → Kept d l H H' → Q (.str (wd z)) H'
section
variable {P : Program} {w : World} {K : PySem.W.Frag} {mg : Str → Option Value} {base : Heap}
abbrev s_law_any_word : Stmt := top 36
abbrev N_law_any_word : List Str := ["_law_deal_here", "_law_last", "_law_letters", "_law_word", "_law_sign", "_law_kept"]
theorem sc_law_any_word : FnScope N_law_any_word ["_law_deal_here", "_law_last"] (defScope s_law_any_word) := ⟨rfl, rfl, rfl, by decide +kernel, rfl, by decide +kernel, by decide +kernel⟩
theorem ok_law_any_word {f : Addr} {fd : FuncData} (F : Fun K "_law_any_word" "_law_any_word" s_law_any_word f fd) (T : Glob mg) (D_law_draw : Df P w K mg base 1 "_law_draw" ["_law_deal_here", "_law_many"] spDraw) :
    FnOk P w K mg base CX0 2 f fd ["_law_deal_here", "_law_last"] spAny := by
  refine F.ok sc_law_any_word (fun vs H Q E h => ?_) (fun cdv A outer s H vs Q E hr h => ?_)
  · obtain ⟨d, l, c, rfl, _⟩ := h
    rfl
  · obtain ⟨d, l, c, rfl, D, hc0, hc1, k⟩ := h
    have hu := hu_of hr
    have nd := sc_law_any_word.nd
    refine ⟨_, (pss_cons (ps_set (i := 2) nd rfl (Or.inr rfl) pe_str)
    (pss_cons (ps_set (i := 3) nd rfl (Or.inl rfl) (pe_op op_add_str (pe_join pe_str (pe_lc (own := [("_law_sign", 4)]) (g := gName 4) (tt := tYes) rfl nd (pi_range1 (by rfl) T.g_range (pa_cons (pe_call D_law_draw.ok (hr.mono (by decide)) (by rfl) D_law_draw.g D_law_draw.kp D_law_draw.b .nil pass0 (pa_cons (pv 0) (pa_cons pe_int pa_nil))) pa_nil)) (blkOk_by (N := N_law_any_word) (sc := defScope s_law_any_word) (by decide +kernel)) (fun _ _ _ _ _ => pg_name (i := 4) nd rfl (Or.inl rfl)) (fun _ _ _ _ _ => pts_nil) (fun _ _ _ _ _ => (pe_ix ix_str (pv 2) (pe_call D_law_draw.ok (hr.mono (by decide)) (by rfl) D_law_draw.g D_law_draw.kp D_law_draw.b .nil pass0 (pa_cons (pv 0) (pa_cons pe_int pa_nil))) (fun _ _ => rfl))))) (pv 1)))
    (pss_cons (ps_set (i := 5) nd rfl (Or.inl rfl) (pe_split pe_str pe_str))
    (pss_one (ps_ret (pe_ifExp (pt_cmpR op_in_seq (pv 3) (pv 5) (by rfl)) (pe_op op_add_str pe_str (pe_slice sl_str (pv 3) (po_some pe_int) po_none)) (pv 3))))))), ?_⟩
    -- the number of letters
    refine ⟨⟨_, rfl⟩, _, rfl, d, l, _, rfl, D, by decide, by decide, fun r H1 r0 r1 D1 kp1 => ?_⟩
    refine ⟨r, rfl, by omega, by omega, fun L hL => ?_⟩
    obtain ⟨nLd, nLl⟩ := D1.free hL
    refine lc_range (lo := 0) (n := r.toNat) (fun i H2 => ∃ cs : List Nat, H2 L = some (.lst (cs.map fun c => V.str (wd [c]))) ∧ cs.length = i ∧ lowL cs = true ∧ Deal H2 d l ∧ Kept d l H1 H2)
      ⟨[], upd_same, rfl, rfl, D1.new hL, Kept.refl.new hL⟩ ?_ ?_
    · rintro i H2 hi ⟨cs, h2, hl, hlow, D2, kp2⟩
      refine ⟨rfl, ?_⟩
      refine ⟨_, rfl, _, rfl, d, l, _, rfl, D2, by decide, by decide, fun q H3 q0 q1 D3 kp3 => ?_⟩
      refine ⟨abc, q, q.toNat + 97, rfl, rfl, abc_len, abc_at q0 q1, ?_⟩
      refine ⟨_, kp3 _ _ h2 nLd nLl, by rw [List.length_map]; exact small1000 (by omega), cs ++ [q.toNat + 97], ?_, by rw [List.length_append, hl]; rfl, lowL_app hlow (low_one (by omega) (by omega)), D3.other nLd nLl, (kp2.trans kp3).new hL⟩
      rw [upd_same, List.map_append]
      rfl
    · rintro H2 ⟨cs, h2, hl, hlow, D2, kp2⟩
      refine ⟨Str.ofString "", L, cs.map fun c => wd [c], rfl, rfl, .inl (SqL.of (by rw [List.map_map]; exact h2)), ?_, ?_⟩
      · have e : (List.map (fun x : Str => x.length) (cs.map fun c => wd [c])).sum = cs.length := by
          clear h2 hl hlow
          induction cs with
          | nil => rfl
          | cons c cs ih =>
            rw [List.map_cons, List.map_cons, List.sum_cons, ih, wd_len, List.length_cons, List.length_cons]
            simp only [List.length_nil]
            omega
        rw [e, List.length_map, show (Str.ofString "").length = 0 from by decide +kernel]
        omega
      · rw [join_ones]
        refine ⟨_, rfl, wd cs, wd [c], rfl, rfl, by rw [wd_len, wd_len]; exact Nat.le_of_lt (small1000 (by rw [hl]; simp only [List.length_cons, List.length_nil]; omega)), ?_⟩
        rw [wd_add]
        have hlw : lowL (cs ++ [c]) = true := lowL_app hlow (low_one hc0 hc1)
        have h1 : 1 ≤ (cs ++ [c]).length := by rw [List.length_append]; simp only [List.length_cons, List.length_nil]; omega
        have h8 : (cs ++ [c]).length ≤ 8 := by rw [List.length_append]; simp only [List.length_cons, List.length_nil]; omega
        refine ⟨⟨_, rfl⟩, keptT, " ", rfl, rfl, by decide +kernel, kept_len, fun p hp => ?_⟩
        rw [kept_split]
        have kp := kp1.trans kp2
        have D3 := D2.new (o := .lst ((keptL.map wd).map V.str)) hp
        have kpn : Kept d l H (upd H2 p (.lst ((keptL.map wd).map V.str))) := fun b o e x y => by
          have e2 := kp b o e x y
          rw [upd_ne (ne_of_none e2 hp)]
          exact e2
        refine ⟨_, rfl, _, rfl, p, _, rfl, .inl (SqL.of upd_same), rfl, kept_flat, _, rfl, ?_⟩
        refine ite2 (fun hz => ?_) (fun hz => ?_)
        · have hz2 : keptL.contains (cs ++ [c]) = true := by rw [← in_kept]; exact hz
          refine ⟨_, rfl, 1, rfl, _, rfl, by rw [wd_len]; exact Nat.le_of_lt (small1000 (by omega)), ?_⟩
          rw [cut_from1]
          refine ⟨wd [113], wd ((cs ++ [c]).drop 1), by rw [show wd [113] = Str.ofString "q" from by decide +kernel], rfl, by rw [wd_len, wd_len]; exact Nat.le_of_lt (small1000 (by rw [List.length_drop]; simp only [List.length_cons, List.length_nil]; omega)), ?_⟩
          rw [wd_add]
          exact k _ _ (any_kept hz2) D3 kpn
        · have hz2 : keptL.contains (cs ++ [c]) = false := by
            rw [← in_kept]
            cases e : inV (.str (wd (cs ++ [c]))) ((keptL.map wd).map V.str) with
            | false => rfl
            | true => exact absurd e hz
          exact ⟨_, rfl, k _ _ (nm_of h1 h8 hlw hz2) D3 kpn⟩
end
end My

set_option Elab.async false
set_option linter.all false
set_option maxRecDepth 100000
set_option maxHeartbeats 1000000
namespace My
open PySem L2 MyR

/-! ### the forms of names -/
def qxL : List Nat := [113, 120, 122, 106, 107, 119, 118]
def qqL : List Nat := [113, 120, 122, 106, 107, 119, 118, 113]
def fuL : List Nat := [102, 117, 110, 99, 116, 105, 111]
def quL : List Nat := [113, 117, 110, 99, 116, 105, 111]
theorem qx_t : Str.ofString "qxzjkwv" = wd qxL := by decide +kernel
theorem qq_t : Str.ofString "qxzjkwvq" = wd qqL := by decide +kernel
theorem fu_t : Str.ofString "functio" = wd fuL := by decide +kernel
theorem qu_t : Str.ofString "qunctio" = wd quL := by decide +kernel
theorem z_t : Str.ofString "z" = wd [122] := by decide +kernel
theorem nm_letter {c : Nat} (h0 : 97 ≤ c) (h1 : c ≤ 122) : isNm [c] = true := by
  have e : ∀ i < 26, isNm [i + 97] = true := by decide +kernel
  have := e (c - 97) (by omega)
  rwa [show c - 97 + 97 = c from by omega] at this
theorem nm_form1 {c k : Nat} (h0 : 97 ≤ c) (h1 : c ≤ 122) (hk : k < 8) : isNm (([c] ++ qxL).take (k + 1)) = true := by
  have e : ∀ i < 26, ∀ k < 8, isNm (([i + 97] ++ qxL).take (k + 1)) = true := by decide +kernel
  have := e (c - 97) (by omega) k hk
  rwa [show c - 97 + 97 = c from by omega] at this
def f3 (c e : Nat) : List (List Nat) := [[c], [e] ++ [122], [c] ++ ([e] ++ [122]), ([e] ++ [122]) ++ [c], [c] ++ [c], [c] ++ [c] ++ ([e] ++ [122]), [c] ++ ([e] ++ [122]) ++ [c], ([e] ++ [122]) ++ ([e] ++ [122])]
theorem nm_form3 {c e : Nat} (h0 : 97 ≤ c) (h1 : c ≤ 122) (h2 : 97 ≤ e) (h3 : e ≤ 122) : ∀ z ∈ f3 c e, isNm z = true := by
  have q : ∀ i < 26, ∀ j < 26, ((f3 (i + 97) (j + 97)).all isNm) = true := by decide +kernel
  have := q (c - 97) (by omega) (e - 97) (by omega)
  rw [show c - 97 + 97 = c from by omega, show e - 97 + 97 = e from by omega] at this
  exact List.all_eq_true.mp this
theorem nm_low {z : List Nat} (h : isNm z = true) : lowL z = true := by
  unfold isNm at h
  simp only [Bool.and_eq_true] at h
  exact h.1.2
theorem nm_len {z : List Nat} (h : isNm z = true) : 1 ≤ z.length ∧ z.length ≤ 8 := by
  unfold isNm at h
  simp only [Bool.and_eq_true, decide_eq_true_eq] at h
  exact h.1.1
theorem kept8 : ∀ k ∈ keptL, k.length = 8 → k.take 7 = fuL := by decide +kernel
theorem nm8 {l : List Nat} {c : Nat} (hl : l.length = 7) (ha : lowL l = true) (hf : l ≠ fuL) (h0 : 97 ≤ c) (h1 : c ≤ 122) : isNm (l ++ [c]) = true := by
  refine nm_of (by rw [List.length_append, hl]; simp) (by rw [List.length_append, hl]; simp) (lowL_app ha (low_one h0 h1)) ?_
  cases e : keptL.contains (l ++ [c]) with
  | false => rfl
  | true =>
    have m := List.contains_iff_mem.mp e
    have q := kept8 _ m (by rw [List.length_append, hl]; rfl)
    rw [List.take_append_of_le_length (by omega), List.take_of_length_le (by omega)] at q
    exact absurd q hf
theorem fu_no : ∀ j < 7, fuL[j]? ≠ some 113 := by decide +kernel
theorem stem_ne {z : List Nat} (h : z.take 7 ≠ fuL) : (z ++ qqL).take 7 ≠ fuL := fun e => by
  by_cases hl : 7 ≤ z.length
  · rw [List.take_append_of_le_length hl] at e
    exact h e
  · have q : ((z ++ qqL).take 7)[z.length]? = some 113 := by
      rw [List.getElem?_take_of_lt (by omega), List.getElem?_append_right (Nat.le_refl _), Nat.sub_self]
      rfl
    rw [e] at q
    exact fu_no _ (by omega) q
theorem stem_len {z : List Nat} (h : isNm z = true) : ((z ++ qqL).take 7).length = 7 := by
  have := nm_len h
  rw [List.length_take, List.length_append, show qqL.length = 8 from rfl]
  omega
theorem low_take {l : List Nat} {n : Nat} (h : lowL l = true) : lowL (l.take n) = true := by
  unfold lowL at *
  rw [List.all_eq_true] at *
  exact fun x hx => h x (List.mem_of_mem_take hx)
theorem stem_low {z : List Nat} (h : isNm z = true) : lowL ((z ++ qqL).take 7) = true := low_take (lowL_app (nm_low h) (by decide +kernel))
abbrev stL (xs : List (List Nat)) : List V := xs.map fun z => V.str (wd z)
theorem of_strs {xs : List (List Nat)} : ∀ {ys : List V}, (∀ y ∈ ys, y ∈ stL xs) → ∃ zs : List (List Nat), ys = stL zs ∧ ∀ z ∈ zs, z ∈ xs
  | [], _ => ⟨[], rfl, fun z h => by cases h⟩
  | y :: ys, h => by
    obtain ⟨z, hz, rfl⟩ := List.mem_map.mp (h y List.mem_cons_self)
    obtain ⟨zs, rfl, h2⟩ := of_strs fun y hy => h y (List.mem_cons_of_mem _ hy)
    exact ⟨z :: zs, rfl, fun u hu => by
      rcases List.mem_cons.mp hu with e | e
      · rw [e]; exact hz
      · exact h2 u e⟩
theorem Kept.free {d l p : Addr} {H H1 : Hp} (k : Kept d l H H1) (D : Deal H1 d l) (h : H1 p = none) : H p = none := by
  obtain ⟨n1, n2⟩ := D.free h
  cases e : H p with
  | none => rfl
  | some o => rw [k p o e n1 n2] at h; cases h
/-- a list of names in the making -/
def Pc (H : Hp) (d l L : Addr) (i : Nat) (H2 : Hp) : Prop := ∃ zs : List (List Nat), H2 L = some (.lst (stL zs)) ∧ zs.length = i ∧ (∀ z ∈ zs, isNm z = true) ∧ Deal H2 d l ∧ Kept d l H H2
theorem Pc.start {H H1 : Hp} {d l L : Addr} (D : Deal H1 d l) (k : Kept d l H H1) (hL : H1 L = none) : Pc H d l L 0 (upd H1 L (.lst [])) :=
  ⟨[], upd_same, rfl, fun z h => (nomatch h), D.new hL, k.new (k.free D hL)⟩
theorem Pc.add {H H2 : Hp} {d l L : Addr} {i : Nat} {zs : List (List Nat)} {z : List Nat} (h : H2 L = some (.lst (stL zs))) (hl : zs.length = i) (hz : ∀ z ∈ zs, isNm z = true) (D : Deal H2 d l) (k : Kept d l H H2) (hi : i < 100) (n1 : L ≠ d) (n2 : L ≠ l) (hL : H L = none) (e : isNm z = true) :
    ∃ acc, H2 L = some (.lst acc) ∧ acc.length < sizeLine ∧ Pc H d l L (i + 1) (upd H2 L (.lst (acc ++ [V.str (wd z)]))) := by
  refine ⟨_, h, by rw [List.length_map]; exact small1000 (by omega), zs ++ [z], ?_, by rw [List.length_append, hl]; rfl, fun u hu => ?_, D.other n1 n2, k.new hL⟩
  · rw [upd_same]
    unfold stL
    rw [List.map_append]
    rfl
  · rcases List.mem_append.mp hu with q | q
    · exact hz u q
    · rw [List.mem_singleton.mp q]
      exact e
/-- so many names, a new list -/
def spWords : Sp := fun vs H Q _ => ∃ (d l : Addr) (m : Nat), vs = [.ref d, .int m] ∧ Deal H d l ∧ 1 ≤ m ∧ m ≤ 8 ∧
  ∀ (p : Addr) (zs : List (List Nat)) (H' : Hp), H p = none → zs.length = m → (∀ z ∈ zs, isNm z = true) → Deal H' d l → Kept d l H H' → H' p = some (.lst (stL zs)) → Q (.ref p) H'
section
variable {P : Program} {w : World} {K : PySem.W.Frag} {mg : Str → Option Value} {base : Heap}
abbrev s_law_words : Stmt := top 37
abbrev N_law_words : List Str := ["_law_deal_here", "_law_many", "_law_letters", "_law_form", "_law_turn", "_law_found", "_law_k", "_law_stem", "_law_p", "_law_q"]
theorem sc_law_words : FnScope N_law_words ["_law_deal_here", "_law_many"] (defScope s_law_words) := ⟨rfl, rfl, rfl, by decide +kernel, rfl, by decide +kernel, by decide +kernel⟩
theorem ok_law_words {f : Addr} {fd : FuncData} (F : Fun K "_law_words" "_law_words" s_law_words f fd) (T : Glob mg) (D_law_draw : Df P w K mg base 1 "_law_draw" ["_law_deal_here", "_law_many"] spDraw)
    (D_law_any_word : Df P w K mg base 2 "_law_any_word" ["_law_deal_here", "_law_last"] spAny) (D_law_mixed : Df P w K mg base 2 "_law_mixed" ["_law_deal_here", "_law_items"] (spMixed K)) :
    FnOk P w K mg base CX0 3 f fd ["_law_deal_here", "_law_many"] spWords := by
  refine F.ok sc_law_words (fun vs H Q E h => ?_) (fun cdv A outer s H vs Q E hr h => ?_)
  · obtain ⟨d, l, m, rfl, _⟩ := h
    rfl
  · obtain ⟨d, l, m, rfl, D, hm1, hm8, k⟩ := h
    have hu := hu_of hr
    have nd := sc_law_words.nd
    refine ⟨_, (pss_cons (ps_set (i := 2) nd rfl (Or.inr rfl) pe_str)
    (pss_cons (ps_asg (pe_tup (pa_cons (pe_call D_law_draw.ok (hr.mono (by decide)) (by rfl) D_law_draw.g D_law_draw.kp D_law_draw.b .nil pass0 (pa_cons (pv 0) (pa_cons pe_int pa_nil))) (pa_cons (pe_call D_law_draw.ok (hr.mono (by decide)) (by rfl) D_law_draw.g D_law_draw.kp D_law_draw.b .nil pass0 (pa_cons (pv 0) (pa_cons pe_int pa_nil))) pa_nil))) (pg_tup (by rfl) (pgs_cons (pg_name (i := 3) nd rfl (Or.inl rfl)) (pgs_cons (pg_name (i := 4) nd rfl (Or.inr rfl)) pgs_nil))))
    (pss_cons (ps_setLc (i := 5) (own := [("_law_k", 6)]) (g := gName 6) (tt := tYes) rfl nd rfl rfl (sw_true rfl rfl rfl (by decide +kernel)) (pi_range1 (by rfl) T.g_range (pa_cons (pv 1) pa_nil)) (blkOk_by (N := N_law_words) (sc := defScope s_law_words) (by decide +kernel)) (fun _ _ _ _ _ => pg_name (i := 6) nd rfl (Or.inl rfl)) (fun _ _ _ _ _ => pts_nil) (fun _ _ _ _ _ => (pe_call D_law_any_word.ok (hr.mono (by decide)) (by rfl) D_law_any_word.g D_law_any_word.kp D_law_any_word.b .nil pass0 (pa_cons (pv 0) (pa_cons (pe_ix ix_str (pv 2) (pe_op op_mod (pe_op op_add (pv 4) (pe_op op_mul pe_int (pv 6))) pe_int) (fun _ _ => rfl)) pa_nil)))))
    (pss_cons (ps_if (pt_cmpR op_eq (pv 3) pe_int (nomark _))
    (pss_one (ps_setLc (i := 5) (own := [("_law_k", 6)]) (g := gName 6) (tt := tYes) rfl nd rfl rfl (sw_true rfl rfl rfl (by decide +kernel)) (pi_range1 (by rfl) T.g_range (pa_cons (pv 1) pa_nil)) (blkOk_by (N := N_law_words) (sc := defScope s_law_words) (by decide +kernel)) (fun _ _ _ _ _ => pg_name (i := 6) nd rfl (Or.inl rfl)) (fun _ _ _ _ _ => pts_nil) (fun _ _ _ _ _ => (pe_ix ix_str (pv 2) (pe_op op_mod (pe_op op_add (pv 4) (pe_op op_mul pe_int (pv 6))) pe_int) (fun _ _ => rfl)))))
    pss_nil)
    (pss_cons (ps_if (pt_cmpR op_eq (pv 3) pe_int (nomark _))
    (pss_one (ps_setLc (i := 5) (own := [("_law_k", 6)]) (g := gName 6) (tt := tYes) rfl nd rfl rfl (sw_true rfl rfl rfl (by decide +kernel)) (pi_range1 (by rfl) T.g_range (pa_cons (pv 1) pa_nil)) (blkOk_by (N := N_law_words) (sc := defScope s_law_words) (by decide +kernel)) (fun _ _ _ _ _ => pg_name (i := 6) nd rfl (Or.inl rfl)) (fun _ _ _ _ _ => pts_nil) (fun _ _ _ _ _ => (pe_slice sl_str (pe_op op_add_str (pe_ix ix_str (pv 2) (pv 4) (fun _ _ => rfl)) pe_str) po_none (po_some (pe_op op_add (pv 6) pe_int))))))
    pss_nil)
    (pss_cons (ps_if (pt_cmpR op_eq (pv 3) pe_int (nomark _))
    (pss_cons (ps_set (i := 7) nd rfl (Or.inr rfl) (pe_ix ix_list (pe_lst (pa_cons (pe_slice sl_str (pe_op op_add_str (pe_ix ix_list (pv 5) pe_int (fun _ _ => rfl)) pe_str) po_none (po_some pe_int)) (pa_cons pe_str pa_nil))) (pe_callTy call_int1 (by rfl) T.g_int (by decide +kernel) (pa_cons (pe_cmpR op_eq (pe_slice sl_str (pe_ix ix_list (pv 5) pe_int (fun _ _ => rfl)) po_none (po_some pe_int)) pe_str (nomark _)) pa_nil)) (fun _ _ => rfl)))
    (pss_one (ps_setLc (i := 5) (own := [("_law_k", 6)]) (g := gName 6) (tt := tYes) rfl nd rfl rfl (sw_true rfl rfl rfl (by decide +kernel)) (pi_range1 (by rfl) T.g_range (pa_cons (pv 1) pa_nil)) (blkOk_by (N := N_law_words) (sc := defScope s_law_words) (by decide +kernel)) (fun _ _ _ _ _ => pg_name (i := 6) nd rfl (Or.inl rfl)) (fun _ _ _ _ _ => pts_nil) (fun _ _ _ _ _ => (pe_op op_add_str (pv 7) (pe_ix ix_str (pv 2) (pe_op op_mod (pe_op op_add (pv 4) (pe_op op_mul pe_int (pv 6))) pe_int) (fun _ _ => rfl)))))))
    pss_nil)
    (pss_cons (ps_if (pt_cmpR op_eq (pv 3) pe_int (nomark _))
    (pss_cons (ps_par (i := 8) (j := 9) rfl nd rfl rfl (by decide) rfl rfl (pa_cons (pe_ix ix_str (pv 2) (pv 4) (fun _ _ => rfl)) (pa_cons (pe_op op_add_str (pe_ix ix_str (pv 2) (pe_op op_mod (pe_op op_add (pv 4) pe_int) pe_int) (fun _ _ => rfl)) pe_str) pa_nil)) (by rfl))
    (pss_one (ps_set (i := 5) nd rfl (Or.inl rfl) (pe_slice sl_list (pe_lst (pa_cons (pv 8) (pa_cons (pv 9) (pa_cons (pe_op op_add_str (pv 8) (pv 9)) (pa_cons (pe_op op_add_str (pv 9) (pv 8)) (pa_cons (pe_op op_add_str (pv 8) (pv 8)) (pa_cons (pe_op op_add_str (pe_op op_add_str (pv 8) (pv 8)) (pv 9)) (pa_cons (pe_op op_add_str (pe_op op_add_str (pv 8) (pv 9)) (pv 8)) (pa_cons (pe_op op_add_str (pv 9) (pv 9)) pa_nil))))))))) po_none (po_some (pv 1))))))
    pss_nil)
    (pss_one (ps_ret (pe_call D_law_mixed.ok (hr.mono (by decide)) (by rfl) D_law_mixed.g D_law_mixed.kp D_law_mixed.b .nil pass0 (pa_cons (pv 0) (pa_cons (pv 5) pa_nil)))))))))))), ?_⟩
    refine ⟨_, rfl, d, l, _, rfl, D, by decide, by decide, fun fo H1 fo0 fo1 D1 kp1 => ?_⟩
    refine ⟨_, rfl, d, l, _, rfl, D1, by decide, by decide, fun tu H2 tu0 tu1 D2 kp2 => ?_⟩
    refine ⟨(by show 2 ≤ sizeLine; decide), fun tp htp => ?_⟩
    refine ⟨tp, _, rfl, SqT.of upd_same, rfl, ?_⟩
    have D3 := D2.new (o := .tup [V.int fo, V.int tu]) htp
    have kp3 : Kept d l H (upd H2 tp (.tup [V.int fo, V.int tu])) := (kp1.trans kp2).new ((kp1.trans kp2).free D2 htp)
    generalize upd H2 tp (.tup [V.int fo, V.int tu]) = H3 at D3 kp3
    have hlet : ∀ i : Nat, 97 ≤ ((tu + 7 * (0 + (i : Int))) % 26).toNat + 97 ∧ ((tu + 7 * (0 + (i : Int))) % 26).toNat + 97 ≤ 122 := fun i => by
      have := Int.emod_nonneg (tu + 7 * (0 + (i : Int))) (show (26 : Int) ≠ 0 by decide)
      have := Int.emod_lt_of_pos (tu + 7 * (0 + (i : Int))) (show (0 : Int) < 26 by decide)
      omega
    have hat : ∀ i : Nat, atI abc.cps.toList ((tu + 7 * (0 + (i : Int))) % 26) = some (((tu + 7 * (0 + (i : Int))) % 26).toNat + 97) := fun i =>
      abc_at (Int.emod_nonneg _ (by decide)) (Int.emod_lt_of_pos _ (by decide))
    -- the names so far
    refine ⟨_, _, rfl, _, _, rfl, rfl, ?_⟩
    dsimp only
    refine seq_by (fun σ H4 => ∃ (v6 v7 v8 v9 : Option V) (p : Addr), σ = [some (.ref d), some (.int m), some (.str abc), some (.int fo), some (.int tu), some (.ref p), v6, v7, v8, v9] ∧ Pc H d l p m H4) (fun D' hD' => ?_) ?_
    · refine ⟨_, rfl, m, rfl, by omega, by omega, fun L hL => ?_⟩
      obtain ⟨nLd, nLl⟩ := D3.free hL
      refine lc_range (lo := 0) (n := m) (Pc H d l L) (Pc.start D3 kp3 hL) ?_ (fun H4 q => hD' _ _ ⟨none, none, none, none, L, rfl, q⟩)
      rintro i H4 hi ⟨zs, h4, hl, hz, D4, kp4⟩
      refine ⟨rfl, ?_⟩
      refine ⟨_, rfl, _, rfl, _, rfl, _, rfl, _, _, rfl, rfl, .inl ⟨by decide, by decide⟩, _, _, rfl, rfl, _, _, rfl, rfl, (by show (0 : Int) < 26; decide), abc, _, _, rfl, rfl, abc_len, hat i, ?_⟩
      refine ⟨d, l, _, rfl, D4, (hlet i).1, (hlet i).2, fun z H5 nz D5 kp5 => ?_⟩
      exact Pc.add (kp5 _ _ h4 nLd nLl) hl hz D5 (kp4.trans kp5) (by omega) nLd nLl (kp3.free D3 hL) nz
    rintro σ H4 ⟨v6, v7, v8, v9, p, rfl, pc⟩
    clear D3 kp3
    -- the forms
    refine seq_by (fun σ H4 => ∃ (v6 v7 v8 v9 : Option V) (p : Addr), σ = [some (.ref d), some (.int m), some (.str abc), some (.int fo), some (.int tu), some (.ref p), v6, v7, v8, v9] ∧ Pc H d l p m H4) (fun D' hD' => ?_) ?_
    · refine ⟨_, rfl, rfl, _, rfl, ?_⟩
      refine ite2 (fun hz => ?_) (fun hz => hD' _ _ ⟨v6, v7, v8, v9, p, rfl, pc⟩)
      obtain ⟨_, _, _, _, D3, kp3⟩ := pc
      refine ⟨_, rfl, m, rfl, by omega, by omega, fun L hL => ?_⟩
      obtain ⟨nLd, nLl⟩ := D3.free hL
      refine lc_range (lo := 0) (n := m) (Pc H d l L) (Pc.start D3 kp3 hL) ?_ (fun H4 q => hD' _ _ ⟨v6, v7, v8, v9, L, rfl, q⟩)
      rintro i H4 hi ⟨zs, h4, hl, hz, D4, kp4⟩
      refine ⟨rfl, ?_⟩
      refine ⟨_, rfl, _, rfl, _, rfl, _, _, rfl, rfl, .inl ⟨by decide, by decide⟩, _, _, rfl, rfl, _, _, rfl, rfl, (by show (0 : Int) < 26; decide), abc, _, _, rfl, rfl, abc_len, hat i, ?_⟩
      exact Pc.add h4 hl hz D4 kp4 (by omega) nLd nLl (kp3.free D3 hL) (nm_letter (hlet i).1 (hlet i).2)
    rintro σ H4 ⟨v6, v7, v8, v9, p, rfl, pc⟩
    refine seq_by (fun σ H4 => ∃ (v6 v7 v8 v9 : Option V) (p : Addr), σ = [some (.ref d), some (.int m), some (.str abc), some (.int fo), some (.int tu), some (.ref p), v6, v7, v8, v9] ∧ Pc H d l p m H4) (fun D' hD' => ?_) ?_
    · refine ⟨_, rfl, rfl, _, rfl, ?_⟩
      refine ite2 (fun hz => ?_) (fun hz => hD' _ _ ⟨v6, v7, v8, v9, p, rfl, pc⟩)
      obtain ⟨_, _, _, _, D3, kp3⟩ := pc
      refine ⟨_, rfl, m, rfl, by omega, by omega, fun L hL => ?_⟩
      obtain ⟨nLd, nLl⟩ := D3.free hL
      refine lc_range (lo := 0) (n := m) (Pc H d l L) (Pc.start D3 kp3 hL) ?_ (fun H4 q => hD' _ _ ⟨v6, v7, v8, v9, L, rfl, q⟩)
      rintro i H4 hi ⟨zs, h4, hl, hz, D4, kp4⟩
      refine ⟨rfl, ?_⟩
      refine ⟨_, rfl, _, rfl, abc, tu, _, rfl, rfl, abc_len, abc_at tu0 tu1, wd [tu.toNat + 97], wd qxL, rfl, by rw [qx_t], by rw [wd_len, wd_len]; show 1 + 7 ≤ sizeLine; decide, ?_⟩
      refine ⟨_, rfl, _, _, rfl, rfl, _, rfl, _, rfl, by rw [wd_add, wd_len]; exact Nat.le_of_lt (small1000 (by rw [List.length_append]; show 1 + 7 ≤ 1000; decide)), ?_⟩
      rw [wd_add, show (0 : Int) + (i : Int) + 1 = ((i + 1 : Nat) : Int) from by omega, cut_to]
      exact Pc.add h4 hl hz D4 kp4 (by omega) nLd nLl (kp3.free D3 hL) (nm_form1 (by omega) (by omega) (by omega))
    rintro σ H4 ⟨v6, v7, v8, v9, p, rfl, pc⟩
    refine seq_by (fun σ H4 => ∃ (v6 v7 v8 v9 : Option V) (p : Addr), σ = [some (.ref d), some (.int m), some (.str abc), some (.int fo), some (.int tu), some (.ref p), v6, v7, v8, v9] ∧ Pc H d l p m H4) (fun D' hD' => ?_) ?_
    · refine ⟨_, rfl, rfl, _, rfl, ?_⟩
      refine ite2 (fun hz => ?_) (fun hz => hD' _ _ ⟨v6, v7, v8, v9, p, rfl, pc⟩)
      obtain ⟨xs, hxs, hxl, hxn, D3, kp3⟩ := pc
      obtain ⟨z0, xs1, rfl⟩ : ∃ z0 xs1, xs = z0 :: xs1 := by
        cases xs with
        | nil => simp at hxl; omega
        | cons a b => exact ⟨a, b, rfl⟩
      have nz0 := hxn z0 List.mem_cons_self
      have hl0 := nm_len nz0
      have at0 : atI (stL (z0 :: xs1)) 0 = some (V.str (wd z0)) := atI_nat (j := 0) rfl
      -- the stem
      refine ⟨_, rfl, p, _, _, _, rfl, rfl, SqL.of hxs, at0, wd z0, wd qqL, rfl, by rw [qq_t], by rw [wd_len, wd_len]; exact Nat.le_of_lt (small1000 (by show z0.length + 8 ≤ 1000; omega)), ?_⟩
      refine ⟨_, rfl, _, rfl, by rw [wd_add, wd_len]; exact Nat.le_of_lt (small1000 (by rw [List.length_append]; show z0.length + 8 ≤ 1000; omega)), ?_⟩
      rw [wd_add, show (7 : Int) = ((7 : Nat) : Int) from rfl, cut_to]
      refine ⟨(by show 2 ≤ sizeLine; decide), fun q hq => ?_⟩
      have npq : p ≠ q := ne_of_none hxs hq
      refine ⟨_, rfl, p, _, _, _, rfl, rfl, SqL.of (by rw [upd_ne npq]; exact hxs), at0, _, rfl, _, rfl, by rw [wd_len]; exact Nat.le_of_lt (small1000 (by omega)), ?_⟩
      rw [cut_to]
      refine ⟨rfl, .inr ⟨_, rfl, ?_⟩⟩
      obtain ⟨stem, sl, slow, sne, hst⟩ : ∃ stem : List Nat, stem.length = 7 ∧ lowL stem = true ∧ stem ≠ fuL ∧
          atI [V.str (wd ((z0 ++ qqL).take 7)), V.str (Str.ofString "qunctio")] (if decide (V.str (wd (z0.take 7)) = V.str (Str.ofString "functio")) = true then 1 else 0) = some (V.str (wd stem)) := by
        by_cases hf : z0.take 7 = fuL
        · refine ⟨quL, rfl, by decide +kernel, by decide +kernel, ?_⟩
          rw [hf, fu_t, if_pos (decide_eq_true rfl), qu_t]
          exact atI_nat (j := 1) rfl
        · refine ⟨_, stem_len nz0, stem_low nz0, stem_ne hf, ?_⟩
          have hne : ¬ (V.str (wd (z0.take 7)) = V.str (Str.ofString "functio")) := fun e => by
            rw [fu_t] at e
            exact hf (wd_inj (V.str.inj e))
          rw [if_neg (by rw [decide_eq_false hne]; exact Bool.false_ne_true)]
          exact atI_nat (j := 0) rfl
      refine ⟨q, _, _, _, rfl, rfl, SqL.of upd_same, hst, ?_⟩
      have D5 := D3.new (o := .lst [V.str (wd ((z0 ++ qqL).take 7)), V.str (Str.ofString "qunctio")]) hq
      have kp5 : Kept d l H (upd H4 q (.lst [V.str (wd ((z0 ++ qqL).take 7)), V.str (Str.ofString "qunctio")])) := kp3.new (kp3.free D3 hq)
      refine ⟨_, rfl, m, rfl, by omega, by omega, fun L hL => ?_⟩
      obtain ⟨nLd, nLl⟩ := D5.free hL
      refine lc_range (lo := 0) (n := m) (Pc H d l L) (Pc.start D5 kp5 hL) ?_ (fun H4 q => hD' _ _ ⟨v6, _, v8, v9, L, rfl, q⟩)
      rintro i H6 hi ⟨zs, h4, hl, hz, D4, kp4⟩
      refine ⟨rfl, ?_⟩
      refine ⟨_, rfl, _, rfl, _, rfl, _, rfl, _, _, rfl, rfl, .inl ⟨by decide, by decide⟩, _, _, rfl, rfl, _, _, rfl, rfl, (by show (0 : Int) < 26; decide), abc, _, _, rfl, rfl, abc_len, hat i, ?_⟩
      refine ⟨wd stem, wd [_], rfl, rfl, by rw [wd_len, wd_len, sl]; show 7 + 1 ≤ sizeLine; decide, ?_⟩
      rw [wd_add]
      exact Pc.add h4 hl hz D4 kp4 (by omega) nLd nLl (kp5.free D5 hL) (nm8 sl slow sne (hlet i).1 (hlet i).2)
    rintro σ H4 ⟨v6, v7, v8, v9, p, rfl, pc⟩
    refine seq_by (fun σ H4 => ∃ (v6 v7 v8 v9 : Option V) (p : Addr), σ = [some (.ref d), some (.int m), some (.str abc), some (.int fo), some (.int tu), some (.ref p), v6, v7, v8, v9] ∧ Pc H d l p m H4) (fun D' hD' => ?_) ?_
    · refine ⟨_, rfl, rfl, _, rfl, ?_⟩
      refine ite2 (fun hz => ?_) (fun hz => hD' _ _ ⟨v6, v7, v8, v9, p, rfl, pc⟩)
      obtain ⟨xs, hxs, hxl, hxn, D3, kp3⟩ := pc
      have b0 := Int.emod_nonneg (tu + 7) (show (26 : Int) ≠ 0 by decide)
      have b1 := Int.emod_lt_of_pos (tu + 7) (show (0 : Int) < 26 by decide)
      refine ⟨_, rfl, _, rfl, abc, tu, _, rfl, rfl, abc_len, abc_at tu0 tu1, _, rfl, _, rfl, _, _, rfl, rfl, _, _, rfl, rfl, (by show (0 : Int) < 26; decide), abc, _, _, rfl, rfl, abc_len, abc_at b0 b1, ?_⟩
      have hc0 : 97 ≤ tu.toNat + 97 ∧ tu.toNat + 97 ≤ 122 := by omega
      have he0 : 97 ≤ ((tu + 7) % 26).toNat + 97 ∧ ((tu + 7) % 26).toNat + 97 ≤ 122 := by omega
      generalize tu.toNat + 97 = c at hc0
      generalize ((tu + 7) % 26).toNat + 97 = e at he0
      refine ⟨wd [e], wd [122], rfl, by rw [z_t], by rw [wd_len, wd_len]; show 1 + 1 ≤ sizeLine; decide, ?_⟩
      rw [wd_add]
      refine ⟨_, _, rfl, ?_⟩
      have sz : ∀ a b : List Nat, a.length + b.length ≤ 100 → (wd a).length + (wd b).length ≤ sizeLine := fun a b h => by
        rw [wd_len, wd_len]
        exact Nat.le_of_lt (small1000 (by omega))
      refine ⟨_, rfl, _, rfl, _, rfl, _, rfl, wd [c], wd ([e] ++ [122]), rfl, rfl, sz _ _ (by show 1 + 2 ≤ 100; decide), ?_⟩
      refine ⟨_, rfl, _, rfl, wd ([e] ++ [122]), wd [c], rfl, rfl, sz _ _ (by show 2 + 1 ≤ 100; decide), ?_⟩
      refine ⟨_, rfl, _, rfl, wd [c], wd [c], rfl, rfl, sz _ _ (by show 1 + 1 ≤ 100; decide), ?_⟩
      refine ⟨_, rfl, _, rfl, wd [c], wd [c], rfl, rfl, sz _ _ (by show 1 + 1 ≤ 100; decide), _, rfl, wd [c] ++ wd [c], wd ([e] ++ [122]), rfl, rfl, by rw [wd_add]; exact sz _ _ (by show 2 + 2 ≤ 100; decide), ?_⟩
      refine ⟨_, rfl, _, rfl, wd [c], wd ([e] ++ [122]), rfl, rfl, sz _ _ (by show 1 + 2 ≤ 100; decide), _, rfl, wd [c] ++ wd ([e] ++ [122]), wd [c], rfl, rfl, by rw [wd_add]; exact sz _ _ (by show 3 + 1 ≤ 100; decide), ?_⟩
      refine ⟨_, rfl, _, rfl, wd ([e] ++ [122]), wd ([e] ++ [122]), rfl, rfl, sz _ _ (by show 2 + 2 ≤ 100; decide), ?_⟩
      refine ⟨(by show 8 ≤ sizeLine; decide), fun t ht => ?_⟩
      simp only [wd_add]
      refine ⟨_, rfl, m, rfl, t, stL (f3 c e), rfl, SqL.of upd_same, fun r hr2 => ?_⟩
      have ec : cutV (stL (f3 c e)) none (some (m : Int)) = stL ((f3 c e).take m) := by
        unfold cutV
        rw [HT.sIx_none, HT.sIx_nat, List.drop_zero, Nat.sub_zero, show (stL (f3 c e)).length = 8 from rfl, Nat.min_eq_left hm8]
        unfold stL
        rw [List.map_take]
      rw [ec]
      have ht0 := kp3.free D3 ht
      have D5 := D3.new (o := .lst (stL (f3 c e))) ht
      have kp5 : Kept d l H (upd H4 t (.lst (stL (f3 c e)))) := kp3.new ht0
      refine hD' _ _ ⟨v6, v7, _, _, r, rfl, (f3 c e).take m, upd_same, ?_, fun z hz => nm_form3 hc0.1 hc0.2 he0.1 he0.2 z (List.mem_of_mem_take hz), D5.new hr2, kp5.new (kp5.free D5 hr2)⟩
      rw [List.length_take, show (f3 c e).length = 8 from rfl]
      omega
    rintro σ H4 ⟨v6, v7, v8, v9, p, rfl, xs, hxs, hxl, hxn, D3, kp3⟩
    refine ⟨_, rfl, _, rfl, d, l, p, _, rfl, D3, SqL.of hxs, by rw [List.length_map]; omega, fun r ys H5 hr5 pm D5 kp5 h5 => ?_⟩
    obtain ⟨zs, rfl, hzs⟩ := of_strs (xs := xs) (ys := ys) fun y hy => pm.mem_iff.mp hy
    have hlen : zs.length = m := by
      have := pm.length_eq
      rw [List.length_map, List.length_map] at this
      omega
    exact k r zs H5 (kp3.free D3 hr5) hlen (fun z hz => hxn z (hzs z hz)) D5 (kp3.trans kp5) h5
end
end My

set_option Elab.async false
set_option linter.all false
set_option maxRecDepth 100000
set_option maxHeartbeats 1000000
namespace My
open PySem L2 MyR

/-- an integer within the limits -/
def spNum : Sp := fun vs H Q _ => ∃ (d l : Addr), vs = [.ref d] ∧ Deal H d l ∧
  ∀ (z : Int) (H' : Hp), -18446744073709551616 < z → z < 18446744073709551616 → Deal H' d l → Kept d l H H' → Q (.int z) H'
section
variable {P : Program} {w : World} {K : PySem.W.Frag} {mg : Str → Option Value} {base : Heap}
abbrev s_law_number : Stmt := top 38
abbrev N_law_number : List Str := ["_law_deal_here", "_law_some", "_law_number_here"]
theorem sc_law_number : FnScope N_law_number ["_law_deal_here"] (defScope s_law_number) := ⟨rfl, rfl, rfl, by decide +kernel, rfl, by decide +kernel, by decide +kernel⟩
theorem ok_law_number {f : Addr} {fd : FuncData} (F : Fun K "_law_number" "_law_number" s_law_number f fd) (T : Glob mg) (D_law_draw : Df P w K mg base 1 "_law_draw" ["_law_deal_here", "_law_many"] spDraw) :
    FnOk P w K mg base CX0 2 f fd ["_law_deal_here"] spNum := by
  refine F.ok sc_law_number (fun vs H Q E h => ?_) (fun cdv A outer s H vs Q E hr h => ?_)
  · obtain ⟨d, l, rfl, _⟩ := h
    rfl
  · obtain ⟨d, l, rfl, D, k⟩ := h
    have hu := hu_of hr
    have nd := sc_law_number.nd
    refine ⟨_, (pss_cons (ps_set (i := 1) nd rfl (Or.inl rfl) (pe_lst (pa_cons (pe_call D_law_draw.ok (hr.mono (by decide)) (by rfl) D_law_draw.g D_law_draw.kp D_law_draw.b .nil pass0 (pa_cons (pv 0) (pa_cons pe_int pa_nil))) (pa_cons (pe_op op_sub (pe_op op_shl pe_int (pe_call D_law_draw.ok (hr.mono (by decide)) (by rfl) D_law_draw.g D_law_draw.kp D_law_draw.b .nil pass0 (pa_cons (pv 0) (pa_cons pe_int pa_nil)))) (pe_call D_law_draw.ok (hr.mono (by decide)) (by rfl) D_law_draw.g D_law_draw.kp D_law_draw.b .nil pass0 (pa_cons (pv 0) (pa_cons pe_int pa_nil)))) (pa_cons (pe_call D_law_draw.ok (hr.mono (by decide)) (by rfl) D_law_draw.g D_law_draw.kp D_law_draw.b .nil pass0 (pa_cons (pv 0) (pa_cons (pe_op op_shl pe_int pe_int) pa_nil))) pa_nil)))))
    (pss_cons (ps_set (i := 2) nd rfl (Or.inl rfl) (pe_ix ix_list (pe_op op_cat (pv 1) (pe_lst (pa_cons (pe_op op_mul (pe_op op_pow pe_int pe_int) (pe_call D_law_draw.ok (hr.mono (by decide)) (by rfl) D_law_draw.g D_law_draw.kp D_law_draw.b .nil pass0 (pa_cons (pv 0) (pa_cons pe_int pa_nil)))) pa_nil))) (pe_callB (call_max2 rfl) (by rfl) T.g_max (by decide +kernel) (pa_cons pe_int (pa_cons (pe_op op_sub (pe_call D_law_draw.ok (hr.mono (by decide)) (by rfl) D_law_draw.g D_law_draw.kp D_law_draw.b .nil pass0 (pa_cons (pv 0) (pa_cons pe_int pa_nil))) pe_int) pa_nil))) (fun _ _ => rfl)))
    (pss_one (ps_ret (pe_ix ix_list (pe_lst (pa_cons (pv 2) (pa_cons (pe_op op_sub pe_int (pv 2)) pa_nil))) (pe_call D_law_draw.ok (hr.mono (by decide)) (by rfl) D_law_draw.g D_law_draw.kp D_law_draw.b .nil pass0 (pa_cons (pv 0) (pa_cons pe_int pa_nil))) (fun _ _ => rfl)))))), ?_⟩
    refine ⟨_, rfl, d, l, _, rfl, D, by decide, by decide, fun a H1 a0 a1 D1 kp1 => ?_⟩
    refine ⟨_, rfl, d, l, _, rfl, D1, by decide, by decide, fun b H2 b0 b1 D2 kp2 => ?_⟩
    refine ⟨_, _, rfl, rfl, ⟨by omega, by omega, by decide⟩, ?_⟩
    refine ⟨_, rfl, d, l, _, rfl, D2, by decide, by decide, fun e H3 e0 e1 D3 kp3 => ?_⟩
    refine ⟨_, _, rfl, rfl, ?_⟩
    refine ⟨_, rfl, _, _, rfl, rfl, ⟨by decide, by decide, by decide⟩, d, l, _, rfl, D3, by decide, by decide, fun c H4 c0 c1 D4 kp4 => ?_⟩
    refine ⟨(by show 3 ≤ sizeLine; decide), fun p hp => ?_⟩
    have kpA := ((kp1.trans kp2).trans kp3).trans kp4
    have hp0 := kpA.free D4 hp
    obtain ⟨npd, npl⟩ := D4.free hp
    have hb : ∀ j < 64, (0 : Int) ≤ 1 * 2 ^ j - e ∧ 1 * 2 ^ j - e < 18446744073709551616 := fun j hj => by
      have q : ∀ j < 64, (1 : Int) ≤ 2 ^ j ∧ (2 : Int) ^ j ≤ 9223372036854775808 := by decide +kernel
      have := q j hj
      omega
    have hb2 := hb b.toNat (by omega)
    have hc : c < 18446744073709551616 := c1
    have D5 := D4.new (o := .lst [V.int a, V.int (1 * 2 ^ b.toNat - e), V.int c]) hp
    have kp5 : Kept d l H (upd H4 p (.lst [V.int a, V.int (1 * 2 ^ b.toNat - e), V.int c])) := kpA.new hp0
    refine ⟨_, rfl, ?_⟩
    refine ⟨_, _, rfl, rfl, ⟨by decide, by decide, by decide⟩, _, rfl, d, l, _, rfl, D5, by decide, by decide, fun g H6 g0 g1 D6 kp6 => ?_⟩
    have e18 : (10 : Int) ^ (18 : Int).toNat = 1000000000000000000 := by decide +kernel
    refine ⟨_, _, rfl, rfl, .inl ⟨by show -(2 ^ 64) < (10 : Int) ^ (18 : Int).toNat; rw [e18]; decide, by show (10 : Int) ^ (18 : Int).toNat < 2 ^ 64; rw [e18]; decide⟩, ?_⟩
    refine ⟨(by show 1 ≤ sizeLine; decide), fun q hq => ?_⟩
    have hpq : H6 p = some (.lst [V.int a, V.int (1 * 2 ^ b.toNat - e), V.int c]) := kp6 _ _ upd_same npd npl
    have npq : p ≠ q := ne_of_none hpq hq
    have kpB := kp5.trans kp6
    refine ⟨p, q, _, _, rfl, rfl, (by rw [upd_ne npq]; exact hpq), upd_same, (by show 3 + 1 ≤ sizeLine; decide), fun r hr2 => ?_⟩
    have D7 := (D6.new (o := .lst [V.int ((10 : Int) ^ (18 : Int).toNat * g)]) hq)
    have kpC : Kept d l H (upd H6 q (.lst [V.int ((10 : Int) ^ (18 : Int).toNat * g)])) := kpB.new (kpB.free D6 hq)
    have D8 := D7.new (o := .lst ([V.int a, V.int (1 * 2 ^ b.toNat - e), V.int c] ++ [V.int ((10 : Int) ^ (18 : Int).toNat * g)])) hr2
    have kpD : Kept d l H (upd (upd H6 q (.lst [V.int ((10 : Int) ^ (18 : Int).toNat * g)])) r (.lst ([V.int a, V.int (1 * 2 ^ b.toNat - e), V.int c] ++ [V.int ((10 : Int) ^ (18 : Int).toNat * g)]))) := kpC.new (kpC.free D7 hr2)
    obtain ⟨nrd, nrl⟩ := D7.free hr2
    refine ⟨_, rfl, d, l, _, rfl, D8, by decide, by decide, fun i H9 i0 i1 D9 kp9 => ?_⟩
    have kpE := kpD.trans kp9
    have h9 : H9 r = some (.lst ([V.int a, V.int (1 * 2 ^ b.toNat - e), V.int c] ++ [V.int ((10 : Int) ^ (18 : Int).toNat * g)])) := kp9 _ _ upd_same nrd nrl
    refine ⟨_, _, rfl, rfl, 0, _, rfl, ?_⟩
    obtain ⟨z, z0, z1, hat⟩ : ∃ z : Int, -18446744073709551616 < z ∧ z < 18446744073709551616 ∧ atI ([V.int a, V.int (1 * 2 ^ b.toNat - e), V.int c] ++ [V.int ((10 : Int) ^ (18 : Int).toNat * g)]) (if i - 3 > 0 then i - 3 else 0) = some (V.int z) := by
      rw [e18]
      have hi : i - 3 ≤ 0 ∨ i - 3 = 1 ∨ i - 3 = 2 ∨ i - 3 = 3 := by omega
      rcases hi with hi | hi | hi | hi
      · refine ⟨a, by omega, by omega, ?_⟩
        rw [if_neg (by omega)]
        exact atI_nat (j := 0) rfl
      · refine ⟨_, by omega, hb2.2, ?_⟩
        rw [if_pos (by omega), hi]
        exact atI_nat (j := 1) rfl
      · refine ⟨c, by omega, hc, ?_⟩
        rw [if_pos (by omega), hi]
        exact atI_nat (j := 2) rfl
      · refine ⟨1000000000000000000 * g, by omega, by omega, ?_⟩
        rw [if_pos (by omega), hi]
        exact atI_nat (j := 3) rfl
    refine ⟨r, _, _, _, rfl, rfl, SqL.of h9, hat, ?_⟩
    refine ⟨_, rfl, _, rfl, _, _, rfl, rfl, (by show 2 ≤ sizeLine; decide), fun t ht => ?_⟩
    have D10 := D9.new (o := .lst [V.int z, V.int (0 - z)]) ht
    have kpF : Kept d l H (upd H9 t (.lst [V.int z, V.int (0 - z)])) := kpE.new (kpE.free D9 ht)
    obtain ⟨ntd, ntl⟩ := D9.free ht
    refine ⟨_, rfl, d, l, _, rfl, D10, by decide, by decide, fun j H11 j0 j1 D11 kp11 => ?_⟩
    have h11 : H11 t = some (.lst [V.int z, V.int (0 - z)]) := kp11 _ _ upd_same ntd ntl
    have hj : j = 0 ∨ j = 1 := by omega
    rcases hj with rfl | rfl
    · exact ⟨t, _, _, V.int z, rfl, rfl, SqL.of h11, atI_nat (j := 0) rfl, k z H11 z0 z1 D11 (kpF.trans kp11)⟩
    · exact ⟨t, _, _, V.int (0 - z), rfl, rfl, SqL.of h11, atI_nat (j := 1) rfl, k (0 - z) H11 (by omega) (by omega) D11 (kpF.trans kp11)⟩
end
end My

set_option Elab.async false
set_option linter.all false
set_option maxRecDepth 100000
set_option maxHeartbeats 1000000
namespace My
open PySem L2 MyR

/-! ### terms -/
inductive Bk | add | sub | mul | over | rai
  deriving DecidableEq
inductive Tm
  | num (z : Int)
  | nam (x : List Nat)
  | two (k : Bk) (a b : Tm)
  | half (a : Tm)
  | pow (a : Tm) (n : Int)
  | cho (a : Tm) (m r : Int) (b c : Tm)
def Bk.s : Bk → Str
  | .add => "add"
  | .sub => "subtract"
  | .mul => "multiply"
  | .over => "over"
  | .rai => "raised"
def Tm.depth : Tm → Nat
  | .num _ => 0
  | .nam _ => 0
  | .two _ a b => max a.depth b.depth + 1
  | .half a => a.depth + 1
  | .pow a _ => a.depth + 1
  | .cho a _ _ b c => max a.depth (max b.depth c.depth) + 1
def OkM (m : Int) : Prop := m = 2 ∨ m = 4 ∨ m = 8 ∨ m = 16 ∨ m = 32 ∨ m = 64
def Tm.ok : Tm → Prop
  | .num z => -18446744073709551616 < z ∧ z < 18446744073709551616
  | .nam x => isNm x = true
  | .two _ a b => a.ok ∧ b.ok
  | .half a => a.ok
  | .pow a n => a.ok ∧ 0 ≤ n ∧ n ≤ 64
  | .cho a m r b c => a.ok ∧ b.ok ∧ c.ok ∧ OkM m ∧ 0 ≤ r ∧ r < m
/-- a term as tuples -/
def TmAt (H : Hp) : Tm → Addr → Prop
  | .num z, p => H p = some (.tup [.str "number", .int z])
  | .nam x, p => H p = some (.tup [.str "name", .str (wd x)])
  | .two k a b, p => ∃ q r, H p = some (.tup [.str k.s, .ref q, .ref r]) ∧ TmAt H a q ∧ TmAt H b r
  | .half a, p => ∃ q, H p = some (.tup [.str "half", .ref q]) ∧ TmAt H a q
  | .pow a n, p => ∃ q, H p = some (.tup [.str "power", .ref q, .int n]) ∧ TmAt H a q
  | .cho a m r b c, p => ∃ q s t, H p = some (.tup [.str "choose", .ref q, .int m, .int r, .ref s, .ref t]) ∧ TmAt H a q ∧ TmAt H b s ∧ TmAt H c t
theorem TmAt.map {H H' : Hp} (h : ∀ p xs, H p = some (.tup xs) → H' p = some (.tup xs)) : ∀ {T : Tm} {p : Addr}, TmAt H T p → TmAt H' T p
  | .num z, p, e => h _ _ e
  | .nam x, p, e => h _ _ e
  | .two k a b, p, ⟨q, r, e, ea, eb⟩ => ⟨q, r, h _ _ e, TmAt.map h ea, TmAt.map h eb⟩
  | .half a, p, ⟨q, e, ea⟩ => ⟨q, h _ _ e, TmAt.map h ea⟩
  | .pow a n, p, ⟨q, e, ea⟩ => ⟨q, h _ _ e, TmAt.map h ea⟩
  | .cho a m r b c, p, ⟨q, s, t, e, ea, eb, ec⟩ => ⟨q, s, t, h _ _ e, TmAt.map h ea, TmAt.map h eb, TmAt.map h ec⟩
theorem Deal.tup {H : Hp} {d l p : Addr} {xs : List V} (D : Deal H d l) (h : H p = some (.tup xs)) : p ≠ d ∧ p ≠ l := by
  obtain ⟨s, n, ns, hd, hl, r⟩ := D.ex
  exact ⟨ne_of h hd (by intro z; cases z), ne_of h hl (by intro z; cases z)⟩
theorem TmAt.kept {H H' : Hp} {d l : Addr} (D : Deal H d l) (k : Kept d l H H') {T : Tm} {p : Addr} (e : TmAt H T p) : TmAt H' T p :=
  e.map fun p xs h => k p _ h (D.tup h).1 (D.tup h).2
theorem TmAt.new {H : Hp} {q : Addr} {o : HO} (hq : H q = none) {T : Tm} {p : Addr} (e : TmAt H T p) : TmAt (upd H q o) T p :=
  e.map fun p xs h => by rw [upd_ne (ne_of_none h hq)]; exact h
theorem stL_eqv {zs : List (List Nat)} (h : zs ≠ []) : PyData.eqv (.list (zs.map fun z => .str (wd z))) (.list []) = false := by
  cases zs with
  | nil => exact absurd rfl h
  | cons z zs => rfl
theorem stL_dp {K : PySem.W.Frag} {H : Hp} : ∀ zs : List (List Nat), DpAll K H (stL zs) (zs.map fun z => .str (wd z))
  | [] => .nil
  | z :: zs => .cons (.str _) (stL_dp zs)
theorem nm_ok {z : List Nat} (h : isNm z = true) : PyData.canLay0 (.str (wd z)) = true := by
  have hl := nm_low h
  show (wd z).cps.all (fun c => decide (c < 0x110000)) = true
  unfold lowL at hl
  rw [List.all_eq_true] at hl
  unfold wd
  rw [← Array.all_toList, List.all_eq_true]
  intro c hc
  have := hl c hc
  simp only [Bool.and_eq_true, decide_eq_true_eq] at this
  exact decide_eq_true (by omega)
theorem stL_shaped {zs : List (List Nat)} (h : ∀ z ∈ zs, isNm z = true) : SeqAt.shaped (.list (zs.map fun z => .str (wd z))) = true := by
  unfold SeqAt.shaped
  have h1 : PyData.canLayAll0 (zs.map fun z => .str (wd z)) = true := by
    induction zs with
    | nil => rfl
    | cons z zs ih =>
      show (PyData.canLay0 (.str (wd z)) && PyData.canLayAll0 (zs.map fun z => .str (wd z))) = true
      rw [nm_ok (h z List.mem_cons_self), ih fun y hy => h y (List.mem_cons_of_mem _ hy)]
      rfl
  have h2 : PyData.depthAll (zs.map fun z => .str (wd z)) = 0 := by
    clear h h1
    induction zs with
    | nil => rfl
    | cons z zs ih =>
      show max (PyData.depth (.str (wd z))) (PyData.depthAll (zs.map fun z => .str (wd z))) = 0
      rw [ih]
      rfl
  have h3 : PyData.canLay0 (.list (zs.map fun z => .str (wd z))) = PyData.canLayAll0 (zs.map fun z => .str (wd z)) := rfl
  have h4 : PyData.depth (.list (zs.map fun z => .str (wd z))) = PyData.depthAll (zs.map fun z => .str (wd z)) + 1 := rfl
  rw [h3, h1, h4, h2]
  rfl
/-- a number or a name -/
def spLeaf (K : PySem.W.Frag) : Sp := fun vs H Q _ => ∃ (d l na : Addr) (zs : List (List Nat)), vs = [.ref d, .ref na] ∧ Deal H d l ∧ SqL K H na (stL zs) ∧ na ≠ d ∧ na ≠ l ∧ zs ≠ [] ∧ zs.length ≤ 64 ∧ (∀ z ∈ zs, isNm z = true) ∧
  ∀ (p : Addr) (T : Tm) (H' : Hp), T.ok → T.depth = 0 → TmAt H' T p → Deal H' d l → Kept d l H H' → Q (.ref p) H'
section
variable {P : Program} {w : World} {K : PySem.W.Frag} {mg : Str → Option Value} {base : Heap}
abbrev s_law_leaf : Stmt := top 39
abbrev N_law_leaf : List Str := ["_law_deal_here", "_law_names"]
theorem sc_law_leaf : FnScope N_law_leaf ["_law_deal_here", "_law_names"] (defScope s_law_leaf) := ⟨rfl, rfl, rfl, by decide +kernel, rfl, by decide +kernel, by decide +kernel⟩
theorem ok_law_leaf {f : Addr} {fd : FuncData} (F : Fun K "_law_leaf" "_law_leaf" s_law_leaf f fd) (T : Glob mg) (D_law_draw : Df P w K mg base 1 "_law_draw" ["_law_deal_here", "_law_many"] spDraw)
    (D_law_number : Df P w K mg base 2 "_law_number" ["_law_deal_here"] spNum) : FnOk P w K mg base CX0 3 f fd ["_law_deal_here", "_law_names"] (spLeaf K) := by
  refine F.ok sc_law_leaf (fun vs H Q E h => ?_) (fun cdv A outer s H vs Q E hr h => ?_)
  · obtain ⟨d, l, na, zs, rfl, _⟩ := h
    rfl
  · obtain ⟨d, l, na, zs, rfl, D, hS, n1, n2, hne, hz64, hnm, k⟩ := h
    have hu := hu_of hr
    have nd := sc_law_leaf.nd
    refine ⟨_, (pss_cons (ps_if (PW.pt (pw_or (pt_cmpR (op_eqD hr.units) (pv 1) (pe_lst pa_nil) (nomark _)) (pw_or1 (pt_cmpR op_eq (pe_call D_law_draw.ok (hr.mono (by decide)) (by rfl) D_law_draw.g D_law_draw.kp D_law_draw.b .nil pass0 (pa_cons (pv 0) (pa_cons pe_int pa_nil))) pe_int (nomark _)))))
    (pss_one (ps_ret (pe_tup (pa_cons pe_str (pa_cons (pe_call D_law_number.ok (hr.mono (by decide)) (by rfl) D_law_number.g D_law_number.kp D_law_number.b .nil pass0 (pa_cons (pv 0) pa_nil)) pa_nil)))))
    pss_nil)
    (pss_one (ps_ret (pe_tup (pa_cons pe_str (pa_cons (pe_ix ix_list (pv 1) (pe_call D_law_draw.ok (hr.mono (by decide)) (by rfl) D_law_draw.g D_law_draw.kp D_law_draw.b .nil pass0 (pa_cons (pv 0) (pa_cons (pe_callB call_len_seq (by rfl) T.g_len PySem.boot_len (pa_cons (pv 1) pa_nil)) pa_nil))) (fun _ _ => rfl)) pa_nil)))))), ?_⟩
    refine ⟨_, rfl, (by show 0 ≤ sizeLine; decide), fun e0 he0 => ?_⟩
    have ne0 : ∀ b o, H b = some o → (upd H e0 (.lst [])) b = some o := fun b o e => by rw [upd_ne (ne_of_none e he0)]; exact e
    have hS1 : SqL K (upd H e0 (.lst [])) na (stL zs) := Same.seq ne0 hS
    have D1 := D.new (o := .lst []) he0
    have kp1 : Kept d l H (upd H e0 (.lst [])) := Kept.refl.new he0
    refine ⟨_, _, .lst hS1 (stL_dp zs), .lst (SqL.of upd_same) .nil, stL_shaped hnm, by decide +kernel, _, rfl, ?_⟩
    refine ite2 (fun hz => ?_) (fun _ => ?_)
    · rw [stL_eqv hne] at hz
      cases hz
    refine ⟨_, rfl, d, l, _, rfl, D1, by decide, by decide, fun r H2 r0 r1 D2 kp2 => ?_⟩
    have kpA := kp1.trans kp2
    refine ⟨rfl, _, rfl, ?_⟩
    refine ite2 (fun hz => ?_) (fun _ => ?_)
    · refine ⟨_, rfl, d, l, rfl, D2, fun z H3 z0 z1 D3 kp3 => ?_⟩
      refine ⟨(by show 2 ≤ sizeLine; decide), fun p hp => ?_⟩
      have kpB := kpA.trans kp3
      exact k p (.num z) _ ⟨z0, z1⟩ rfl upd_same (D3.new hp) (kpB.new (kpB.free D3 hp))
    · refine ⟨_, rfl, _, rfl, _, rfl, na, _, rfl, .inl (kpA.seq hS n1 n2), d, l, _, rfl, D2, ?_, ?_, fun i H3 i0 i1 D3 kp3 => ?_⟩
      · have : 0 < zs.length := by cases zs with | nil => exact absurd rfl hne | cons a b => simp
        rw [List.length_map]; omega
      · rw [List.length_map]
        exact Nat.lt_of_le_of_lt (show ((zs.length : Int)).natAbs ≤ 64 by omega) (by decide)
      · rw [List.length_map] at i1
        obtain ⟨j, rfl⟩ : ∃ j : Nat, i = (j : Int) := ⟨i.toNat, by omega⟩
        have hj : j < zs.length := by omega
        have hat : atI (stL zs) (j : Int) = some (V.str (wd zs[j])) := atI_nat (by unfold stL; rw [List.getElem?_map, List.getElem?_eq_getElem hj]; rfl)
        have kpB := kpA.trans kp3
        refine ⟨na, _, _, _, rfl, rfl, kpB.seq hS n1 n2, hat, ?_⟩
        refine ⟨(by show 2 ≤ sizeLine; decide), fun p hp => ?_⟩
        exact k p (.nam zs[j]) _ (hnm _ (List.getElem_mem hj)) rfl upd_same (D3.new hp) (kpB.new (kpB.free D3 hp))
end
end My

set_option Elab.async false
set_option linter.all false
set_option maxRecDepth 100000
set_option maxHeartbeats 1000000
namespace My
open PySem L2 MyR

theorem pss_never {X : Cx} {ss : List Stmt} : PSs X ss (fun _ _ _ => False) := ⟨fun _ _ _ _ _ _ h => h.elim⟩
def kinds : List Str := ["leaf", "add", "subtract", "multiply", "half", "power", "choose", "over", "raised"]
theorem kinds_cases {k : Str} (h : k ∈ kinds) : k = "leaf" ∨ k = "add" ∨ k = "subtract" ∨ k = "multiply" ∨ k = "half" ∨ k = "power" ∨ k = "choose" ∨ k = "over" ∨ k = "raised" := by
  simpa [kinds] using h
/-- a term so deep of some kinds -/
def spTerm (K : PySem.W.Frag) (n : Nat) : Sp := fun vs H Q _ => ∃ (d l na ka : Addr) (zs : List (List Nat)) (ks : List Str), vs = [.ref d, .ref na, .int n, .ref ka] ∧ Deal H d l ∧ SqL K H na (stL zs) ∧ na ≠ d ∧ na ≠ l ∧ zs ≠ [] ∧ zs.length ≤ 64 ∧ (∀ z ∈ zs, isNm z = true) ∧
  SqL K H ka (ks.map V.str) ∧ ka ≠ d ∧ ka ≠ l ∧ ks ≠ [] ∧ ks.length ≤ 64 ∧ (∀ k ∈ ks, k ∈ kinds) ∧
  ∀ (p : Addr) (T : Tm) (H' : Hp), T.ok → T.depth ≤ 3 * n → TmAt H' T p → Deal H' d l → Kept d l H H' → Q (.ref p) H'
section
variable {P : Program} {w : World} {K : PySem.W.Frag} {mg : Str → Option Value} {base : Heap}
abbrev s_law_term : Stmt := top 40
abbrev N_law_term : List Str := ["_law_deal_here", "_law_names", "_law_deep", "_law_kinds", "_law_kind", "_law_one", "_law_other", "_law_modulus", "_law_odd"]
theorem sc_law_term : FnScope N_law_term ["_law_deal_here", "_law_names", "_law_deep", "_law_kinds"] (defScope s_law_term) := ⟨rfl, rfl, rfl, by decide +kernel, rfl, by decide +kernel, by decide +kernel⟩
theorem ok_law_term {f : Addr} {fd : FuncData} (F : Fun K "_law_term" "_law_term" s_law_term f fd) (T : Glob mg) (D_law_draw : Df P w K mg base 1 "_law_draw" ["_law_deal_here", "_law_many"] spDraw)
    (D_law_leaf : Df P w K mg base 3 "_law_leaf" ["_law_deal_here", "_law_names"] (spLeaf K)) (hg : mg "_law_term" = some (.ref f)) (hb : Binds K fd ["_law_deal_here", "_law_names", "_law_deep", "_law_kinds"] []) :
    ∀ n : Nat, FnOk P w K mg base CX0 (4 + n) f fd ["_law_deal_here", "_law_names", "_law_deep", "_law_kinds"] (spTerm K n)
  | 0 => by
    refine F.ok sc_law_term (fun vs H Q E h => ?_) (fun cdv A outer s H vs Q E hr h => ?_)
    · obtain ⟨d, l, na, ka, zs, ks, rfl, _⟩ := h
      rfl
    · obtain ⟨d, l, na, ka, zs, ks, rfl, D, hS, n1, n2, hne, hz64, hnm, hK, n3, n4, kne, hk64, hkk, k⟩ := h
      have hu := hu_of hr
      have nd := sc_law_term.nd
      refine ⟨_, (pss_cons (ps_set (i := 4) nd rfl (Or.inl rfl) (pe_ix ix_list (pv 3) (pe_call D_law_draw.ok (hr.mono (by decide)) (by rfl) D_law_draw.g D_law_draw.kp D_law_draw.b .nil pass0 (pa_cons (pv 0) (pa_cons (pe_callB call_len_seq (by rfl) T.g_len PySem.boot_len (pa_cons (pv 3) pa_nil)) pa_nil))) (fun _ _ => rfl)))
    (pss_cons (ps_if (PW.pt (pw_or (pt_cmpR op_eq (pv 2) pe_int (nomark _)) (pw_or1 (pt_cmpR op_eq (pv 4) pe_str (nomark _)))))
    (pss_one (ps_ret (pe_call D_law_leaf.ok (hr.mono (by decide)) (by rfl) D_law_leaf.g D_law_leaf.kp D_law_leaf.b .nil pass0 (pa_cons (pv 0) (pa_cons (pv 1) pa_nil)))))
    pss_nil)
    pss_never)), ?_⟩
      have hpos : 0 < ks.length := by cases ks with | nil => exact absurd rfl kne | cons a b => simp
      refine ⟨_, rfl, _, rfl, _, rfl, ka, _, rfl, .inl hK, d, l, _, rfl, D, by rw [List.length_map]; omega, ?_, fun i H1 i0 i1 D1 kp1 => ?_⟩
      · rw [List.length_map]
        exact Nat.lt_of_le_of_lt (show ((ks.length : Int)).natAbs ≤ 64 by omega) (by decide)
      rw [List.length_map] at i1
      obtain ⟨j, rfl⟩ : ∃ j : Nat, i = (j : Int) := ⟨i.toNat, by omega⟩
      have hj : j < ks.length := by omega
      have hat : atI (ks.map V.str) (j : Int) = some (V.str ks[j]) := atI_nat (by rw [List.getElem?_map, List.getElem?_eq_getElem hj]; rfl)
      refine ⟨ka, _, _, _, rfl, rfl, kp1.seq hK n3 n4, hat, ?_⟩
      refine ⟨_, rfl, rfl, _, rfl, ?_⟩
      refine ⟨_, rfl, _, rfl, d, l, na, zs, rfl, D1, kp1.seq hS n1 n2, n1, n2, hne, hz64, hnm, fun p Tt H2 hok hdp hT D2 kp2 => ?_⟩
      exact k p Tt H2 hok (by omega) hT D2 (kp1.trans kp2)
  | n + 1 => by
    have ih : Df P w K mg base (4 + n) "_law_term" ["_law_deal_here", "_law_names", "_law_deep", "_law_kinds"] (spTerm K n) := ⟨f, fd, ok_law_term F T D_law_draw D_law_leaf hg hb n, hg, F.kp, hb⟩
    refine F.ok (k := 4 + n) sc_law_term (fun vs H Q E h => ?_) (fun cdv A outer s H vs Q E hr h => ?_)
    · obtain ⟨d, l, na, ka, zs, ks, rfl, _⟩ := h
      rfl
    · obtain ⟨d, l, na, ka, zs, ks, rfl, D, hS, n1, n2, hne, hz64, hnm, hK, n3, n4, kne, hk64, hkk, k⟩ := h
      have hr4 : Room 4 _ := hr.mono (by omega)
      have hu := hu_of hr
      have nd := sc_law_term.nd
      refine ⟨_, (pss_cons (ps_set (i := 4) nd rfl (Or.inl rfl) (pe_ix ix_list (pv 3) (pe_call D_law_draw.ok (hr4.mono (by decide)) (by rfl) D_law_draw.g D_law_draw.kp D_law_draw.b .nil pass0 (pa_cons (pv 0) (pa_cons (pe_callB call_len_seq (by rfl) T.g_len PySem.boot_len (pa_cons (pv 3) pa_nil)) pa_nil))) (fun _ _ => rfl)))
    (pss_cons (ps_if (PW.pt (pw_or (pt_cmpR op_eq (pv 2) pe_int (nomark _)) (pw_or1 (pt_cmpR op_eq (pv 4) pe_str (nomark _)))))
    (pss_one (ps_ret (pe_call D_law_leaf.ok (hr4.mono (by decide)) (by rfl) D_law_leaf.g D_law_leaf.kp D_law_leaf.b .nil pass0 (pa_cons (pv 0) (pa_cons (pv 1) pa_nil)))))
    pss_nil)
    (pss_cons (ps_par (i := 5) (j := 6) rfl nd rfl rfl (by decide) rfl rfl (pa_cons (pe_call ih.ok hr (by rfl) ih.g ih.kp ih.b .nil pass0 (pa_cons (pv 0) (pa_cons (pv 1) (pa_cons (pe_op op_sub (pv 2) pe_int) (pa_cons (pv 3) pa_nil))))) (pa_cons (pe_call ih.ok hr (by rfl) ih.g ih.kp ih.b .nil pass0 (pa_cons (pv 0) (pa_cons (pv 1) (pa_cons (pe_op op_sub (pv 2) pe_int) (pa_cons (pv 3) pa_nil))))) pa_nil)) (by rfl))
    (pss_cons (ps_if (pt_cmpR op_in_seq (pv 4) (pe_tup (pa_cons pe_str (pa_cons pe_str (pa_cons pe_str pa_nil)))) (by rfl))
    (pss_one (ps_ret (pe_tup (pa_cons (pv 4) (pa_cons (pv 5) (pa_cons (pv 6) pa_nil))))))
    pss_nil)
    (pss_cons (ps_if (pt_cmpR op_eq (pv 4) pe_str (nomark _))
    (pss_one (ps_ret (pe_tup (pa_cons (pv 4) (pa_cons (pv 5) pa_nil)))))
    pss_nil)
    (pss_cons (ps_if (pt_cmpR op_eq (pv 4) pe_str (nomark _))
    (pss_one (ps_ret (pe_tup (pa_cons (pv 4) (pa_cons (pv 5) (pa_cons (pe_call D_law_draw.ok (hr4.mono (by decide)) (by rfl) D_law_draw.g D_law_draw.kp D_law_draw.b .nil pass0 (pa_cons (pv 0) (pa_cons (pe_ix ix_list (pe_lst (pa_cons pe_int (pa_cons pe_int (pa_cons pe_int pa_nil)))) (pe_call D_law_draw.ok (hr4.mono (by decide)) (by rfl) D_law_draw.g D_law_draw.kp D_law_draw.b .nil pass0 (pa_cons (pv 0) (pa_cons pe_int pa_nil))) (fun _ _ => rfl)) pa_nil))) pa_nil))))))
    pss_nil)
    (pss_cons (ps_if (pt_cmpR op_eq (pv 4) pe_str (nomark _))
    (pss_cons (ps_set (i := 7) nd rfl (Or.inl rfl) (pe_op op_shl pe_int (pe_call D_law_draw.ok (hr4.mono (by decide)) (by rfl) D_law_draw.g D_law_draw.kp D_law_draw.b .nil pass0 (pa_cons (pv 0) (pa_cons (pe_ix ix_list (pe_lst (pa_cons pe_int (pa_cons pe_int pa_nil))) (pe_callTy call_int1 (by rfl) T.g_int (by decide +kernel) (pa_cons (pe_cmpR op_eq (pe_call D_law_draw.ok (hr4.mono (by decide)) (by rfl) D_law_draw.g D_law_draw.kp D_law_draw.b .nil pass0 (pa_cons (pv 0) (pa_cons pe_int pa_nil))) pe_int (nomark _)) pa_nil)) (fun _ _ => rfl)) pa_nil)))))
    (pss_one (ps_ret (pe_tup (pa_cons (pv 4) (pa_cons (pv 5) (pa_cons (pv 7) (pa_cons (pe_call D_law_draw.ok (hr4.mono (by decide)) (by rfl) D_law_draw.g D_law_draw.kp D_law_draw.b .nil pass0 (pa_cons (pv 0) (pa_cons (pv 7) pa_nil))) (pa_cons (pv 6) (pa_cons (pe_call D_law_leaf.ok (hr4.mono (by decide)) (by rfl) D_law_leaf.g D_law_leaf.kp D_law_leaf.b .nil pass0 (pa_cons (pv 0) (pa_cons (pv 1) pa_nil))) pa_nil))))))))))
    pss_nil)
    (pss_cons (ps_set (i := 8) nd rfl (Or.inl rfl) (pe_tup (pa_cons pe_str (pa_cons (pe_tup (pa_cons pe_str (pa_cons (pe_tup (pa_cons pe_str (pa_cons (pe_op op_mul pe_int (pe_call D_law_draw.ok (hr4.mono (by decide)) (by rfl) D_law_draw.g D_law_draw.kp D_law_draw.b .nil pass0 (pa_cons (pv 0) (pa_cons pe_int pa_nil)))) pa_nil))) (pa_cons (pv 6) pa_nil)))) (pa_cons (pe_tup (pa_cons pe_str (pa_cons (pe_op op_add (pe_op op_mul pe_int (pe_call D_law_draw.ok (hr4.mono (by decide)) (by rfl) D_law_draw.g D_law_draw.kp D_law_draw.b .nil pass0 (pa_cons (pv 0) (pa_cons pe_int pa_nil)))) pe_int) pa_nil))) pa_nil)))))
    (pss_one (ps_ret (pe_ifExp (pt_cmpR op_eq (pv 4) pe_str (nomark _)) (pe_tup (pa_cons (pv 4) (pa_cons (pv 5) (pa_cons (pv 8) pa_nil)))) (pe_tup (pa_cons (pv 4) (pa_cons (pv 8) (pa_cons (pv 5) pa_nil))))))))))))))), ?_⟩
      have hpos : 0 < ks.length := by cases ks with | nil => exact absurd rfl kne | cons a b => simp
      refine ⟨_, rfl, _, rfl, _, rfl, ka, _, rfl, .inl hK, d, l, _, rfl, D, by rw [List.length_map]; omega, ?_, fun i H1 i0 i1 D1 kp1 => ?_⟩
      · rw [List.length_map]
        exact Nat.lt_of_le_of_lt (show ((ks.length : Int)).natAbs ≤ 64 by omega) (by decide)
      rw [List.length_map] at i1
      obtain ⟨j, rfl⟩ : ∃ j : Nat, i = (j : Int) := ⟨i.toNat, by omega⟩
      have hj : j < ks.length := by omega
      have hat : atI (ks.map V.str) (j : Int) = some (V.str ks[j]) := atI_nat (by rw [List.getElem?_map, List.getElem?_eq_getElem hj]; rfl)
      have hkin := hkk _ (List.getElem_mem hj)
      refine ⟨ka, _, _, _, rfl, rfl, kp1.seq hK n3 n4, hat, ?_⟩
      clear hat
      generalize ks[j] = kd at hkin
      refine ⟨_, rfl, rfl, _, rfl, ?_⟩
      refine ite2 (fun hz => ?_) (fun _ => ?_)
      · have := V.int.inj (of_decide_eq_true hz)
        omega
      refine ⟨_, rfl, rfl, _, rfl, ?_⟩
      refine ite2 (fun hz => ?_) (fun hleaf => ?_)
      · refine ⟨_, rfl, _, rfl, d, l, na, zs, rfl, D1, kp1.seq hS n1 n2, n1, n2, hne, hz64, hnm, fun p Tt H2 hok hdp hT D2 kp2 => ?_⟩
        exact k p Tt H2 hok (by omega) hT D2 (kp1.trans kp2)
      have edeep : ((n + 1 : Nat) : Int) - 1 = (n : Int) := by omega
      have ed2 : ([V.ref d, V.ref na, V.int (((n + 1 : Nat) : Int) - 1), V.ref ka] : List V) = [V.ref d, V.ref na, V.int n, V.ref ka] := by rw [edeep]
      refine ⟨_, rfl, _, rfl, _, rfl, _, _, rfl, rfl, _, rfl, d, l, na, ka, zs, ks, ed2, D1, kp1.seq hS n1 n2, n1, n2, hne, hz64, hnm, kp1.seq hK n3 n4, n3, n4, kne, hk64, hkk, fun p1 T1 H2 ok1 dp1 hT1 D2 kp2 => ?_⟩
      have kpA := kp1.trans kp2
      refine ⟨_, rfl, _, rfl, _, rfl, _, _, rfl, rfl, _, rfl, d, l, na, ka, zs, ks, ed2, D2, kpA.seq hS n1 n2, n1, n2, hne, hz64, hnm, kpA.seq hK n3 n4, n3, n4, kne, hk64, hkk, fun p2 T2 H3 ok2 dp2 hT2 D3 kp3 => ?_⟩
      have kpB := kpA.trans kp3
      have hT1' := hT1.kept D2 kp3
      refine ⟨_, _, rfl, ?_⟩
      have kin : ∀ (xs : List V), True := fun _ => trivial
      -- kind in (..)
      refine ⟨_, rfl, (by show 3 ≤ sizeLine; decide), fun t ht => ?_⟩
      have D4 := D3.new (o := .tup [V.str "add", V.str "subtract", V.str "multiply"]) ht
      have kpC : Kept d l H (upd H3 t (.tup [V.str "add", V.str "subtract", V.str "multiply"])) := kpB.new (kpB.free D3 ht)
      have hA := hT1'.new (o := .tup [V.str "add", V.str "subtract", V.str "multiply"]) ht
      have hB := hT2.new (o := .tup [V.str "add", V.str "subtract", V.str "multiply"]) ht
      have hst : (upd H3 t (.tup [V.str "add", V.str "subtract", V.str "multiply"])) t = some (.tup [V.str "add", V.str "subtract", V.str "multiply"]) := upd_same
      generalize upd H3 t (.tup [V.str "add", V.str "subtract", V.str "multiply"]) = H4 at D4 kpC hA hB hst
      refine ⟨t, _, rfl, .inr (SqT.of hst), rfl, by decide +kernel, _, rfl, ?_⟩
      have fin2 : ∀ (bk : Bk) (p : Addr), H4 p = none → Q (.ref p) (upd H4 p (.tup [.str bk.s, .ref p1, .ref p2])) := fun bk p hp =>
        k p (.two bk T1 T2) _ ⟨ok1, ok2⟩ (by show max T1.depth T2.depth + 1 ≤ 3 * (n + 1); omega) ⟨p1, p2, upd_same, hA.new hp, hB.new hp⟩ (D4.new hp) (kpC.new (kpC.free D4 hp))
      have zS : ∀ (c : Tm) (b : Nat), c.depth ≤ b → c.depth ≤ b := fun _ _ h => h
      rcases kinds_cases hkin with e | e | e | e | e | e | e | e | e
      · exact absurd (decide_eq_true (congrArg V.str e)) hleaf
      · subst e
        refine ite2 (fun _ => ?_) (fun hz => absurd (by decide +kernel) hz)
        exact ⟨_, rfl, _, rfl, _, rfl, (by show 3 ≤ sizeLine; decide), fun p hp => fin2 .add p hp⟩
      · subst e
        refine ite2 (fun _ => ?_) (fun hz => absurd (by decide +kernel) hz)
        exact ⟨_, rfl, _, rfl, _, rfl, (by show 3 ≤ sizeLine; decide), fun p hp => fin2 .sub p hp⟩
      · subst e
        refine ite2 (fun _ => ?_) (fun hz => absurd (by decide +kernel) hz)
        exact ⟨_, rfl, _, rfl, _, rfl, (by show 3 ≤ sizeLine; decide), fun p hp => fin2 .mul p hp⟩
      · subst e
        refine ite2 (fun hz => absurd hz (by decide +kernel)) (fun _ => ?_)
        refine ⟨_, rfl, rfl, _, rfl, ?_⟩
        refine ite2 (fun _ => ?_) (fun hz => absurd (by decide +kernel) hz)
        exact ⟨_, rfl, _, rfl, (by show 2 ≤ sizeLine; decide), fun p hp => k p (.half T1) _ ok1 (by show T1.depth + 1 ≤ 3 * (n + 1); omega) ⟨p1, upd_same, hA.new hp⟩ (D4.new hp) (kpC.new (kpC.free D4 hp))⟩
      · subst e
        refine ite2 (fun hz => absurd hz (by decide +kernel)) (fun _ => ?_)
        refine ⟨_, rfl, rfl, _, rfl, ?_⟩
        refine ite2 (fun hz => absurd hz (by decide +kernel)) (fun _ => ?_)
        refine ⟨_, rfl, rfl, _, rfl, ?_⟩
        refine ite2 (fun _ => ?_) (fun hz => absurd (by decide +kernel) hz)
        refine ⟨_, rfl, _, rfl, _, rfl, (by show 3 ≤ sizeLine; decide), fun t3 ht3 => ?_⟩
        have D5 := D4.new (o := .lst [V.int 4, V.int 4, V.int 65]) ht3
        have kpD : Kept d l H (upd H4 t3 (.lst [V.int 4, V.int 4, V.int 65])) := kpC.new (kpC.free D4 ht3)
        obtain ⟨m1, m2⟩ := D4.free ht3
        refine ⟨_, rfl, d, l, _, rfl, D5, by decide, by decide, fun i H6 i0 i1 D6 kp6 => ?_⟩
        have h6 : H6 t3 = some (.lst [V.int 4, V.int 4, V.int 65]) := kp6 _ _ upd_same m1 m2
        have kpE := kpD.trans kp6
        have hA6 := (hA.new (o := .lst [V.int 4, V.int 4, V.int 65]) ht3).kept D5 kp6
        obtain ⟨w4, w40, w41, hw⟩ : ∃ w4 : Int, 0 < w4 ∧ w4 ≤ 65 ∧ atI [V.int 4, V.int 4, V.int 65] i = some (V.int w4) := by
          have : i = 0 ∨ i = 1 ∨ i = 2 := by omega
          rcases this with rfl | rfl | rfl
          · exact ⟨4, by decide, by decide, atI_nat (j := 0) rfl⟩
          · exact ⟨4, by decide, by decide, atI_nat (j := 1) rfl⟩
          · exact ⟨65, by decide, by decide, atI_nat (j := 2) rfl⟩
        refine ⟨t3, _, _, _, rfl, rfl, SqL.of h6, hw, ?_⟩
        refine ⟨d, l, _, rfl, D6, w40, Nat.lt_of_le_of_lt (show w4.natAbs ≤ 65 by omega) (by decide), fun r H7 r0 r1 D7 kp7 => ?_⟩
        have kpF := kpE.trans kp7
        exact ⟨(by show 3 ≤ sizeLine; decide), fun p hp => k p (.pow T1 r) _ ⟨ok1, r0, by omega⟩ (by show T1.depth + 1 ≤ 3 * (n + 1); omega) ⟨p1, upd_same, (hA6.kept D6 kp7).new hp⟩ (D7.new hp) (kpF.new (kpF.free D7 hp))⟩
      · subst e
        refine ite2 (fun hz => absurd hz (by decide +kernel)) (fun _ => ?_)
        refine ⟨_, rfl, rfl, _, rfl, ?_⟩
        refine ite2 (fun hz => absurd hz (by decide +kernel)) (fun _ => ?_)
        refine ⟨_, rfl, rfl, _, rfl, ?_⟩
        refine ite2 (fun hz => absurd hz (by decide +kernel)) (fun _ => ?_)
        refine ⟨_, rfl, rfl, _, rfl, ?_⟩
        refine ite2 (fun _ => ?_) (fun hz => absurd (by decide +kernel) hz)
        refine ⟨_, rfl, (by show 2 ≤ sizeLine; decide), fun t3 ht3 => ?_⟩
        have D5 := D4.new (o := .lst [V.int 2, V.int 6]) ht3
        have kpD : Kept d l H (upd H4 t3 (.lst [V.int 2, V.int 6])) := kpC.new (kpC.free D4 ht3)
        obtain ⟨m1, m2⟩ := D4.free ht3
        refine ⟨_, rfl, d, l, _, rfl, D5, by decide, by decide, fun i H6 i0 i1 D6 kp6 => ?_⟩
        have h6 : H6 t3 = some (.lst [V.int 2, V.int 6]) := kp6 _ _ upd_same m1 m2
        have kpE := kpD.trans kp6
        have hA6 := (hA.new (o := .lst [V.int 2, V.int 6]) ht3).kept D5 kp6
        have hB6 := (hB.new (o := .lst [V.int 2, V.int 6]) ht3).kept D5 kp6
        refine ⟨rfl, .inr ⟨_, rfl, ?_⟩⟩
        obtain ⟨w4, w40, w41, hw⟩ : ∃ w4 : Int, 0 < w4 ∧ w4 ≤ 6 ∧ atI [V.int 2, V.int 6] (if decide (V.int i = V.int 0) = true then 1 else 0) = some (V.int w4) := by
          by_cases hi0 : decide (V.int i = V.int 0) = true
          · rw [if_pos hi0]
            exact ⟨6, by decide, by decide, atI_nat (j := 1) rfl⟩
          · rw [if_neg hi0]
            exact ⟨2, by decide, by decide, atI_nat (j := 0) rfl⟩
        refine ⟨t3, _, _, _, rfl, rfl, SqL.of h6, hw, ?_⟩
        refine ⟨d, l, _, rfl, D6, w40, Nat.lt_of_le_of_lt (show w4.natAbs ≤ 65 by omega) (by decide), fun r H7 r0 r1 D7 kp7 => ?_⟩
        have kpF := kpE.trans kp7
        have hA7 := hA6.kept D6 kp7
        have hB7 := hB6.kept D6 kp7
        refine ⟨_, _, rfl, rfl, ⟨r0, by omega, by decide⟩, ?_⟩
        have hM : OkM (2 * 2 ^ r.toNat) := by
          have q : ∀ j < 6, OkM (2 * 2 ^ j) := by unfold OkM; decide +kernel
          exact q _ (by omega)
        have hM2 : 0 < (2 * 2 ^ r.toNat : Int) ∧ (2 * 2 ^ r.toNat : Int).natAbs < 2 ^ 65 := by
          have e65 : (2 : Nat) ^ 65 = 36893488147419103232 := by decide
          rw [e65]
          rcases hM with e | e | e | e | e | e <;> rw [e] <;> decide
        refine ⟨_, rfl, _, rfl, _, rfl, _, rfl, _, rfl, d, l, _, rfl, D7, hM2.1, hM2.2, fun q H8 q0 q1 D8 kp8 => ?_⟩
        have kpG := kpF.trans kp8
        have hA8 := hA7.kept D7 kp8
        have hB8 := hB7.kept D7 kp8
        refine ⟨_, rfl, _, rfl, _, rfl, d, l, na, zs, rfl, D8, kpG.seq hS n1 n2, n1, n2, hne, hz64, hnm, fun p3 T3 H9 ok3 dp3 hT3 D9 kp9 => ?_⟩
        have kpH := kpG.trans kp9
        exact ⟨(by show 6 ≤ sizeLine; decide), fun p hp => k p (.cho T1 (2 * 2 ^ r.toNat) q T2 T3) _ ⟨ok1, ok2, ok3, hM, q0, q1⟩ (by show max T1.depth (max T2.depth T3.depth) + 1 ≤ 3 * (n + 1); omega)
          ⟨p1, p2, p3, upd_same, (hA8.kept D8 kp9).new hp, (hB8.kept D8 kp9).new hp, hT3.new hp⟩ (D9.new hp) (kpH.new (kpH.free D9 hp))⟩
      · subst e
        refine ite2 (fun hz => absurd hz (by decide +kernel)) (fun _ => ?_)
        refine ⟨_, rfl, rfl, _, rfl, ?_⟩
        refine ite2 (fun hz => absurd hz (by decide +kernel)) (fun _ => ?_)
        refine ⟨_, rfl, rfl, _, rfl, ?_⟩
        refine ite2 (fun hz => absurd hz (by decide +kernel)) (fun _ => ?_)
        refine ⟨_, rfl, rfl, _, rfl, ?_⟩
        refine ite2 (fun hz => absurd hz (by decide +kernel)) (fun _ => ?_)
        refine ⟨_, rfl, d, l, _, rfl, D4, by decide, by decide, fun a H5 a0 a1 D5 kp5 => ?_⟩
        have kpD := kpC.trans kp5
        have hA5 := hA.kept D4 kp5
        have hB5 := hB.kept D4 kp5
        refine ⟨_, _, rfl, rfl, .inl ⟨by decide, by decide⟩, (by show 2 ≤ sizeLine; decide), fun t1 ht1 => ?_⟩
        have D6 := D5.new (o := .tup [V.str "number", V.int (2 * a)]) ht1
        have kpE : Kept d l H (upd H5 t1 (.tup [V.str "number", V.int (2 * a)])) := kpD.new (kpD.free D5 ht1)
        have hA6 := hA5.new (o := .tup [V.str "number", V.int (2 * a)]) ht1
        have hB6 := hB5.new (o := .tup [V.str "number", V.int (2 * a)]) ht1
        have hN6 : TmAt (upd H5 t1 (.tup [V.str "number", V.int (2 * a)])) (.num (2 * a)) t1 := upd_same
        refine ⟨_, rfl, (by show 3 ≤ sizeLine; decide), fun t2 ht2 => ?_⟩
        have D7 := D6.new (o := .tup [V.str "multiply", V.ref t1, V.ref p2]) ht2
        have kpF : Kept d l H (upd (upd H5 t1 (.tup [V.str "number", V.int (2 * a)])) t2 (.tup [V.str "multiply", V.ref t1, V.ref p2])) := kpE.new (kpE.free D6 ht2)
        have hA7 := hA6.new (o := .tup [V.str "multiply", V.ref t1, V.ref p2]) ht2
        have hM7 : TmAt (upd (upd H5 t1 (.tup [V.str "number", V.int (2 * a)])) t2 (.tup [V.str "multiply", V.ref t1, V.ref p2])) (.two .mul (.num (2 * a)) T2) t2 := ⟨t1, p2, upd_same, hN6.new ht2, hB6.new ht2⟩
        refine ⟨_, rfl, d, l, _, rfl, D7, by decide, by decide, fun b H8 b0 b1 D8 kp8 => ?_⟩
        have kpG := kpF.trans kp8
        have hA8 := hA7.kept D7 kp8
        have hM8 := hM7.kept D7 kp8
        refine ⟨_, _, rfl, rfl, .inl ⟨by decide, by decide⟩, _, _, rfl, rfl, (by show 2 ≤ sizeLine; decide), fun t3 ht3 => ?_⟩
        have D9 := D8.new (o := .tup [V.str "number", V.int (2 * b + 1)]) ht3
        have kpH : Kept d l H (upd H8 t3 (.tup [V.str "number", V.int (2 * b + 1)])) := kpG.new (kpG.free D8 ht3)
        have hA9 := hA8.new (o := .tup [V.str "number", V.int (2 * b + 1)]) ht3
        have hM9 := hM8.new (o := .tup [V.str "number", V.int (2 * b + 1)]) ht3
        have hN9 : TmAt (upd H8 t3 (.tup [V.str "number", V.int (2 * b + 1)])) (.num (2 * b + 1)) t3 := upd_same
        refine ⟨(by show 3 ≤ sizeLine; decide), fun t4 ht4 => ?_⟩
        have D10 := D9.new (o := .tup [V.str "add", V.ref t2, V.ref t3]) ht4
        have kpI : Kept d l H (upd (upd H8 t3 (.tup [V.str "number", V.int (2 * b + 1)])) t4 (.tup [V.str "add", V.ref t2, V.ref t3])) := kpH.new (kpH.free D9 ht4)
        have hA10 := hA9.new (o := .tup [V.str "add", V.ref t2, V.ref t3]) ht4
        have hO10 : TmAt (upd (upd H8 t3 (.tup [V.str "number", V.int (2 * b + 1)])) t4 (.tup [V.str "add", V.ref t2, V.ref t3])) (.two .add (.two .mul (.num (2 * a)) T2) (.num (2 * b + 1))) t4 := ⟨t2, t3, upd_same, hM9.new ht4, hN9.new ht4⟩
        have hOk : Tm.ok (.two .add (.two .mul (.num (2 * a)) T2) (.num (2 * b + 1))) := ⟨⟨⟨by omega, by omega⟩, ok2⟩, by omega, by omega⟩
        have hDp : Tm.depth (.two .add (.two .mul (.num (2 * a)) T2) (.num (2 * b + 1))) = max (max 0 T2.depth + 1) 0 + 1 := rfl
        refine ⟨_, rfl, rfl, _, rfl, ?_⟩
        refine ite2 (fun _ => ?_) (fun hz => absurd (by decide +kernel) hz)
        exact ⟨_, rfl, _, rfl, _, rfl, (by show 3 ≤ sizeLine; decide), fun p hp => k p (.two .over T1 (.two .add (.two .mul (.num (2 * a)) T2) (.num (2 * b + 1)))) _ ⟨ok1, hOk⟩ (by show max T1.depth (Tm.depth (.two .add (.two .mul (.num (2 * a)) T2) (.num (2 * b + 1)))) + 1 ≤ 3 * (n + 1); rw [hDp]; omega) ⟨p1, t4, upd_same, hA10.new hp, hO10.new hp⟩ (D10.new hp) (kpI.new (kpI.free D10 hp))⟩
      · subst e
        refine ite2 (fun hz => absurd hz (by decide +kernel)) (fun _ => ?_)
        refine ⟨_, rfl, rfl, _, rfl, ?_⟩
        refine ite2 (fun hz => absurd hz (by decide +kernel)) (fun _ => ?_)
        refine ⟨_, rfl, rfl, _, rfl, ?_⟩
        refine ite2 (fun hz => absurd hz (by decide +kernel)) (fun _ => ?_)
        refine ⟨_, rfl, rfl, _, rfl, ?_⟩
        refine ite2 (fun hz => absurd hz (by decide +kernel)) (fun _ => ?_)
        refine ⟨_, rfl, d, l, _, rfl, D4, by decide, by decide, fun a H5 a0 a1 D5 kp5 => ?_⟩
        have kpD := kpC.trans kp5
        have hA5 := hA.kept D4 kp5
        have hB5 := hB.kept D4 kp5
        refine ⟨_, _, rfl, rfl, .inl ⟨by decide, by decide⟩, (by show 2 ≤ sizeLine; decide), fun t1 ht1 => ?_⟩
        have D6 := D5.new (o := .tup [V.str "number", V.int (2 * a)]) ht1
        have kpE : Kept d l H (upd H5 t1 (.tup [V.str "number", V.int (2 * a)])) := kpD.new (kpD.free D5 ht1)
        have hA6 := hA5.new (o := .tup [V.str "number", V.int (2 * a)]) ht1
        have hB6 := hB5.new (o := .tup [V.str "number", V.int (2 * a)]) ht1
        have hN6 : TmAt (upd H5 t1 (.tup [V.str "number", V.int (2 * a)])) (.num (2 * a)) t1 := upd_same
        refine ⟨_, rfl, (by show 3 ≤ sizeLine; decide), fun t2 ht2 => ?_⟩
        have D7 := D6.new (o := .tup [V.str "multiply", V.ref t1, V.ref p2]) ht2
        have kpF : Kept d l H (upd (upd H5 t1 (.tup [V.str "number", V.int (2 * a)])) t2 (.tup [V.str "multiply", V.ref t1, V.ref p2])) := kpE.new (kpE.free D6 ht2)
        have hA7 := hA6.new (o := .tup [V.str "multiply", V.ref t1, V.ref p2]) ht2
        have hM7 : TmAt (upd (upd H5 t1 (.tup [V.str "number", V.int (2 * a)])) t2 (.tup [V.str "multiply", V.ref t1, V.ref p2])) (.two .mul (.num (2 * a)) T2) t2 := ⟨t1, p2, upd_same, hN6.new ht2, hB6.new ht2⟩
        refine ⟨_, rfl, d, l, _, rfl, D7, by decide, by decide, fun b H8 b0 b1 D8 kp8 => ?_⟩
        have kpG := kpF.trans kp8
        have hA8 := hA7.kept D7 kp8
        have hM8 := hM7.kept D7 kp8
        refine ⟨_, _, rfl, rfl, .inl ⟨by decide, by decide⟩, _, _, rfl, rfl, (by show 2 ≤ sizeLine; decide), fun t3 ht3 => ?_⟩
        have D9 := D8.new (o := .tup [V.str "number", V.int (2 * b + 1)]) ht3
        have kpH : Kept d l H (upd H8 t3 (.tup [V.str "number", V.int (2 * b + 1)])) := kpG.new (kpG.free D8 ht3)
        have hA9 := hA8.new (o := .tup [V.str "number", V.int (2 * b + 1)]) ht3
        have hM9 := hM8.new (o := .tup [V.str "number", V.int (2 * b + 1)]) ht3
        have hN9 : TmAt (upd H8 t3 (.tup [V.str "number", V.int (2 * b + 1)])) (.num (2 * b + 1)) t3 := upd_same
        refine ⟨(by show 3 ≤ sizeLine; decide), fun t4 ht4 => ?_⟩
        have D10 := D9.new (o := .tup [V.str "add", V.ref t2, V.ref t3]) ht4
        have kpI : Kept d l H (upd (upd H8 t3 (.tup [V.str "number", V.int (2 * b + 1)])) t4 (.tup [V.str "add", V.ref t2, V.ref t3])) := kpH.new (kpH.free D9 ht4)
        have hA10 := hA9.new (o := .tup [V.str "add", V.ref t2, V.ref t3]) ht4
        have hO10 : TmAt (upd (upd H8 t3 (.tup [V.str "number", V.int (2 * b + 1)])) t4 (.tup [V.str "add", V.ref t2, V.ref t3])) (.two .add (.two .mul (.num (2 * a)) T2) (.num (2 * b + 1))) t4 := ⟨t2, t3, upd_same, hM9.new ht4, hN9.new ht4⟩
        have hOk : Tm.ok (.two .add (.two .mul (.num (2 * a)) T2) (.num (2 * b + 1))) := ⟨⟨⟨by omega, by omega⟩, ok2⟩, by omega, by omega⟩
        have hDp : Tm.depth (.two .add (.two .mul (.num (2 * a)) T2) (.num (2 * b + 1))) = max (max 0 T2.depth + 1) 0 + 1 := rfl
        refine ⟨_, rfl, rfl, _, rfl, ?_⟩
        refine ite2 (fun hz => absurd hz (by decide +kernel)) (fun _ => ?_)
        exact ⟨_, rfl, _, rfl, _, rfl, (by show 3 ≤ sizeLine; decide), fun p hp => k p (.two .rai (.two .add (.two .mul (.num (2 * a)) T2) (.num (2 * b + 1))) T1) _ ⟨hOk, ok1⟩ (by show max (Tm.depth (.two .add (.two .mul (.num (2 * a)) T2) (.num (2 * b + 1)))) T1.depth + 1 ≤ 3 * (n + 1); rw [hDp]; omega) ⟨t4, p1, upd_same, hO10.new hp, hA10.new hp⟩ (D10.new hp) (kpI.new (kpI.free D10 hp))⟩
end
end My

set_option Elab.async false
set_option linter.all false
set_option maxRecDepth 100000
set_option maxHeartbeats 1000000
namespace My
open PySem L2 MyR

/-! ### values that constructors are tried with -/
inductive Arg (H : Hp) : V → Prop
  | non : Arg H .non
  | bl (b : Bool) : Arg H (.bl b)
  | int (i : Int) : Arg H (.int i)
  | str (z : Str) (h : z.length ≤ 100) : Arg H (.str z)
  | tup {a : Addr} {xs : List V} (h : H a = some (.tup xs)) : Arg H (.ref a)
def bI : V → Bool
  | .int _ => true
  | .bl _ => true
  | _ => false
def bB : V → Bool
  | .bl _ => true
  | _ => false
def bS : V → Bool
  | .str _ => true
  | _ => false
def isI : V → Bool
  | .int _ => true
  | _ => false
theorem isi_int {K : PySem.W.Frag} {H : Hp} {v : V} (h : Arg H v) : ∃ t, TyX K H v t ∧ PySem.W.kitOne K t (.type "int") = some (bI v) := by
  cases h with
  | non => exact ⟨_, .base .non, kit_ty (a := "NoneType") (b := "int") (r := false) (by decide +kernel)⟩
  | bl b => exact ⟨_, .base (.bl b), kit_ty (a := "bool") (b := "int") (r := true) (by decide +kernel)⟩
  | int i => exact ⟨_, .base (.int i), kit_ty (a := "int") (b := "int") (r := true) (by decide +kernel)⟩
  | str z hz => exact ⟨_, .base (.str z), kit_ty (a := "str") (b := "int") (r := false) (by decide +kernel)⟩
  | tup e => exact ⟨_, .base (.tup e), kit_ty (a := "tuple") (b := "int") (r := false) (by decide +kernel)⟩
theorem isi_bool {K : PySem.W.Frag} {H : Hp} {v : V} (h : Arg H v) : ∃ t, TyX K H v t ∧ PySem.W.kitOne K t (.type "bool") = some (bB v) := by
  cases h with
  | non => exact ⟨_, .base .non, kit_ty (a := "NoneType") (b := "bool") (r := false) (by decide +kernel)⟩
  | bl b => exact ⟨_, .base (.bl b), kit_ty (a := "bool") (b := "bool") (r := true) (by decide +kernel)⟩
  | int i => exact ⟨_, .base (.int i), kit_ty (a := "int") (b := "bool") (r := false) (by decide +kernel)⟩
  | str z hz => exact ⟨_, .base (.str z), kit_ty (a := "str") (b := "bool") (r := false) (by decide +kernel)⟩
  | tup e => exact ⟨_, .base (.tup e), kit_ty (a := "tuple") (b := "bool") (r := false) (by decide +kernel)⟩
theorem isi_str {K : PySem.W.Frag} {H : Hp} {v : V} (h : Arg H v) : ∃ t, TyX K H v t ∧ PySem.W.kitOne K t (.type "str") = some (bS v) := by
  cases h with
  | non => exact ⟨_, .base .non, kit_ty (a := "NoneType") (b := "str") (r := false) (by decide +kernel)⟩
  | bl b => exact ⟨_, .base (.bl b), kit_ty (a := "bool") (b := "str") (r := false) (by decide +kernel)⟩
  | int i => exact ⟨_, .base (.int i), kit_ty (a := "int") (b := "str") (r := false) (by decide +kernel)⟩
  | str z hz => exact ⟨_, .base (.str z), kit_ty (a := "str") (b := "str") (r := true) (by decide +kernel)⟩
  | tup e => exact ⟨_, .base (.tup e), kit_ty (a := "tuple") (b := "str") (r := false) (by decide +kernel)⟩
/-- the tables of the program -/
structure Tabs (K : PySem.W.Frag) (mg : Str → Option Value) : Prop where
  limit : ∃ t, mg "LIMIT" = some (.int 18446744073709551616 t)
  longest : ∃ t, mg "LONGEST_NAME" = some (.int 8 t)
  times : ∃ t, mg "MOST_TIMES" = some (.int 64 t)
  words : ∃ a, mg "WORDS" = some (.ref a) ∧ ∀ H, SqT K H a ((keptL.map wd).map V.str)
  moduli : ∃ a, mg "MODULI" = some (.ref a) ∧ ∀ H, SqT K H a ([2, 4, 8, 16, 32, 64].map V.int)
theorem le_a (c : Nat) : (!decide ((wd [c]).cps.toList < (Str.ofString "a").cps.toList)) = decide (97 ≤ c) := by
  rw [show (Str.ofString "a").cps.toList = [97] from by decide +kernel, wd_cps]
  by_cases h : c < 97
  · rw [decide_eq_true (show [c] < [97] from List.cons_lt_cons_iff.mpr (.inl h)), decide_eq_false (show ¬ 97 ≤ c by omega)]
    rfl
  · have : ¬ [c] < [97] := fun e => by
      rcases List.cons_lt_cons_iff.mp e with q | ⟨_, q⟩
      · exact h q
      · exact absurd q (List.not_lt_nil _)
    rw [decide_eq_false this, decide_eq_true (show 97 ≤ c by omega)]
    rfl
theorem le_z (c : Nat) : (!decide ((Str.ofString "z").cps.toList < (wd [c]).cps.toList)) = decide (c ≤ 122) := by
  rw [show (Str.ofString "z").cps.toList = [122] from by decide +kernel, wd_cps]
  by_cases h : 122 < c
  · rw [decide_eq_true (show [122] < [c] from List.cons_lt_cons_iff.mpr (.inl h)), decide_eq_false (show ¬ c ≤ 122 by omega)]
    rfl
  · have : ¬ [122] < [c] := fun e => by
      rcases List.cons_lt_cons_iff.mp e with q | ⟨_, q⟩
      · exact h q
      · exact absurd q (List.not_lt_nil _)
    rw [decide_eq_false this, decide_eq_true (show c ≤ 122 by omega)]
    rfl
def lowC (c : Nat) : Bool := decide (97 ≤ c) && decide (c ≤ 122)
theorem take_succ_map {α : Type} (f : Nat → α) (l : List Nat) (i c : Nat) (h : l[i]? = some c) : (l.take (i + 1)).map f = (l.take i).map f ++ [f c] := by
  rw [List.take_add_one, h, List.map_append]
  rfl
def spIsInt : Sp := fun vs H Q _ => ∃ v, vs = [v] ∧ Arg H v ∧ Q (.bl (isI v)) H
def btw : V → Int → Int → Bool
  | .int i, lo, hi => decide (lo ≤ i) && decide (i ≤ hi)
  | _, _, _ => false
def spBtw : Sp := fun vs H Q _ => ∃ v lo hi, vs = [v, .int lo, .int hi] ∧ Arg H v ∧ Q (.bl (btw v lo hi)) H
def spSmall : Sp := fun vs H Q _ => ∃ v, vs = [v] ∧ Arg H v ∧ Q (.bl (btw v (-18446744073709551615) 18446744073709551615)) H
def nmV : V → Bool
  | .str z => isNm z.cps.toList
  | _ => false
def spIsName : Sp := fun vs H Q _ => ∃ v, vs = [v] ∧ Arg H v ∧ ∀ H', Same H H' → Q (.bl (nmV v)) H'
section
variable {P : Program} {w : World} {K : PySem.W.Frag} {mg : Str → Option Value} {base : Heap}
abbrev s_is_integer : Stmt := top 8
abbrev N_is_integer : List Str := ["value"]
theorem sc_is_integer : FnScope N_is_integer ["value"] (defScope s_is_integer) := ⟨rfl, rfl, rfl, by decide +kernel, rfl, by decide +kernel, by decide +kernel⟩
theorem ok_is_integer {f : Addr} {fd : FuncData} (F : Fun K "is_integer" "is_integer" s_is_integer f fd) (T : Glob mg) : FnOk P w K mg base CX0 1 f fd ["value"] spIsInt := by
  refine F.ok sc_is_integer (fun vs H Q E h => ?_) (fun cdv A outer s H vs Q E hr h => ?_)
  · obtain ⟨v, rfl, _⟩ := h
    rfl
  · obtain ⟨v, rfl, ha, k⟩ := h
    refine ⟨_, (pss_one (ps_ret (pe_and (pe_callB call_isi (by rfl) T.g_isinstance (by decide +kernel) (pa_cons (pv 0) (pa_cons (pe_bltn (v := .ty "int") (by rfl) T.g_int (by decide +kernel) rfl) pa_nil))) (pe_one (pe_not (pe_callB call_isi (by rfl) T.g_isinstance (by decide +kernel) (pa_cons (pv 0) (pa_cons (pe_bltn (v := .ty "bool") (by rfl) T.g_bool (by decide +kernel) rfl) pa_nil)))))))), ?_⟩
    obtain ⟨t, ht, e⟩ := isi_int (K := K) ha
    obtain ⟨t2, ht2, e2⟩ := isi_bool (K := K) ha
    refine ⟨_, rfl, _, _, t, _, bI v, rfl, .ty "int", ht, e, _, rfl, ?_⟩
    cases ha with
    | non => exact k
    | bl b => exact ⟨_, rfl, _, _, t2, _, true, rfl, .ty "bool", ht2, e2, _, rfl, k⟩
    | int i => exact ⟨_, rfl, _, _, t2, _, false, rfl, .ty "bool", ht2, e2, _, rfl, k⟩
    | str z hz => exact k
    | tup e => exact k
abbrev s_is_between : Stmt := top 9
abbrev N_is_between : List Str := ["value", "least", "most"]
theorem sc_is_between : FnScope N_is_between ["value", "least", "most"] (defScope s_is_between) := ⟨rfl, rfl, rfl, by decide +kernel, rfl, by decide +kernel, by decide +kernel⟩
theorem ok_is_between {f : Addr} {fd : FuncData} (F : Fun K "is_between" "is_between" s_is_between f fd) (D_is_integer : Df P w K mg base 1 "is_integer" ["value"] spIsInt) : FnOk P w K mg base CX0 2 f fd ["value", "least", "most"] spBtw := by
  refine F.ok sc_is_between (fun vs H Q E h => ?_) (fun cdv A outer s H vs Q E hr h => ?_)
  · obtain ⟨v, lo, hi, rfl, _⟩ := h
    rfl
  · obtain ⟨v, lo, hi, rfl, ha, k⟩ := h
    refine ⟨_, (pss_one (ps_ret (pe_and (pe_call D_is_integer.ok (hr.mono (by decide)) (by rfl) D_is_integer.g D_is_integer.kp D_is_integer.b .nil pass0 (pa_cons (pv 0) pa_nil)) (pe_one (pe_chain op_le op_le (pv 1) (pv 0) (pv 2)))))), ?_⟩
    refine ⟨_, rfl, v, rfl, ha, _, rfl, ?_⟩
    cases ha with
    | non => exact k
    | bl b => exact k
    | str z hz => exact k
    | tup e => exact k
    | int i =>
      refine ⟨_, rfl, _, rfl, _, _, rfl, rfl, _, rfl, ?_⟩
      refine ite2 (fun h1 => ?_) (fun h1 => ?_)
      · refine ⟨_, rfl, _, _, rfl, rfl, ?_⟩
        have e : btw (.int i) lo hi = decide (i ≤ hi) := by
          show (decide (lo ≤ i) && decide (i ≤ hi)) = _
          rw [h1, Bool.true_and]
        rw [e] at k
        exact k
      · have e : btw (.int i) lo hi = false := by
          show (decide (lo ≤ i) && decide (i ≤ hi)) = _
          rw [Bool.eq_false_iff.mpr h1, Bool.false_and]
        rw [e] at k
        exact k
abbrev s_is_small : Stmt := top 10
abbrev N_is_small : List Str := ["value"]
theorem sc_is_small : FnScope N_is_small ["value"] (defScope s_is_small) := ⟨rfl, rfl, rfl, by decide +kernel, rfl, by decide +kernel, by decide +kernel⟩
theorem ok_is_small {f : Addr} {fd : FuncData} (F : Fun K "is_small" "is_small" s_is_small f fd) (T2 : Tabs K mg) (D_is_integer : Df P w K mg base 1 "is_integer" ["value"] spIsInt) : FnOk P w K mg base CX0 2 f fd ["value"] spSmall := by
  obtain ⟨tL, hL⟩ := T2.limit
  refine F.ok sc_is_small (fun vs H Q E h => ?_) (fun cdv A outer s H vs Q E hr h => ?_)
  · obtain ⟨v, rfl, _⟩ := h
    rfl
  · obtain ⟨v, rfl, ha, k⟩ := h
    refine ⟨_, (pss_one (ps_ret (pe_and (pe_call D_is_integer.ok (hr.mono (by decide)) (by rfl) D_is_integer.g D_is_integer.kp D_is_integer.b .nil pass0 (pa_cons (pv 0) pa_nil)) (pe_one (pe_chain op_lt op_lt (pe_un un_neg (pe_glob (v := .int 18446744073709551616) rfl hL ⟨_, rfl⟩)) (pv 0) (pe_glob (v := .int 18446744073709551616) rfl hL ⟨_, rfl⟩)))))), ?_⟩
    refine ⟨_, rfl, v, rfl, ha, _, rfl, ?_⟩
    cases ha with
    | non => exact k
    | bl b => exact k
    | str z hz => exact k
    | tup e => exact k
    | int i =>
      refine ⟨_, rfl, _, rfl, _, _, rfl, rfl, _, rfl, ?_⟩
      refine ite2 (fun h1 => ?_) (fun h1 => ?_)
      · refine ⟨_, _, rfl, rfl, ?_⟩
        have h2 := of_decide_eq_true h1
        have e : btw (.int i) (-18446744073709551615) 18446744073709551615 = decide (i < 18446744073709551616) := by
          show (decide (-18446744073709551615 ≤ i) && decide (i ≤ 18446744073709551615)) = _
          rw [decide_eq_true (show -18446744073709551615 ≤ i by omega), Bool.true_and]
          exact decide_eq_decide.mpr (by omega)
        rw [e] at k
        exact k
      · have h2 : ¬ (-18446744073709551616 < i) := fun q => h1 (decide_eq_true q)
        have e : btw (.int i) (-18446744073709551615) 18446744073709551615 = false := by
          show (decide (-18446744073709551615 ≤ i) && decide (i ≤ 18446744073709551615)) = _
          rw [decide_eq_false (show ¬ -18446744073709551615 ≤ i by omega), Bool.false_and]
        rw [e] at k
        exact k
abbrev s_is_name : Stmt := top 11
abbrev N_is_name : List Str := ["value", "letter"]
theorem sc_is_name : FnScope N_is_name ["value"] (defScope s_is_name) := ⟨rfl, rfl, rfl, by decide +kernel, rfl, by decide +kernel, by decide +kernel⟩
theorem ok_is_name {f : Addr} {fd : FuncData} (F : Fun K "is_name" "is_name" s_is_name f fd) (T : Glob mg) (T2 : Tabs K mg) : FnOk P w K mg base CX0 1 f fd ["value"] spIsName := by
  obtain ⟨tN, hN⟩ := T2.longest
  obtain ⟨aW, hW, hWs⟩ := T2.words
  refine F.ok sc_is_name (fun vs H Q E h => ?_) (fun cdv A outer s H vs Q E hr h => ?_)
  · obtain ⟨v, rfl, _⟩ := h
    rfl
  · obtain ⟨v, rfl, ha, k⟩ := h
    have nd := sc_is_name.nd
    refine ⟨_, (pss_cons (ps_if (PW.pt (pw_or (pt_not (pt_val (pe_callB call_isi (by rfl) T.g_isinstance (by decide +kernel) (pa_cons (pv 0) (pa_cons (pe_bltn (v := .ty "str") (by rfl) T.g_str (by decide +kernel) rfl) pa_nil))))) (pw_or1 (pt_not (pt_chain op_le op_le pe_int (pe_callB call_len_str (by rfl) T.g_len PySem.boot_len (pa_cons (pv 0) pa_nil)) (pe_glob (v := .int 8) rfl hN ⟨_, rfl⟩))))))
    (pss_one (ps_ret pe_bl))
    pss_nil)
    (pss_one (ps_ret (pe_and (pe_cmpR op_notIn_seq (pv 0) (pe_glob (v := .ref aW) rfl hW rfl) (by rfl)) (pe_one (pe_callB (cr_all rfl) (by rfl) T.g_all (by decide +kernel) (pa_cons (pe_lc (own := [("letter", 1)]) (g := gName 1) (tt := tYes) rfl nd (pi_str (pv 0)) (blkOk_by (N := N_is_name) (sc := defScope s_is_name) (by decide +kernel)) (fun _ _ _ _ _ => pg_name (i := 1) nd rfl (Or.inl rfl)) (fun _ _ _ _ _ => pts_nil) (fun _ _ _ _ _ => (pe_chain op_le_str op_le_str pe_str (pv 1) pe_str))) pa_nil))))))), ?_⟩
    obtain ⟨t, ht, e⟩ := isi_str (K := K) ha
    refine ⟨_, rfl, _, _, t, _, bS v, rfl, .ty "str", ht, e, _, rfl, ?_⟩
    have no : ∀ (hv : nmV v = false), Q (.bl false) H := fun hv => by
      have q := k H (Same.refl H)
      rw [hv] at q
      exact q
    cases ha with
    | non => exact no rfl
    | bl b => exact no rfl
    | int i => exact no rfl
    | tup e => exact no rfl
    | str z hz =>
      have hzl : z.length = z.cps.toList.length := by simp [Str.length]
      have hnm : nmV (.str z) = (decide (1 ≤ z.cps.toList.length) && decide (z.cps.toList.length ≤ 8) && (z.cps.toList.all lowC) && !keptL.contains z.cps.toList) := rfl
      refine ⟨_, rfl, z, rfl, Nat.le_of_lt (small1000 (by omega)), ?_⟩
      refine ⟨_, _, rfl, rfl, _, rfl, ?_⟩
      refine ite2 (fun h1 => ?_) (fun h1 => ?_)
      · have h1' := of_decide_eq_true h1
        refine ⟨_, _, rfl, rfl, _, rfl, ?_⟩
        by_cases h8 : (z.length : Int) ≤ 8
        · rw [decide_eq_true h8]
          refine ⟨_, rfl, aW, _, rfl, .inr (hWs _), rfl, kept_flat, _, rfl, ?_⟩
          have e1 : inV (.str z) ((keptL.map wd).map V.str) = keptL.contains z.cps.toList := by
            have := in_kept (l := z.cps.toList)
            rwa [wd_of] at this
          refine ite2 (fun hk => ?_) (fun hk => ?_)
          · have hk2 : keptL.contains z.cps.toList = false := by
              rw [← e1]
              cases e : inV (.str z) ((keptL.map wd).map V.str) with
              | false => rfl
              | true =>
                have hk' : (!inV (.str z) ((keptL.map wd).map V.str)) = true := hk
                rw [e] at hk'
                cases hk'
            refine ⟨_, rfl, z, rfl, fun D hD => ?_⟩
            refine lc_it walk_str (fun i H1 => Same H H1 ∧ H1 D = some (.lst ((z.cps.toList.take i).map fun c => V.bl (lowC c)))) ⟨fun b o e => by rw [upd_ne (ne_of_none e hD)]; exact e, upd_same⟩ (fun _ _ _ _ => trivial) ?_ ?_
            · rintro i x H1 H2 hi ⟨sm, h2⟩ ⟨rfl, c, hc, rfl⟩
              refine ⟨rfl, ?_⟩
              have hc2 : z.cps.toList[i]? = some c := by rw [Array.getElem?_toList]; exact hc
              have fin : ∀ (b : Bool), b = lowC c → ∃ acc, H2 D = some (.lst acc) ∧ acc.length < sizeLine ∧ (Same H (upd H2 D (.lst (acc ++ [.bl b]))) ∧ (upd H2 D (.lst (acc ++ [.bl b]))) D = some (.lst ((z.cps.toList.take (i + 1)).map fun c => V.bl (lowC c)))) := fun b hb => by
                subst hb
                refine ⟨_, h2, by rw [List.length_map, List.length_take]; exact small1000 (by omega), fun a o e => ?_, ?_⟩
                · rw [upd_ne (ne_of_none e hD)]; exact sm a o e
                · rw [upd_same, take_succ_map (fun c => V.bl (lowC c)) _ _ _ hc2]
              refine ⟨_, rfl, "a", wd [c], rfl, rfl, _, rfl, ?_⟩
              refine ite2 (fun ha => ?_) (fun ha => ?_)
              · refine ⟨wd [c], "z", rfl, rfl, fin _ ?_⟩
                rw [le_z]
                rw [le_a] at ha
                unfold lowC
                rw [ha, Bool.true_and]
              · refine fin _ ?_
                rw [le_a] at ha
                unfold lowC
                rw [Bool.eq_false_iff.mpr ha, Bool.false_and]
            · rintro H1 ⟨sm, h2⟩
              have hl : z.cps.toList.take z.cps.size = z.cps.toList := List.take_of_length_le (by rw [Array.length_toList]; exact Nat.le_refl _)
              rw [hl] at h2
              refine ⟨D, z.cps.toList.map lowC, rfl, SqL.of (by rw [List.map_map]; exact h2), ?_⟩
              have q := k H1 sm
              rw [hnm, decide_eq_true (show 1 ≤ z.cps.toList.length by omega), decide_eq_true (show z.cps.toList.length ≤ 8 by omega), hk2] at q
              simp only [Bool.true_and, Bool.not_false, Bool.and_true] at q
              have e5 : (z.cps.toList.map lowC).all id = z.cps.toList.all lowC := by rw [List.all_map]; rfl
              rw [← e5] at q
              exact q
          · have hk2 : keptL.contains z.cps.toList = true := by
              rw [← e1]
              cases e : inV (.str z) ((keptL.map wd).map V.str) with
              | true => rfl
              | false =>
                have hk' : ¬ (!inV (.str z) ((keptL.map wd).map V.str)) = true := hk
                rw [e] at hk'
                exact absurd rfl hk'
            exact no (by rw [hnm, hk2, Bool.not_true, Bool.and_false])
        · rw [decide_eq_false h8]
          exact no (by rw [hnm, decide_eq_false (show ¬ z.cps.toList.length ≤ 8 by omega), Bool.and_false, Bool.false_and, Bool.false_and])
      · have h1' : ¬ (1 ≤ (z.length : Int)) := fun q => h1 (decide_eq_true q)
        exact ⟨_, rfl, no (by rw [hnm, decide_eq_false (show ¬ 1 ≤ z.cps.toList.length by omega), Bool.false_and, Bool.false_and, Bool.false_and])⟩
end
end My

set_option Elab.async false
set_option linter.all false
set_option maxRecDepth 100000
set_option maxHeartbeats 1000000
namespace MyR
open PySem PySem.Spec PyProof.Rows L2
section
variable {X : Cx} {C : Addr} {bmB : List Value} {B newId initId : String}
/-- X() of an own error class without an __init__ -/
theorem pmk_own0 {x : Str} {p pos : Pos} (F : ExcBaseFacts B newId initId bmB) (q : PySem.W.excIn X.K C bmB newId = true) (gC : X.mg x = some (.ref C)) (kC : PySem.W.keepIn X.K (.ref C) = true) (r : Raises X (.ref C)) (hg : Gl X x)
    (hdb : (x == ("__debug__" : Str)) = false := by decide) : PMk X (.Call (.Name x p) [] [] pos) (fun _ H Q => Q (.ref C) none H) := by
  intro pins s σ H Q I h
  refine wpAny_Call_Name_kw (ld_glob I hg gC ?_ hdb)
  refine PySem.W.callWith_K0 I.kIn kC ?_
  show wpAny _ _ (call (.ref C) []) _ _ _
  obtain ⟨bm, N, nm, qn, bs, hdct, sn, sub, ab, col, dd, k0, k1, k2, k3, k5, mN, hC, hN, hni, T⟩ := exc_obj I.kIn q
  obtain ⟨hp1, g1, d1, tk1, os1⟩ := s
  refine wpAny_call_exc_subT F T hC hN hni (fun h' e hm => ?_) (Nat.zero_le _)
  exact mk_of I hm r h (I.hok.gone hm.new)
end
end MyR

set_option Elab.async false
set_option linter.all false
set_option maxRecDepth 100000
set_option maxHeartbeats 1000000
namespace My
open PySem L2 MyR

theorem putF_ne {f g : Str} {v x : V} {r : List (Str × V)} (h : ¬ g = f) : putF f v ((g, x) :: r) = (g, x) :: putF f v r := by
  show (if g = f then (g, v) :: r else (g, x) :: putF f v r) = _
  rw [if_neg h]
/-- InvalidNode, as the top has made it -/
structure InvN (K : PySem.W.Frag) (mg : Str → Option Value) (c : Addr) : Prop where
  g : mg "InvalidNode" = some (.ref c)
  x : PySem.W.excIn K c [.type "ValueError", .type "Exception", .type "BaseException", .type "object"] "ValueError.__new__" = true
  k : PySem.W.keepIn K (.ref c) = true
  b : PySem.W.subIn K (.ref c) (.type "BaseException") = some true
  t : PySem.W.typeIn K (.ref c) = some (.type "type")
/-- the new object at p gets these fields -/
def Ini (H : Hp) (p C dx : Addr) (fs : List (Str × V)) (H' : Hp) : Prop := H' p = some (.ins C dx fs) ∧ ∀ b o, H b = some o → b ≠ p → H' b = some o
section
variable {P : Program} {w : World} {K : PySem.W.Frag} {mg : Str → Option Value} {base : Heap}
/-- two fields -/
def spI2 (C : Addr) (a b : Str) : Sp := fun vs H Q _ => ∃ (p dx : Addr) (x0 x1 : V), vs = [.ref p, x0, x1] ∧ H p = some (.ins C dx []) ∧ ∀ H', Ini H p C dx [(a, x0), (b, x1)] H' → Q .non H'
abbrev s_Add_init : Stmt := inClass (top 23) 0
abbrev N_Add_init : List Str := ["self", "one", "other"]
theorem sc_Add_init : FnScope N_Add_init ["self", "one", "other"] (defScope s_Add_init) := ⟨rfl, rfl, rfl, by decide +kernel, rfl, by decide +kernel, by decide +kernel⟩
theorem ok_Add_init {f C : Addr} {fd : FuncData} (F : Fun K "__init__" "Add.__init__" s_Add_init f fd) (cl : Cls K C) (n1 : NoAttr K C "one") (n2 : NoAttr K C "other") : FnOk P w K mg base CX0 1 f fd ["self", "one", "other"] (spI2 C "one" "other") := by
  refine F.ok sc_Add_init (fun vs H Q E h => ?_) (fun cdv A outer s H vs Q E hr h => ?_)
  · obtain ⟨p, dx, x0, x1, rfl, _⟩ := h
    rfl
  · obtain ⟨p, dx, x0, x1, rfl, hp, k⟩ := h
    refine ⟨_, (pss_cons (ps_fld (pv 0) (pv 1) rfl)
    (pss_one (ps_fld (pv 0) (pv 2) rfl))), ?_⟩
    refine ⟨_, rfl, _, rfl, p, C, dx, _, rfl, hp, cl, n1, (by show 0 < 1000; decide), _, rfl, _, rfl, p, C, dx, _, rfl, upd_same, cl, n2, (by show 1 < 1000; decide), k _ ⟨?_, fun b o e hb => ?_⟩⟩
    · rw [upd_same]
      show some (HO.ins C dx (putF "other" x1 (("one", x0) :: []))) = _
      rw [putF_ne (by decide +kernel)]
      rfl
    · rw [upd_ne hb, upd_ne hb]
      exact e
abbrev s_Subtract_init : Stmt := inClass (top 24) 1
abbrev N_Subtract_init : List Str := ["self", "one", "other"]
theorem sc_Subtract_init : FnScope N_Subtract_init ["self", "one", "other"] (defScope s_Subtract_init) := ⟨rfl, rfl, rfl, by decide +kernel, rfl, by decide +kernel, by decide +kernel⟩
theorem ok_Subtract_init {f C : Addr} {fd : FuncData} (F : Fun K "__init__" "Subtract.__init__" s_Subtract_init f fd) (cl : Cls K C) (n1 : NoAttr K C "one") (n2 : NoAttr K C "other") : FnOk P w K mg base CX0 1 f fd ["self", "one", "other"] (spI2 C "one" "other") := by
  refine F.ok sc_Subtract_init (fun vs H Q E h => ?_) (fun cdv A outer s H vs Q E hr h => ?_)
  · obtain ⟨p, dx, x0, x1, rfl, _⟩ := h
    rfl
  · obtain ⟨p, dx, x0, x1, rfl, hp, k⟩ := h
    refine ⟨_, (pss_cons (ps_fld (pv 0) (pv 1) rfl)
    (pss_one (ps_fld (pv 0) (pv 2) rfl))), ?_⟩
    refine ⟨_, rfl, _, rfl, p, C, dx, _, rfl, hp, cl, n1, (by show 0 < 1000; decide), _, rfl, _, rfl, p, C, dx, _, rfl, upd_same, cl, n2, (by show 1 < 1000; decide), k _ ⟨?_, fun b o e hb => ?_⟩⟩
    · rw [upd_same]
      show some (HO.ins C dx (putF "other" x1 (("one", x0) :: []))) = _
      rw [putF_ne (by decide +kernel)]
      rfl
    · rw [upd_ne hb, upd_ne hb]
      exact e
abbrev s_Multiply_init : Stmt := inClass (top 25) 2
abbrev N_Multiply_init : List Str := ["self", "one", "other"]
theorem sc_Multiply_init : FnScope N_Multiply_init ["self", "one", "other"] (defScope s_Multiply_init) := ⟨rfl, rfl, rfl, by decide +kernel, rfl, by decide +kernel, by decide +kernel⟩
theorem ok_Multiply_init {f C : Addr} {fd : FuncData} (F : Fun K "__init__" "Multiply.__init__" s_Multiply_init f fd) (cl : Cls K C) (n1 : NoAttr K C "one") (n2 : NoAttr K C "other") : FnOk P w K mg base CX0 1 f fd ["self", "one", "other"] (spI2 C "one" "other") := by
  refine F.ok sc_Multiply_init (fun vs H Q E h => ?_) (fun cdv A outer s H vs Q E hr h => ?_)
  · obtain ⟨p, dx, x0, x1, rfl, _⟩ := h
    rfl
  · obtain ⟨p, dx, x0, x1, rfl, hp, k⟩ := h
    refine ⟨_, (pss_cons (ps_fld (pv 0) (pv 1) rfl)
    (pss_one (ps_fld (pv 0) (pv 2) rfl))), ?_⟩
    refine ⟨_, rfl, _, rfl, p, C, dx, _, rfl, hp, cl, n1, (by show 0 < 1000; decide), _, rfl, _, rfl, p, C, dx, _, rfl, upd_same, cl, n2, (by show 1 < 1000; decide), k _ ⟨?_, fun b o e hb => ?_⟩⟩
    · rw [upd_same]
      show some (HO.ins C dx (putF "other" x1 (("one", x0) :: []))) = _
      rw [putF_ne (by decide +kernel)]
      rfl
    · rw [upd_ne hb, upd_ne hb]
      exact e
/-- one field -/
def spI1 (C : Addr) (a : Str) : Sp := fun vs H Q _ => ∃ (p dx : Addr) (x0 : V), vs = [.ref p, x0] ∧ H p = some (.ins C dx []) ∧ ∀ H', Ini H p C dx [(a, x0)] H' → Q .non H'
abbrev s_Half_init : Stmt := inClass (top 26) 1
abbrev N_Half_init : List Str := ["self", "inner"]
theorem sc_Half_init : FnScope N_Half_init ["self", "inner"] (defScope s_Half_init) := ⟨rfl, rfl, rfl, by decide +kernel, rfl, by decide +kernel, by decide +kernel⟩
theorem ok_Half_init {f C : Addr} {fd : FuncData} (F : Fun K "__init__" "Half.__init__" s_Half_init f fd) (cl : Cls K C) (n1 : NoAttr K C "inner") : FnOk P w K mg base CX0 1 f fd ["self", "inner"] (spI1 C "inner") := by
  refine F.ok sc_Half_init (fun vs H Q E h => ?_) (fun cdv A outer s H vs Q E hr h => ?_)
  · obtain ⟨p, dx, x0, rfl, _⟩ := h
    rfl
  · obtain ⟨p, dx, x0, rfl, hp, k⟩ := h
    refine ⟨_, (pss_one (ps_fld (pv 0) (pv 1) rfl)), ?_⟩
    refine ⟨_, rfl, _, rfl, p, C, dx, _, rfl, hp, cl, n1, (by show 0 < 1000; decide), k _ ⟨upd_same, fun b o e hb => ?_⟩⟩
    rw [upd_ne hb]
    exact e
abbrev s_Over_init : Stmt := inClass (top 27) 2
abbrev N_Over_init : List Str := ["self", "top", "bottom"]
theorem sc_Over_init : FnScope N_Over_init ["self", "top", "bottom"] (defScope s_Over_init) := ⟨rfl, rfl, rfl, by decide +kernel, rfl, by decide +kernel, by decide +kernel⟩
theorem ok_Over_init {f C : Addr} {fd : FuncData} (F : Fun K "__init__" "Over.__init__" s_Over_init f fd) (cl : Cls K C) (n1 : NoAttr K C "top") (n2 : NoAttr K C "bottom") : FnOk P w K mg base CX0 1 f fd ["self", "top", "bottom"] (spI2 C "top" "bottom") := by
  refine F.ok sc_Over_init (fun vs H Q E h => ?_) (fun cdv A outer s H vs Q E hr h => ?_)
  · obtain ⟨p, dx, x0, x1, rfl, _⟩ := h
    rfl
  · obtain ⟨p, dx, x0, x1, rfl, hp, k⟩ := h
    refine ⟨_, (pss_cons (ps_fld (pv 0) (pv 1) rfl)
    (pss_one (ps_fld (pv 0) (pv 2) rfl))), ?_⟩
    refine ⟨_, rfl, _, rfl, p, C, dx, _, rfl, hp, cl, n1, (by show 0 < 1000; decide), _, rfl, _, rfl, p, C, dx, _, rfl, upd_same, cl, n2, (by show 1 < 1000; decide), k _ ⟨?_, fun b o e hb => ?_⟩⟩
    · rw [upd_same]
      show some (HO.ins C dx (putF "bottom" x1 (("top", x0) :: []))) = _
      rw [putF_ne (by decide +kernel)]
      rfl
    · rw [upd_ne hb, upd_ne hb]
      exact e
abbrev s_Raised_init : Stmt := inClass (top 29) 1
abbrev N_Raised_init : List Str := ["self", "base", "exponent"]
theorem sc_Raised_init : FnScope N_Raised_init ["self", "base", "exponent"] (defScope s_Raised_init) := ⟨rfl, rfl, rfl, by decide +kernel, rfl, by decide +kernel, by decide +kernel⟩
theorem ok_Raised_init {f C : Addr} {fd : FuncData} (F : Fun K "__init__" "Raised.__init__" s_Raised_init f fd) (cl : Cls K C) (n1 : NoAttr K C "base") (n2 : NoAttr K C "exponent") : FnOk P w K mg base CX0 1 f fd ["self", "base", "exponent"] (spI2 C "base" "exponent") := by
  refine F.ok sc_Raised_init (fun vs H Q E h => ?_) (fun cdv A outer s H vs Q E hr h => ?_)
  · obtain ⟨p, dx, x0, x1, rfl, _⟩ := h
    rfl
  · obtain ⟨p, dx, x0, x1, rfl, hp, k⟩ := h
    refine ⟨_, (pss_cons (ps_fld (pv 0) (pv 1) rfl)
    (pss_one (ps_fld (pv 0) (pv 2) rfl))), ?_⟩
    refine ⟨_, rfl, _, rfl, p, C, dx, _, rfl, hp, cl, n1, (by show 0 < 1000; decide), _, rfl, _, rfl, p, C, dx, _, rfl, upd_same, cl, n2, (by show 1 < 1000; decide), k _ ⟨?_, fun b o e hb => ?_⟩⟩
    · rw [upd_same]
      show some (HO.ins C dx (putF "exponent" x1 (("base", x0) :: []))) = _
      rw [putF_ne (by decide +kernel)]
      rfl
    · rw [upd_ne hb, upd_ne hb]
      exact e
end
end My

set_option Elab.async false
set_option linter.all false
set_option maxRecDepth 100000
set_option maxHeartbeats 1000000
namespace My
open PySem L2 MyR

theorem bnot_t {b : Bool} (h : (!b) = true) : b = false := by cases b <;> simp_all
theorem bnot_f {b : Bool} (h : ¬ (!b) = true) : b = true := by cases b <;> simp_all
def okN (v : V) : Bool := btw v (-18446744073709551615) 18446744073709551615
def okCh (m r : V) : Bool := match m with
  | .int i => ([2, 4, 8, 16, 32, 64] : List Int).contains i && btw r 0 (i - 1)
  | _ => false
theorem in_moduli (i : Int) : inV (.int i) (([2, 4, 8, 16, 32, 64] : List Int).map V.int) = ([2, 4, 8, 16, 32, 64] : List Int).contains i := by
  unfold inV
  rw [List.any_map]
  generalize ([2, 4, 8, 16, 32, 64] : List Int) = ks
  induction ks with
  | nil => rfl
  | cons k ks ih =>
    rw [List.any_cons, List.contains_cons, ih]
    congr 1
    show (k == i) = (i == k)
    exact Bool.beq_comm
/-- a constructor that checks: ok of the values that it is given, the fields that it makes of them -/
def spCk (C cI : Addr) (n : Nat) (arg : List V → Hp → Prop) (ok : List V → Bool) (fs : List V → List (Str × V)) : Sp := fun vs H Q E => ∃ (p dx : Addr) (xs : List V), vs = .ref p :: xs ∧ xs.length = n ∧ H p = some (.ins C dx []) ∧ arg xs H ∧
  (ok xs = true → ∀ H1 H', Same H H1 → Ini H1 p C dx (fs xs) H' → Q .non H') ∧ (ok xs = false → ∀ H', Same H H' → E (.ref cI) none H')
/-- the same of values that are right -/
def spOk (C : Addr) (n : Nat) (arg : List V → Hp → Prop) (ok : List V → Bool) (fs : List V → List (Str × V)) : Sp := fun vs H Q _ => ∃ (p dx : Addr) (xs : List V), vs = .ref p :: xs ∧ xs.length = n ∧ H p = some (.ins C dx []) ∧ arg xs H ∧ ok xs = true ∧
  ∀ H1 H', Same H H1 → Ini H1 p C dx (fs xs) H' → Q .non H'
abbrev a1 : List V → Hp → Prop := fun xs H => ∃ v, xs = [v] ∧ Arg H v
abbrev a2 : List V → Hp → Prop := fun xs H => ∃ b v, xs = [b, v] ∧ Arg H v
abbrev a5 : List V → Hp → Prop := fun xs H => ∃ t m r y n, xs = [t, m, r, y, n] ∧ Arg H m ∧ Arg H r
abbrev oN : List V → Bool := fun xs => match xs with | [v] => okN v | _ => false
abbrev oM : List V → Bool := fun xs => match xs with | [v] => nmV v | _ => false
abbrev oP : List V → Bool := fun xs => match xs with | [_, v] => btw v 0 64 | _ => false
abbrev oC : List V → Bool := fun xs => match xs with | [_, m, r, _, _] => okCh m r | _ => false
abbrev fN : List V → List (Str × V) := fun xs => match xs with | [v] => [("value", v)] | _ => []
abbrev fM : List V → List (Str × V) := fun xs => match xs with | [v] => [("name", v)] | _ => []
abbrev fP : List V → List (Str × V) := fun xs => match xs with | [b, v] => [("base", b), ("times", v)] | _ => []
abbrev fC : List V → List (Str × V) := fun xs => match xs with | [t, m, r, y, n] => [("tested", t), ("modulus", m), ("rest", r), ("yes", y), ("no", n)] | _ => []
section
variable {P : Program} {w : World} {K : PySem.W.Frag} {mg : Str → Option Value} {base : Heap}
abbrev s_Number_init : Stmt := inClass (top 20) 0
abbrev N_Number_init : List Str := ["self", "value"]
theorem sc_Number_init : FnScope N_Number_init ["self", "value"] (defScope s_Number_init) := ⟨rfl, rfl, rfl, by decide +kernel, rfl, by decide +kernel, by decide +kernel⟩
theorem okX_Number_init {f C cI : Addr} {fd : FuncData} (F : Fun K "__init__" "Number.__init__" s_Number_init f fd) (T : Glob mg) (T2 : Tabs K mg) (IV : InvN K mg cI) (cl : Cls K C) (n0 : NoAttr K C "value") (D_is_small : Df P w K mg base 2 "is_small" ["value"] spSmall) : FnOk P w K mg base (L2.CX P w) 3 f fd ["self", "value"] (spCk C cI 1 a1 oN fN) := by
  refine F.okX sc_Number_init (fun vs H Q E h => ?_) (fun cdv A outer s H vs Q E hr h => ?_)
  · obtain ⟨p, dx, xs, rfl, hl, _⟩ := h
    exact congrArg (· + 1) hl
  · obtain ⟨p, dx, xs, rfl, hl, hp, ⟨v, rfl, ha⟩, k, kE⟩ := h
    have hu := hu_of hr
    have nd := sc_Number_init.nd
    have no : ∀ (b : Bool) (H1 : Hp), b = oN [v] → Same H H1 → (!b) = true → E (.ref cI) none H1 := fun b H1 hb sm hz => kE (by rw [← hb]; exact bnot_t hz) H1 sm
    refine ⟨_, (pss_cons (ps_if (pt_not (pt_val (pe_call D_is_small.ok (hr.mono (by decide)) (by rfl) D_is_small.g D_is_small.kp D_is_small.b .nil pass0 (pa_cons (pv 1) pa_nil))))
    (pss_one (ps_raise rfl (takes_of rfl rfl rfl rfl) (pmk_own0 PySem.F.excBase_ValueError IV.x IV.g IV.k (raises_own IV.b IV.t) rfl)))
    pss_nil)
    (pss_one (ps_fld (pv 0) (pv 1) rfl))), ?_⟩
    refine ⟨_, rfl, v, rfl, ha, _, rfl, ?_⟩
    refine ite2 (fun hz => no _ H rfl (Same.refl H) hz) (fun hz => ?_)
    have hv := bnot_f hz
    exact ⟨_, rfl, _, rfl, p, C, dx, _, rfl, hp, cl, n0, (by show 0 < 1000; decide), k hv H _ (Same.refl H) ⟨upd_same, fun b o e hb => by rw [upd_ne hb]; exact e⟩⟩

theorem ok_Number_init {f C cI : Addr} {fd : FuncData} (F : Fun K "__init__" "Number.__init__" s_Number_init f fd) (T : Glob mg) (T2 : Tabs K mg) (cl : Cls K C) (n0 : NoAttr K C "value") (D_is_small : Df P w K mg base 2 "is_small" ["value"] spSmall) : FnOk P w K mg base CX0 3 f fd ["self", "value"] (spOk C 1 a1 oN fN) := by
  refine F.ok sc_Number_init (fun vs H Q E h => ?_) (fun cdv A outer s H vs Q E hr h => ?_)
  · obtain ⟨p, dx, xs, rfl, hl, _⟩ := h
    exact congrArg (· + 1) hl
  · obtain ⟨p, dx, xs, rfl, hl, hp, ⟨v, rfl, ha⟩, hok, k⟩ := h
    have hu := hu_of hr
    have nd := sc_Number_init.nd
    have no : ∀ (b : Bool) (H1 : Hp), b = oN [v] → Same H H1 → (!b) = true → False := fun b H1 hb sm hz => by rw [hb, hok] at hz; cases hz
    refine ⟨_, (pss_cons (ps_if (pt_not (pt_val (pe_call D_is_small.ok (hr.mono (by decide)) (by rfl) D_is_small.g D_is_small.kp D_is_small.b .nil pass0 (pa_cons (pv 1) pa_nil))))
    (pss_one ps_never)
    pss_nil)
    (pss_one (ps_fld (pv 0) (pv 1) rfl))), ?_⟩
    refine ⟨_, rfl, v, rfl, ha, _, rfl, ?_⟩
    refine ite2 (fun hz => no _ H rfl (Same.refl H) hz) (fun hz => ?_)
    have hv := bnot_f hz
    exact ⟨_, rfl, _, rfl, p, C, dx, _, rfl, hp, cl, n0, (by show 0 < 1000; decide), k H _ (Same.refl H) ⟨upd_same, fun b o e hb => by rw [upd_ne hb]; exact e⟩⟩

abbrev s_Name_init : Stmt := inClass (top 21) 0
abbrev N_Name_init : List Str := ["self", "name"]
theorem sc_Name_init : FnScope N_Name_init ["self", "name"] (defScope s_Name_init) := ⟨rfl, rfl, rfl, by decide +kernel, rfl, by decide +kernel, by decide +kernel⟩
theorem okX_Name_init {f C cI : Addr} {fd : FuncData} (F : Fun K "__init__" "Name.__init__" s_Name_init f fd) (T : Glob mg) (T2 : Tabs K mg) (IV : InvN K mg cI) (cl : Cls K C) (n0 : NoAttr K C "name") (D_is_name : Df P w K mg base 1 "is_name" ["value"] spIsName) : FnOk P w K mg base (L2.CX P w) 2 f fd ["self", "name"] (spCk C cI 1 a1 oM fM) := by
  refine F.okX sc_Name_init (fun vs H Q E h => ?_) (fun cdv A outer s H vs Q E hr h => ?_)
  · obtain ⟨p, dx, xs, rfl, hl, _⟩ := h
    exact congrArg (· + 1) hl
  · obtain ⟨p, dx, xs, rfl, hl, hp, ⟨v, rfl, ha⟩, k, kE⟩ := h
    have hu := hu_of hr
    have nd := sc_Name_init.nd
    have no : ∀ (b : Bool) (H1 : Hp), b = oM [v] → Same H H1 → (!b) = true → E (.ref cI) none H1 := fun b H1 hb sm hz => kE (by rw [← hb]; exact bnot_t hz) H1 sm
    refine ⟨_, (pss_cons (ps_if (pt_not (pt_val (pe_call D_is_name.ok (hr.mono (by decide)) (by rfl) D_is_name.g D_is_name.kp D_is_name.b .nil pass0 (pa_cons (pv 1) pa_nil))))
    (pss_one (ps_raise rfl (takes_of rfl rfl rfl rfl) (pmk_own0 PySem.F.excBase_ValueError IV.x IV.g IV.k (raises_own IV.b IV.t) rfl)))
    pss_nil)
    (pss_one (ps_fld (pv 0) (pv 1) rfl))), ?_⟩
    refine ⟨_, rfl, v, rfl, ha, fun H1 sm => ⟨_, rfl, ?_⟩⟩
    refine ite2 (fun hz => no _ H1 rfl sm hz) (fun hz => ?_)
    have hv := bnot_f hz
    exact ⟨_, rfl, _, rfl, p, C, dx, _, rfl, sm _ _ hp, cl, n0, (by show 0 < 1000; decide), k hv H1 _ sm ⟨upd_same, fun b o e hb => by rw [upd_ne hb]; exact e⟩⟩

theorem ok_Name_init {f C cI : Addr} {fd : FuncData} (F : Fun K "__init__" "Name.__init__" s_Name_init f fd) (T : Glob mg) (T2 : Tabs K mg) (cl : Cls K C) (n0 : NoAttr K C "name") (D_is_name : Df P w K mg base 1 "is_name" ["value"] spIsName) : FnOk P w K mg base CX0 2 f fd ["self", "name"] (spOk C 1 a1 oM fM) := by
  refine F.ok sc_Name_init (fun vs H Q E h => ?_) (fun cdv A outer s H vs Q E hr h => ?_)
  · obtain ⟨p, dx, xs, rfl, hl, _⟩ := h
    exact congrArg (· + 1) hl
  · obtain ⟨p, dx, xs, rfl, hl, hp, ⟨v, rfl, ha⟩, hok, k⟩ := h
    have hu := hu_of hr
    have nd := sc_Name_init.nd
    have no : ∀ (b : Bool) (H1 : Hp), b = oM [v] → Same H H1 → (!b) = true → False := fun b H1 hb sm hz => by rw [hb, hok] at hz; cases hz
    refine ⟨_, (pss_cons (ps_if (pt_not (pt_val (pe_call D_is_name.ok (hr.mono (by decide)) (by rfl) D_is_name.g D_is_name.kp D_is_name.b .nil pass0 (pa_cons (pv 1) pa_nil))))
    (pss_one ps_never)
    pss_nil)
    (pss_one (ps_fld (pv 0) (pv 1) rfl))), ?_⟩
    refine ⟨_, rfl, v, rfl, ha, fun H1 sm => ⟨_, rfl, ?_⟩⟩
    refine ite2 (fun hz => no _ H1 rfl sm hz) (fun hz => ?_)
    have hv := bnot_f hz
    exact ⟨_, rfl, _, rfl, p, C, dx, _, rfl, sm _ _ hp, cl, n0, (by show 0 < 1000; decide), k H1 _ sm ⟨upd_same, fun b o e hb => by rw [upd_ne hb]; exact e⟩⟩

abbrev s_Power_init : Stmt := inClass (top 28) 1
abbrev N_Power_init : List Str := ["self", "base", "times"]
theorem sc_Power_init : FnScope N_Power_init ["self", "base", "times"] (defScope s_Power_init) := ⟨rfl, rfl, rfl, by decide +kernel, rfl, by decide +kernel, by decide +kernel⟩
theorem okX_Power_init {f C cI : Addr} {fd : FuncData} (F : Fun K "__init__" "Power.__init__" s_Power_init f fd) (T : Glob mg) (T2 : Tabs K mg) (IV : InvN K mg cI) (cl : Cls K C) (n0 : NoAttr K C "base") (n1 : NoAttr K C "times") (D_is_between : Df P w K mg base 2 "is_between" ["value", "least", "most"] spBtw) : FnOk P w K mg base (L2.CX P w) 3 f fd ["self", "base", "times"] (spCk C cI 2 a2 oP fP) := by
  obtain ⟨tT, hT⟩ := T2.times
  refine F.okX sc_Power_init (fun vs H Q E h => ?_) (fun cdv A outer s H vs Q E hr h => ?_)
  · obtain ⟨p, dx, xs, rfl, hl, _⟩ := h
    exact congrArg (· + 1) hl
  · obtain ⟨p, dx, xs, rfl, hl, hp, ⟨x, v, rfl, ha⟩, k, kE⟩ := h
    have hu := hu_of hr
    have nd := sc_Power_init.nd
    have no : ∀ (b : Bool) (H1 : Hp), b = oP [x, v] → Same H H1 → (!b) = true → E (.ref cI) none H1 := fun b H1 hb sm hz => kE (by rw [← hb]; exact bnot_t hz) H1 sm
    refine ⟨_, (pss_cons (ps_if (pt_not (pt_val (pe_call D_is_between.ok (hr.mono (by decide)) (by rfl) D_is_between.g D_is_between.kp D_is_between.b .nil pass0 (pa_cons (pv 2) (pa_cons pe_int (pa_cons (pe_glob (v := .int 64) rfl hT ⟨_, rfl⟩) pa_nil))))))
    (pss_one (ps_raise rfl (takes_of rfl rfl rfl rfl) (pmk_own0 PySem.F.excBase_ValueError IV.x IV.g IV.k (raises_own IV.b IV.t) rfl)))
    pss_nil)
    (pss_cons (ps_fld (pv 0) (pv 1) rfl)
    (pss_one (ps_fld (pv 0) (pv 2) rfl)))), ?_⟩
    refine ⟨_, rfl, v, 0, 64, rfl, ha, _, rfl, ?_⟩
    refine ite2 (fun hz => no _ H rfl (Same.refl H) hz) (fun hz => ?_)
    have hv := bnot_f hz
    refine ⟨_, rfl, _, rfl, p, C, dx, _, rfl, hp, cl, n0, (by show 0 < 1000; decide), ?_⟩
    refine ⟨_, rfl, _, rfl, p, C, dx, _, rfl, upd_same, cl, n1, (by show 1 < 1000; decide), k hv H _ (Same.refl H) ⟨?_, fun b o e hb => by rw [upd_ne hb, upd_ne hb]; exact e⟩⟩
    rw [upd_same]
    show some (HO.ins C dx (putF "times" v (("base", x) :: []))) = _
    rw [putF_ne (by decide +kernel)]
    rfl

theorem ok_Power_init {f C cI : Addr} {fd : FuncData} (F : Fun K "__init__" "Power.__init__" s_Power_init f fd) (T : Glob mg) (T2 : Tabs K mg) (cl : Cls K C) (n0 : NoAttr K C "base") (n1 : NoAttr K C "times") (D_is_between : Df P w K mg base 2 "is_between" ["value", "least", "most"] spBtw) : FnOk P w K mg base CX0 3 f fd ["self", "base", "times"] (spOk C 2 a2 oP fP) := by
  obtain ⟨tT, hT⟩ := T2.times
  refine F.ok sc_Power_init (fun vs H Q E h => ?_) (fun cdv A outer s H vs Q E hr h => ?_)
  · obtain ⟨p, dx, xs, rfl, hl, _⟩ := h
    exact congrArg (· + 1) hl
  · obtain ⟨p, dx, xs, rfl, hl, hp, ⟨x, v, rfl, ha⟩, hok, k⟩ := h
    have hu := hu_of hr
    have nd := sc_Power_init.nd
    have no : ∀ (b : Bool) (H1 : Hp), b = oP [x, v] → Same H H1 → (!b) = true → False := fun b H1 hb sm hz => by rw [hb, hok] at hz; cases hz
    refine ⟨_, (pss_cons (ps_if (pt_not (pt_val (pe_call D_is_between.ok (hr.mono (by decide)) (by rfl) D_is_between.g D_is_between.kp D_is_between.b .nil pass0 (pa_cons (pv 2) (pa_cons pe_int (pa_cons (pe_glob (v := .int 64) rfl hT ⟨_, rfl⟩) pa_nil))))))
    (pss_one ps_never)
    pss_nil)
    (pss_cons (ps_fld (pv 0) (pv 1) rfl)
    (pss_one (ps_fld (pv 0) (pv 2) rfl)))), ?_⟩
    refine ⟨_, rfl, v, 0, 64, rfl, ha, _, rfl, ?_⟩
    refine ite2 (fun hz => no _ H rfl (Same.refl H) hz) (fun hz => ?_)
    have hv := bnot_f hz
    refine ⟨_, rfl, _, rfl, p, C, dx, _, rfl, hp, cl, n0, (by show 0 < 1000; decide), ?_⟩
    refine ⟨_, rfl, _, rfl, p, C, dx, _, rfl, upd_same, cl, n1, (by show 1 < 1000; decide), k H _ (Same.refl H) ⟨?_, fun b o e hb => by rw [upd_ne hb, upd_ne hb]; exact e⟩⟩
    rw [upd_same]
    show some (HO.ins C dx (putF "times" v (("base", x) :: []))) = _
    rw [putF_ne (by decide +kernel)]
    rfl

abbrev s_Choose_init : Stmt := inClass (top 30) 0
abbrev N_Choose_init : List Str := ["self", "tested", "modulus", "rest", "yes", "no"]
theorem sc_Choose_init : FnScope N_Choose_init ["self", "tested", "modulus", "rest", "yes", "no"] (defScope s_Choose_init) := ⟨rfl, rfl, rfl, by decide +kernel, rfl, by decide +kernel, by decide +kernel⟩
theorem okX_Choose_init {f C cI : Addr} {fd : FuncData} (F : Fun K "__init__" "Choose.__init__" s_Choose_init f fd) (T : Glob mg) (T2 : Tabs K mg) (IV : InvN K mg cI) (cl : Cls K C) (n0 : NoAttr K C "tested") (n1 : NoAttr K C "modulus") (n2 : NoAttr K C "rest") (n3 : NoAttr K C "yes") (n4 : NoAttr K C "no") (D_is_integer : Df P w K mg base 1 "is_integer" ["value"] spIsInt) (D_is_between : Df P w K mg base 2 "is_between" ["value", "least", "most"] spBtw) : FnOk P w K mg base (L2.CX P w) 3 f fd ["self", "tested", "modulus", "rest", "yes", "no"] (spCk C cI 5 a5 oC fC) := by
  obtain ⟨aM, hM, hMs⟩ := T2.moduli
  refine F.okX sc_Choose_init (fun vs H Q E h => ?_) (fun cdv A outer s H vs Q E hr h => ?_)
  · obtain ⟨p, dx, xs, rfl, hl, _⟩ := h
    exact congrArg (· + 1) hl
  · obtain ⟨p, dx, xs, rfl, hl, hp, ⟨x, m, r, y, z, rfl, ha, hb⟩, k, kE⟩ := h
    have hu := hu_of hr
    have nd := sc_Choose_init.nd
    have no : ∀ (b : Bool) (H1 : Hp), b = oC [x, m, r, y, z] → Same H H1 → (!b) = true → E (.ref cI) none H1 := fun b H1 hb sm hz => kE (by rw [← hb]; exact bnot_t hz) H1 sm
    refine ⟨_, (pss_cons (ps_if (PW.pt (pw_or (pt_not (pt_val (pe_call D_is_integer.ok (hr.mono (by decide)) (by rfl) D_is_integer.g D_is_integer.kp D_is_integer.b .nil pass0 (pa_cons (pv 2) pa_nil)))) (pw_or (pt_cmpR op_notIn_seq (pv 2) (pe_glob (v := .ref aM) rfl hM rfl) (by rfl)) (pw_or1 (pt_not (pt_val (pe_call D_is_between.ok (hr.mono (by decide)) (by rfl) D_is_between.g D_is_between.kp D_is_between.b .nil pass0 (pa_cons (pv 3) (pa_cons pe_int (pa_cons (pe_op op_sub (pv 2) pe_int) pa_nil))))))))))
    (pss_one (ps_raise rfl (takes_of rfl rfl rfl rfl) (pmk_own0 PySem.F.excBase_ValueError IV.x IV.g IV.k (raises_own IV.b IV.t) rfl)))
    pss_nil)
    (pss_cons (ps_fld (pv 0) (pv 1) rfl)
    (pss_cons (ps_fld (pv 0) (pv 2) rfl)
    (pss_cons (ps_fld (pv 0) (pv 3) rfl)
    (pss_cons (ps_fld (pv 0) (pv 4) rfl)
    (pss_one (ps_fld (pv 0) (pv 5) rfl))))))), ?_⟩
    refine ⟨_, rfl, m, rfl, ha, _, rfl, ?_⟩
    cases ha with
    | non => exact no _ H rfl (Same.refl H) rfl
    | bl b => exact no _ H rfl (Same.refl H) rfl
    | str q hq => exact no _ H rfl (Same.refl H) rfl
    | tup e => exact no _ H rfl (Same.refl H) rfl
    | int i =>
      refine ⟨_, rfl, aM, _, rfl, .inr (hMs H), rfl, by decide +kernel, _, rfl, ?_⟩
      have ei := in_moduli i
      refine ite2 (fun hz => ?_) (fun hz => ?_)
      · have hz2 : (!inV (.int i) (([2, 4, 8, 16, 32, 64] : List Int).map V.int)) = true := hz
        rw [ei] at hz2
        refine no false H ?_ (Same.refl H) rfl
        show false = (([2, 4, 8, 16, 32, 64] : List Int).contains i && btw r 0 (i - 1))
        rw [bnot_t hz2, Bool.false_and]
      · have hz2 : ¬ (!inV (.int i) (([2, 4, 8, 16, 32, 64] : List Int).map V.int)) = true := hz
        rw [ei] at hz2
        have hi := bnot_f hz2
        refine ⟨_, rfl, _, rfl, _, _, rfl, rfl, r, 0, i - 1, rfl, hb, _, rfl, ?_⟩
        refine ite2 (fun hz => ?_) (fun hz => ?_)
        · refine no (btw r 0 (i - 1)) H ?_ (Same.refl H) hz
          show btw r 0 (i - 1) = (([2, 4, 8, 16, 32, 64] : List Int).contains i && btw r 0 (i - 1))
          rw [hi, Bool.true_and]
        have hv : oC [x, .int i, r, y, z] = true := by
          show (([2, 4, 8, 16, 32, 64] : List Int).contains i && btw r 0 (i - 1)) = true
          rw [hi, bnot_f hz]
          rfl
        refine ⟨_, rfl, _, rfl, p, C, dx, _, rfl, hp, cl, n0, (by show 0 < 1000; decide), ?_⟩
        refine ⟨_, rfl, _, rfl, p, C, dx, _, rfl, upd_same, cl, n1, (by show 1 < 1000; decide), ?_⟩
        have e2 : putF "modulus" (.int i) (putF "tested" x []) = ([("tested", x), ("modulus", .int i)] : List (Str × V)) := by
          show putF "modulus" (.int i) (("tested", x) :: []) = _
          rw [putF_ne (by decide +kernel)]
          rfl
        refine ⟨_, rfl, _, rfl, p, C, dx, _, rfl, upd_same, cl, n2, by rw [e2]; show 2 < 1000; decide, ?_⟩
        rw [e2]
        have e3 : putF "rest" r [("tested", x), ("modulus", .int i)] = ([("tested", x), ("modulus", .int i), ("rest", r)] : List (Str × V)) := by
          rw [putF_ne (by decide +kernel), putF_ne (by decide +kernel)]
          rfl
        refine ⟨_, rfl, _, rfl, p, C, dx, _, rfl, upd_same, cl, n3, by rw [e3]; show 3 < 1000; decide, ?_⟩
        rw [e3]
        have e4 : putF "yes" y [("tested", x), ("modulus", .int i), ("rest", r)] = ([("tested", x), ("modulus", .int i), ("rest", r), ("yes", y)] : List (Str × V)) := by
          rw [putF_ne (by decide +kernel), putF_ne (by decide +kernel), putF_ne (by decide +kernel)]
          rfl
        refine ⟨_, rfl, _, rfl, p, C, dx, _, rfl, upd_same, cl, n4, by rw [e4]; show 4 < 1000; decide, ?_⟩
        rw [e4]
        have e5 : putF "no" z [("tested", x), ("modulus", .int i), ("rest", r), ("yes", y)] = ([("tested", x), ("modulus", .int i), ("rest", r), ("yes", y), ("no", z)] : List (Str × V)) := by
          rw [putF_ne (by decide +kernel), putF_ne (by decide +kernel), putF_ne (by decide +kernel), putF_ne (by decide +kernel)]
          rfl
        rw [e5]
        exact k hv H _ (Same.refl H) ⟨upd_same, fun b o e hb => by rw [upd_ne hb, upd_ne hb, upd_ne hb, upd_ne hb, upd_ne hb]; exact e⟩

theorem ok_Choose_init {f C cI : Addr} {fd : FuncData} (F : Fun K "__init__" "Choose.__init__" s_Choose_init f fd) (T : Glob mg) (T2 : Tabs K mg) (cl : Cls K C) (n0 : NoAttr K C "tested") (n1 : NoAttr K C "modulus") (n2 : NoAttr K C "rest") (n3 : NoAttr K C "yes") (n4 : NoAttr K C "no") (D_is_integer : Df P w K mg base 1 "is_integer" ["value"] spIsInt) (D_is_between : Df P w K mg base 2 "is_between" ["value", "least", "most"] spBtw) : FnOk P w K mg base CX0 3 f fd ["self", "tested", "modulus", "rest", "yes", "no"] (spOk C 5 a5 oC fC) := by
  obtain ⟨aM, hM, hMs⟩ := T2.moduli
  refine F.ok sc_Choose_init (fun vs H Q E h => ?_) (fun cdv A outer s H vs Q E hr h => ?_)
  · obtain ⟨p, dx, xs, rfl, hl, _⟩ := h
    exact congrArg (· + 1) hl
  · obtain ⟨p, dx, xs, rfl, hl, hp, ⟨x, m, r, y, z, rfl, ha, hb⟩, hok, k⟩ := h
    have hu := hu_of hr
    have nd := sc_Choose_init.nd
    have no : ∀ (b : Bool) (H1 : Hp), b = oC [x, m, r, y, z] → Same H H1 → (!b) = true → False := fun b H1 hb sm hz => by rw [hb, hok] at hz; cases hz
    refine ⟨_, (pss_cons (ps_if (PW.pt (pw_or (pt_not (pt_val (pe_call D_is_integer.ok (hr.mono (by decide)) (by rfl) D_is_integer.g D_is_integer.kp D_is_integer.b .nil pass0 (pa_cons (pv 2) pa_nil)))) (pw_or (pt_cmpR op_notIn_seq (pv 2) (pe_glob (v := .ref aM) rfl hM rfl) (by rfl)) (pw_or1 (pt_not (pt_val (pe_call D_is_between.ok (hr.mono (by decide)) (by rfl) D_is_between.g D_is_between.kp D_is_between.b .nil pass0 (pa_cons (pv 3) (pa_cons pe_int (pa_cons (pe_op op_sub (pv 2) pe_int) pa_nil))))))))))
    (pss_one ps_never)
    pss_nil)
    (pss_cons (ps_fld (pv 0) (pv 1) rfl)
    (pss_cons (ps_fld (pv 0) (pv 2) rfl)
    (pss_cons (ps_fld (pv 0) (pv 3) rfl)
    (pss_cons (ps_fld (pv 0) (pv 4) rfl)
    (pss_one (ps_fld (pv 0) (pv 5) rfl))))))), ?_⟩
    refine ⟨_, rfl, m, rfl, ha, _, rfl, ?_⟩
    cases ha with
    | non => exact no _ H rfl (Same.refl H) rfl
    | bl b => exact no _ H rfl (Same.refl H) rfl
    | str q hq => exact no _ H rfl (Same.refl H) rfl
    | tup e => exact no _ H rfl (Same.refl H) rfl
    | int i =>
      refine ⟨_, rfl, aM, _, rfl, .inr (hMs H), rfl, by decide +kernel, _, rfl, ?_⟩
      have ei := in_moduli i
      refine ite2 (fun hz => ?_) (fun hz => ?_)
      · have hz2 : (!inV (.int i) (([2, 4, 8, 16, 32, 64] : List Int).map V.int)) = true := hz
        rw [ei] at hz2
        refine no false H ?_ (Same.refl H) rfl
        show false = (([2, 4, 8, 16, 32, 64] : List Int).contains i && btw r 0 (i - 1))
        rw [bnot_t hz2, Bool.false_and]
      · have hz2 : ¬ (!inV (.int i) (([2, 4, 8, 16, 32, 64] : List Int).map V.int)) = true := hz
        rw [ei] at hz2
        have hi := bnot_f hz2
        refine ⟨_, rfl, _, rfl, _, _, rfl, rfl, r, 0, i - 1, rfl, hb, _, rfl, ?_⟩
        refine ite2 (fun hz => ?_) (fun hz => ?_)
        · refine no (btw r 0 (i - 1)) H ?_ (Same.refl H) hz
          show btw r 0 (i - 1) = (([2, 4, 8, 16, 32, 64] : List Int).contains i && btw r 0 (i - 1))
          rw [hi, Bool.true_and]
        have hv : oC [x, .int i, r, y, z] = true := by
          show (([2, 4, 8, 16, 32, 64] : List Int).contains i && btw r 0 (i - 1)) = true
          rw [hi, bnot_f hz]
          rfl
        refine ⟨_, rfl, _, rfl, p, C, dx, _, rfl, hp, cl, n0, (by show 0 < 1000; decide), ?_⟩
        refine ⟨_, rfl, _, rfl, p, C, dx, _, rfl, upd_same, cl, n1, (by show 1 < 1000; decide), ?_⟩
        have e2 : putF "modulus" (.int i) (putF "tested" x []) = ([("tested", x), ("modulus", .int i)] : List (Str × V)) := by
          show putF "modulus" (.int i) (("tested", x) :: []) = _
          rw [putF_ne (by decide +kernel)]
          rfl
        refine ⟨_, rfl, _, rfl, p, C, dx, _, rfl, upd_same, cl, n2, by rw [e2]; show 2 < 1000; decide, ?_⟩
        rw [e2]
        have e3 : putF "rest" r [("tested", x), ("modulus", .int i)] = ([("tested", x), ("modulus", .int i), ("rest", r)] : List (Str × V)) := by
          rw [putF_ne (by decide +kernel), putF_ne (by decide +kernel)]
          rfl
        refine ⟨_, rfl, _, rfl, p, C, dx, _, rfl, upd_same, cl, n3, by rw [e3]; show 3 < 1000; decide, ?_⟩
        rw [e3]
        have e4 : putF "yes" y [("tested", x), ("modulus", .int i), ("rest", r)] = ([("tested", x), ("modulus", .int i), ("rest", r), ("yes", y)] : List (Str × V)) := by
          rw [putF_ne (by decide +kernel), putF_ne (by decide +kernel), putF_ne (by decide +kernel)]
          rfl
        refine ⟨_, rfl, _, rfl, p, C, dx, _, rfl, upd_same, cl, n4, by rw [e4]; show 4 < 1000; decide, ?_⟩
        rw [e4]
        have e5 : putF "no" z [("tested", x), ("modulus", .int i), ("rest", r), ("yes", y)] = ([("tested", x), ("modulus", .int i), ("rest", r), ("yes", y), ("no", z)] : List (Str × V)) := by
          rw [putF_ne (by decide +kernel), putF_ne (by decide +kernel), putF_ne (by decide +kernel), putF_ne (by decide +kernel)]
          rfl
        rw [e5]
        exact k H _ (Same.refl H) ⟨upd_same, fun b o e hb => by rw [upd_ne hb, upd_ne hb, upd_ne hb, upd_ne hb, upd_ne hb]; exact e⟩

end
end My

set_option Elab.async false
set_option linter.all false
set_option maxRecDepth 100000
set_option maxHeartbeats 1000000
namespace My
open PySem L2 MyR

/-- Call: of a list of arguments; the fields are the name and a new tuple -/
def spCallX (K : PySem.W.Frag) (C cI : Addr) : Sp := fun vs H Q E => ∃ (p dx a : Addr) (v : V) (xs : List V), vs = [.ref p, v, .ref a] ∧ H p = some (.ins C dx []) ∧ Arg H v ∧ SqL K H a xs ∧ xs.length ≤ 100 ∧
  ((nmV v && !xs.isEmpty) = true → ∀ (t : Addr) H1 H', Same H H1 → H' t = some (.tup xs) → Ini H1 p C dx [("name", v), ("arguments", .ref t)] H' → Q .non H') ∧ ((nmV v && !xs.isEmpty) = false → ∀ H', Same H H' → E (.ref cI) none H')
def spCall (K : PySem.W.Frag) (C : Addr) : Sp := fun vs H Q _ => ∃ (p dx a : Addr) (v : V) (xs : List V), vs = [.ref p, v, .ref a] ∧ H p = some (.ins C dx []) ∧ Arg H v ∧ SqL K H a xs ∧ xs.length ≤ 100 ∧ (nmV v && !xs.isEmpty) = true ∧
  ∀ (t : Addr) H1 H', Same H H1 → H' t = some (.tup xs) → Ini H1 p C dx [("name", v), ("arguments", .ref t)] H' → Q .non H'
section
variable {P : Program} {w : World} {K : PySem.W.Frag} {mg : Str → Option Value} {base : Heap}
abbrev s_Call_init : Stmt := inClass (top 31) 0
abbrev N_Call_init : List Str := ["self", "name", "arguments"]
theorem sc_Call_init : FnScope N_Call_init ["self", "name", "arguments"] (defScope s_Call_init) := ⟨rfl, rfl, rfl, by decide +kernel, rfl, by decide +kernel, by decide +kernel⟩
theorem okX_Call_init {f C cI : Addr} {fd : FuncData} (F : Fun K "__init__" "Call.__init__" s_Call_init f fd) (T : Glob mg) (IV : InvN K mg cI) (cl : Cls K C) (n0 : NoAttr K C "name") (n1 : NoAttr K C "arguments") (D_is_name : Df P w K mg base 1 "is_name" ["value"] spIsName) : FnOk P w K mg base (L2.CX P w) 2 f fd ["self", "name", "arguments"] (spCallX K C cI) := by
  refine F.okX sc_Call_init (fun vs H Q E h => ?_) (fun cdv A outer s H vs Q E hr h => ?_)
  · obtain ⟨p, dx, a, v, xs, rfl, _⟩ := h
    rfl
  · obtain ⟨p, dx, a, v, xs, rfl, hp, ha, hS, hl, k, kE⟩ := h
    have nd := sc_Call_init.nd
    have no : ∀ (H1 : Hp), Same H H1 → (nmV v && !xs.isEmpty) = false → E (.ref cI) none H1 := fun H1 sm hz => kE hz H1 sm
    refine ⟨_, (pss_cons (ps_if (PW.pt (pw_or (pt_not (pt_val (pe_call D_is_name.ok (hr.mono (by decide)) (by rfl) D_is_name.g D_is_name.kp D_is_name.b .nil pass0 (pa_cons (pv 1) pa_nil)))) (pw_or1 (pt_cmpR op_eq (pe_callB call_len_seq (by rfl) T.g_len PySem.boot_len (pa_cons (pv 2) pa_nil)) pe_int (nomark _)))))
    (pss_one (ps_raise rfl (takes_of rfl rfl rfl rfl) (pmk_own0 PySem.F.excBase_ValueError IV.x IV.g IV.k (raises_own IV.b IV.t) rfl)))
    pss_nil)
    (pss_cons (ps_fld (pv 0) (pv 1) rfl)
    (pss_one (ps_fld (pv 0) (pe_callTy call_tuple_of (by rfl) T.g_tuple (by decide +kernel) (pa_cons (pv 2) pa_nil)) rfl)))), ?_⟩
    refine ⟨_, rfl, v, rfl, ha, fun H1 sm => ⟨_, rfl, ?_⟩⟩
    refine ite2 (fun hz => no H1 sm (by rw [bnot_t hz, Bool.false_and])) (fun hz => ?_)
    have hn := bnot_f hz
    refine ⟨_, rfl, a, _, rfl, .inl (sm.seq hS), rfl, _, rfl, ?_⟩
    refine ite2 (fun hz => no H1 sm ?_) (fun hz => ?_)
    · have := V.int.inj (of_decide_eq_true hz)
      have e : xs = [] := List.length_eq_zero_iff.mp (by omega)
      rw [e, List.isEmpty_nil, Bool.not_true, Bool.and_false]
    have hv : (nmV v && !xs.isEmpty) = true := by
      rw [hn, Bool.true_and]
      cases xs with
      | nil => exact absurd rfl hz
      | cons y ys => rfl
    refine ⟨_, rfl, _, rfl, p, C, dx, _, rfl, sm _ _ hp, cl, n0, (by show 0 < 1000; decide), ?_⟩
    have sm1 : ∀ b o, H1 b = some o → b ≠ p → (upd H1 p (.ins C dx (putF "name" v []))) b = some o := fun b o e hb => by rw [upd_ne hb]; exact e
    have hS1 : SqL K (upd H1 p (.ins C dx (putF "name" v []))) a xs := by
      rcases sm.seq hS with (h | ⟨o, h⟩) | h
      · exact .inl (.inl (sm1 _ _ h (ne_of h (sm _ _ hp) (by intro z; cases z))))
      · exact .inl (.inr ⟨o, sm1 _ _ h (ne_of h (sm _ _ hp) (by intro z; cases z))⟩)
      · exact .inr h
    refine ⟨_, rfl, a, xs, rfl, .inl ⟨hS1, fun t ht => ?_⟩⟩
    have npt : p ≠ t := ne_of_none upd_same ht
    refine ⟨_, rfl, p, C, dx, _, rfl, by rw [upd_ne npt]; exact upd_same, cl, n1, (by show 1 < 1000; decide), k hv t H1 _ sm ?_ ⟨?_, fun b o e hb => ?_⟩⟩
    · rw [upd_ne (Ne.symm npt), upd_same]
    · rw [upd_same]
      show some (HO.ins C dx (putF "arguments" (.ref t) (("name", v) :: []))) = _
      rw [putF_ne (by decide +kernel)]
      rfl
    · rw [upd_ne hb, upd_ne (ne_of_none (sm1 b o e hb) ht)]
      exact sm1 b o e hb
theorem ok_Call_init {f C cI : Addr} {fd : FuncData} (F : Fun K "__init__" "Call.__init__" s_Call_init f fd) (T : Glob mg) (cl : Cls K C) (n0 : NoAttr K C "name") (n1 : NoAttr K C "arguments") (D_is_name : Df P w K mg base 1 "is_name" ["value"] spIsName) : FnOk P w K mg base CX0 2 f fd ["self", "name", "arguments"] (spCall K C) := by
  refine F.ok sc_Call_init (fun vs H Q E h => ?_) (fun cdv A outer s H vs Q E hr h => ?_)
  · obtain ⟨p, dx, a, v, xs, rfl, _⟩ := h
    rfl
  · obtain ⟨p, dx, a, v, xs, rfl, hp, ha, hS, hl, hok, k⟩ := h
    have nd := sc_Call_init.nd
    have no : ∀ (H1 : Hp), Same H H1 → (nmV v && !xs.isEmpty) = false → False := fun H1 sm hz => by rw [hok] at hz; cases hz
    refine ⟨_, (pss_cons (ps_if (PW.pt (pw_or (pt_not (pt_val (pe_call D_is_name.ok (hr.mono (by decide)) (by rfl) D_is_name.g D_is_name.kp D_is_name.b .nil pass0 (pa_cons (pv 1) pa_nil)))) (pw_or1 (pt_cmpR op_eq (pe_callB call_len_seq (by rfl) T.g_len PySem.boot_len (pa_cons (pv 2) pa_nil)) pe_int (nomark _)))))
    (pss_one ps_never)
    pss_nil)
    (pss_cons (ps_fld (pv 0) (pv 1) rfl)
    (pss_one (ps_fld (pv 0) (pe_callTy call_tuple_of (by rfl) T.g_tuple (by decide +kernel) (pa_cons (pv 2) pa_nil)) rfl)))), ?_⟩
    refine ⟨_, rfl, v, rfl, ha, fun H1 sm => ⟨_, rfl, ?_⟩⟩
    refine ite2 (fun hz => no H1 sm (by rw [bnot_t hz, Bool.false_and])) (fun hz => ?_)
    have hn := bnot_f hz
    refine ⟨_, rfl, a, _, rfl, .inl (sm.seq hS), rfl, _, rfl, ?_⟩
    refine ite2 (fun hz => no H1 sm ?_) (fun hz => ?_)
    · have := V.int.inj (of_decide_eq_true hz)
      have e : xs = [] := List.length_eq_zero_iff.mp (by omega)
      rw [e, List.isEmpty_nil, Bool.not_true, Bool.and_false]
    have hv : (nmV v && !xs.isEmpty) = true := by
      rw [hn, Bool.true_and]
      cases xs with
      | nil => exact absurd rfl hz
      | cons y ys => rfl
    refine ⟨_, rfl, _, rfl, p, C, dx, _, rfl, sm _ _ hp, cl, n0, (by show 0 < 1000; decide), ?_⟩
    have sm1 : ∀ b o, H1 b = some o → b ≠ p → (upd H1 p (.ins C dx (putF "name" v []))) b = some o := fun b o e hb => by rw [upd_ne hb]; exact e
    have hS1 : SqL K (upd H1 p (.ins C dx (putF "name" v []))) a xs := by
      rcases sm.seq hS with (h | ⟨o, h⟩) | h
      · exact .inl (.inl (sm1 _ _ h (ne_of h (sm _ _ hp) (by intro z; cases z))))
      · exact .inl (.inr ⟨o, sm1 _ _ h (ne_of h (sm _ _ hp) (by intro z; cases z))⟩)
      · exact .inr h
    refine ⟨_, rfl, a, xs, rfl, .inl ⟨hS1, fun t ht => ?_⟩⟩
    have npt : p ≠ t := ne_of_none upd_same ht
    refine ⟨_, rfl, p, C, dx, _, rfl, by rw [upd_ne npt]; exact upd_same, cl, n1, (by show 1 < 1000; decide), k t H1 _ sm ?_ ⟨?_, fun b o e hb => ?_⟩⟩
    · rw [upd_ne (Ne.symm npt), upd_same]
    · rw [upd_same]
      show some (HO.ins C dx (putF "arguments" (.ref t) (("name", v) :: []))) = _
      rw [putF_ne (by decide +kernel)]
      rfl
    · rw [upd_ne hb, upd_ne (ne_of_none (sm1 b o e hb) ht)]
      exact sm1 b o e hb
end
end My

set_option Elab.async false
set_option linter.all false
set_option maxRecDepth 100000
set_option maxHeartbeats 1000000
namespace MyR
open PySem PySem.W PySem.Calls PyProof.Rows Builtin Builtin.ObjectAttr Builtin.Getset_descriptor
section
variable {prog : Program} {w : World} {A : Around} {E : Value → Shared → Prop} {s : Shared} {K : Frag} {R : Result → Shared → Prop}
theorem cname_get {C : Addr} {o : Obj} {tp : Value} {z : Str} {t : Tok} (X : K.In s.heap) (ht : typeIn K (.ref C) = some (.type "type")) (hl : K.lookup C = some o) (hs : (o.slots[2]?).join = some (.str z t)) (h : R (.ok (.ret (.str z t))) s) :
    codeAny (model prog w) A (.call (.builtin "getset_descriptor.__get__") ⟨[.builtin "type.__name__", .ref C, tp], []⟩) R s := by
  have L0 : Looks (model prog w) s.heap (typeOf (.ref C)) (.type "type") := looks_typeIn X ht
  have L1 : Looks (model prog w) s.heap (isSubtype (.type "type") (.type "type")) true := Looks.of_pure (by rw [isSubtype_type]; kernel_rfl)
  have ho : s.heap.get? C = some o := X _ _ hl
  obtain ⟨hh, g, dr, tk, os⟩ := s
  refine codeAny_call_builtin KF.slot_gs.plain KF.entry_gs (KF.slot_gs.check _ _ _ _ _ _ _ _ ktyn_type (KF.args_gs _ _ _) ?_)
  unfold Builtin.«getset_descriptor.__get__» descrGet
  rw [dga_obj]
  refine wpAny_bind (wpAny_pure ?_)
  unfold descrGetter descrCheckInstance descrNameAndClass isInstance
  simp only [ktyn_owner]
  repeat lk
  refine ⟨Code.quiet_builtin _ (by decide +kernel), codeAny_builtin ktyn_entry ?_⟩
  unfold Builtin.«type.__name__»
  dsimp only
  unfold keptObject
  dsimp only
  unfold slotAt
  refine wpAny_bind (wpAny_bind (wpAny_loadPart ho (wpAny_pure ?_)))
  rw [hs]
  exact wpAny_pure h
end
end MyR

set_option Elab.async false
set_option linter.all false
set_option maxRecDepth 100000
set_option maxHeartbeats 1000000
namespace MyR
open PySem PySem.Spec PyProof.Rows L2
/-- what x.__class__.__name__ asks of the class at C: its name is z -/
structure NameOf (K : PySem.W.Frag) (C : Addr) (z : Str) : Prop where
  ca : PySem.W.findIn K (.ref C) "__class__" = some (some (.builtin "object.__class__"))
  cn : PySem.W.specialIn K (.builtin "object.__class__") "__get__" = some (some (.builtin "getset_descriptor.__get__"))
  ct : PySem.W.takesIn K (.builtin "object.__class__") = some true
  cm : PySem.W.mroIn K C (.type "object") = some true
  ty : PySem.W.typeIn K (.ref C) = some (.type "type")
  rd : PySem.W.readsIn K C (.type "type") = true
  fc : PySem.W.findCls K (.ref C) (.type "type") "__name__" = some (.get (.builtin "getset_descriptor.__get__") (.builtin "type.__name__") (.ref C) (.type "type"))
  lk : ∃ o, K.lookup C = some o ∧ ∃ t, (o.slots[2]?).join = some (.str z t)
section
variable {X : Cx}
/-- e.__class__.__name__, e an instance of an own class -/
def tClsName (K : PySem.W.Frag) (te : TE) : TE := fun σ H Q => te σ H fun x H1 => ∃ a C dx fs z, x = .ref a ∧ H1 a = some (.ins C dx fs) ∧ Cls K C ∧ NameOf K C z ∧ Q (.str z) H1
theorem pe_clsName {e : Expr} {te : TE} {p1 p2 : Pos} (he : PE X e te) (hb : attributeBase e "__class__" X.env (eval e X.env) = eval e X.env)
    (hb2 : attributeBase (.Attribute e "__class__" p1) "__name__" X.env (eval (.Attribute e "__class__" p1) X.env) = eval (.Attribute e "__class__" p1) X.env) :
    PE X (.Attribute (.Attribute e "__class__" p1) "__name__" p2) (tClsName X.K te) := by
  refine ⟨fun pins s σ H Q I h => ?_⟩
  refine attr_of hb2 (attr_of hb (thn (he.run pins s σ H _ I h) fun u s1 ⟨x, H1, I1, rx, a, C, dx, fs, z, ex, ea, c, n, q⟩ => ?_))
  subst ex
  obtain rfl : u = Value.ref a := rx
  obtain ⟨mA, O, _, _, _, _⟩ := ins_get I1.hok ea
  obtain ⟨od, J, _⟩ := O.look
  have hc : (PySem.W.clsIn X.K C).isSome = true := by
    obtain ⟨cd, hc, _⟩ := PySem.W.any_some c.hd
    rw [hc]
    rfl
  refine PySem.W.get_bind I1.kIn J (PySem.W.plainGet_of (c.get "__class__")).1 (PySem.W.findObj_data hc n.ca n.cn n.ct) (PySem.W.plainGet_of (c.get "__class__")).2
    (wpAny_call (PySem.W.class_get (s := { s1 with toks := s1.toks + 1 }) I1.kIn J n.cm ?_))
  refine PySem.W.handed_on rfl ?_
  obtain ⟨o, hl, t, hs⟩ := n.lk
  refine PySem.W.cls_bind (s := { s1 with toks := s1.toks + 1 }) I1.kIn n.rd n.fc (wpAny_call (cname_get (s := { s1 with toks := s1.toks + 1 + 1 }) I1.kIn n.ty hl hs ?_))
  refine PySem.W.handed_on rfl ?_
  exact ⟨.str z, H1, I1.tok _, ⟨t, rfl⟩, q⟩
/-- o.m(), the class told by the object -/
def tMethV (X : Cx) (m : Str) (te : TE) : TE := fun σ H Q => te σ H fun x H1 => ∃ (a C dx : Addr) (fs : List (Str × V)) (f : Addr) (fd : FuncData) (ps : List Str) (sp : Sp) (k : Nat) (CX : CXT) (E : XK), x = .ref a ∧ H1 a = some (.ins C dx fs) ∧ fs.lookup m = none ∧
  Cls X.K C ∧ Meth X.K C m f ∧ FnOk X.prog X.w X.K X.mg X.base CX k f fd ps sp ∧ Room k X.A ∧ Binds X.K fd ps [] ∧ Passes CX X E ∧ sp [.ref a] H1 Q E
theorem pe_meth0V {o : Expr} {te : TE} {m : Str} {apos pos : Pos} {pl : Sem Bool} (he : PE X o te)
    (ht : eval (.Call (.Attribute o m apos) [] [] pos) X.env = (do
      let ov ← eval o X.env
      standAt apos.atName
      let (f, first) ← holding [ov] (getMethod ov m pl)
      callWith pos f first (backTo pos (starEach [] X.env)) (backToKw pos (keywordEach [] X.env))) := by rfl) :
    PE X (.Call (.Attribute o m apos) [] [] pos) (tMethV X m te) := by
  refine ⟨fun pins s σ H Q I h => ?_⟩
  refine PySem.W.methodCall_KW (pl := pl) (thn (he.run pins s σ H _ I h) fun u s1 ⟨x, H1, I1, rx, a, C, dx, fs, f, fd, ps, sp, k, CX, E, ex, ea, l, c, hm, F, hr, hb, hx, q⟩ => ?_) ht
  subst ex
  obtain rfl : u = Value.ref a := rx
  refine getmeth_ok I1 ea c hm l ?_
  exact PySem.W.callWith_K0 (first := [.ref a]) I1.kIn hm.kp (run_fn (us := [.ref a]) (vs := [.ref a]) F hr hb .nil hx I1 (.cons rfl .nil) q)
end
end MyR

set_option Elab.async false
set_option linter.all false
set_option maxRecDepth 100000
set_option maxHeartbeats 1000000
namespace MyN
open PySem PySem.Spec PyProof.Rows PySem.SeqAt
open Builtin
section
variable {M : Model} {prog : Program} {w : World} {A : Around} {E : Value → Shared → Prop} {s : Shared} {K : PySem.W.Frag} {x y C D f L : Addr} {ox : Obj} {od : Option Obj} {tb : Value} {h₀ : Heap} {m : Str → Option Value}
theorem ifBound_objNe {args : List Value} {Q : Option Value → Shared → Prop} (X : K.In s.heap) (I : PySem.W.InstAt s.heap x ox C od) (hs : PySem.W.findIn K (.ref C) "__ne__" = some (some (.builtin "object.__ne__")))
    (h : wpAny M A (call (.builtin "object.__ne__") (.ref x :: args)) (fun v => Q (some v)) E s) : wpAny M A (callSpecialIfBound? (.ref x) "__ne__" args) Q E s := by
  simp only [callSpecialIfBound?, bindSpecialIfBound?]
  refine wpAny_holding (wpAny_bind (wpAny_bind (wpAny_bind (I.type.here ((PySem.W.looks_findIn X hs).here ?_)))))
  refine wpAny_bind (wpAny_askSetting (wpAny_ite ?_))
  have fin : wpAny M A (call (.builtin "object.__ne__") ([.ref x] ++ args) >>= fun v => pure (some v)) Q E s := wpAny_bind (wpAny_mono h (fun v s' h' => wpAny_pure h') fun _ _ h' => h')
  split
  · exact wpAny_bind (wpAny_of_eq (F.cmp_object.ne.bind _) (wpAny_pure (by exact fin)))
  · exact wpAny_tryCatch (wpAny_bind (wpAny_of_eq (F.cmp_object.ne.bind _) (wpAny_pure (by exact fin))))
theorem objNe_entry {Q : Fin → Shared → Prop} (hu : A.units < cLine) (X : K.In s.heap) (I : PySem.W.InstAt s.heap x ox C od) (hs : PySem.W.findIn K (.ref C) "__eq__" = some (some (.ref f))) (hf : PySem.W.isFn K (.ref f) = true)
    (hcall : wpAny (model prog w) A (call (.ref f) [.ref x, .ref y]) (fun v s' => ∃ b, v = .bool b ∧ Q (.done (.ret (.bool (!b)))) s') E s) :
    wpAny (model prog w) A (Builtin.«object.__ne__» ⟨[.ref x, .ref y], []⟩) Q E s := by
  obtain ⟨h, g, d, t, os⟩ := s
  unfold Builtin.«object.__ne__»
  repeat (first
    | with_reducible refine wpAny_cRoomFor hu ?_
    | (refine wpAny_bind (m := callSpecialIfBound? (.ref x) (Str.ofString "__eq__") [.ref y])
        (PySem.W.ifBound_K X I hs hf (wpAny_mono hcall (fun r s' hr => by
          obtain ⟨b, rfl, hq⟩ := hr
          repeat (first | exact hq | exact wpAny_pure hq | exact wpAny_truthy_bool hq | (refine wpAny_bind (m := truthy (.bool _)) (wpAny_truthy_bool ?_)) | wp_step)) fun _ _ e => e)))
    | wp_step)
theorem call_objNe {Q : Value → Shared → Prop} (hu : A.units + 1 < cLine) (X : K.In s.heap) (I : PySem.W.InstAt s.heap x ox C od) (hm : PySem.W.mroIn K C (.type "object") = some true) (hs : PySem.W.findIn K (.ref C) "__eq__" = some (some (.ref f))) (hf : PySem.W.isFn K (.ref f) = true)
    (hcall : wpAny (model prog w) A.in1 (call (.ref f) [.ref x, .ref y]) (fun v s' => ∃ b, v = .bool b ∧ Q (.bool (!b)) s') E s) :
    wpAny (model prog w) A (call (.builtin "object.__ne__") [.ref x, .ref y]) Q E s :=
  wpAny_call (codeAny_call_builtin F.cmp_object.ne.plain F.cmpEntry_ne (PySem.W.check_slot F.cmpKind_ne F.cmpSplit_ne (I.type.andThen (PySem.W.looks_mroIn X hm)) (F.cmpArgs_ne _ _)
    (objNe_entry (A := A.in1) hu X I hs hf hcall)))
theorem ne_K {Q : Value → Shared → Prop} (hu : A.units + 1 < cLine) (X : K.In s.heap) (I : PySem.W.InstAt s.heap x ox C od) (hb : PySem.W.Looks (model prog w) s.heap (typeOf (.ref y)) tb) (hn : PySem.W.notFirst K C tb = true)
    (hne : PySem.W.findIn K (.ref C) "__ne__" = some (some (.builtin "object.__ne__"))) (hm : PySem.W.mroIn K C (.type "object") = some true) (hs : PySem.W.findIn K (.ref C) "__eq__" = some (some (.ref f))) (hf : PySem.W.isFn K (.ref f) = true)
    (hcall : wpAny (model prog w) A.in1 (call (.ref f) [.ref x, .ref y]) (fun v s' => ∃ b, v = .bool b ∧ Q (.bool (!b)) s') E s) :
    wpAny (model prog w) A (richCompare .NotEq (.ref x) (.ref y)) Q E s := by
  have one : wpAny (model prog w) A (tryCompare (.ref x) (cmpInfo .NotEq).2.1 (.ref y)) (fun r s' => ∃ v, r = some v ∧ Q v s') E s := by
    unfold tryCompare
    refine wpAny_bind (ifBound_objNe X I hne (call_objNe hu X I hm hs hf (wpAny_mono hcall (fun v s' hv => ?_) fun _ _ e => e)))
    obtain ⟨b, rfl, hq⟩ := hv
    exact ⟨b, rfl, wpAny_pure ⟨_, rfl, hq⟩⟩
  unfold richCompare
  simp only [oneThing_ref]
  refine wpAny_holding (wpAny_bind (wpAny_cRoomFor (Nat.lt_of_succ_lt hu) ?_))
  refine wpAny_bind (I.type.here (wpAny_bind (hb.here ?_)))
  split
  · rename_i q
    have e : PySem.W.subIn K tb (.ref C) = some false := by
      rcases Bool.or_eq_true_iff.mp hn with e | e
      · rw [beq_iff_eq.mp e] at q; simp at q
      · exact beq_iff_eq.mp e
    refine wpAny_bind ((PySem.W.looks_subIn X e).here ?_)
    simp only [Bool.false_eq_true, if_false]
    refine wpAny_bind (wpAny_mono one (fun r s' z => ?_) fun _ _ e => e)
    obtain ⟨v, rfl, hq⟩ := z
    exact wpAny_pure hq
  · refine wpAny_bind (wpAny_pure ?_)
    simp only [Bool.false_eq_true, if_false]
    refine wpAny_bind (wpAny_mono one (fun r s' z => ?_) fun _ _ e => e)
    obtain ⟨v, rfl, hq⟩ := z
    exact wpAny_pure hq
end
end MyN

set_option Elab.async false
set_option linter.all false
set_option maxRecDepth 100000
set_option maxHeartbeats 1000000
namespace MyR
open PySem PySem.Spec PyProof.Rows L2
/-- the class at C has its == at f, and no != of its own -/
structure EqC (K : PySem.W.Frag) (C f : Addr) : Prop where
  eq : PySem.W.findIn K (.ref C) "__eq__" = some (some (.ref f))
  ne : PySem.W.findIn K (.ref C) "__ne__" = some (some (.builtin "object.__ne__"))
  fn : PySem.W.isFn K (.ref f) = true
  mo : PySem.W.mroIn K C (.type "object") = some true
def rEqF (X : Cx) (neg : Bool) : R2 := fun x y H Q => ∃ (a b C dx dy : Addr) (fs gs : List (Str × V)) (f : Addr) (fd : FuncData) (ps : List Str) (sp : Sp) (k : Nat) (CX : CXT) (E : XK), x = .ref a ∧ y = .ref b ∧ H a = some (.ins C dx fs) ∧ H b = some (.ins C dy gs) ∧ EqC X.K C f ∧
  FnOk X.prog X.w X.K X.mg X.base CX k f fd ps sp ∧ Room (k + 1) X.A ∧ Binds X.K fd ps [] ∧ Passes CX X E ∧ sp [.ref a, .ref b] H (fun v H' => ∃ t : Bool, v = .bl t ∧ Q (.bl (if neg = true then !t else t)) H') E
section
variable {X : Cx}
theorem op_eqF : OpR X (compareOp .Eq) (rEqF X false) := by
  intro pins s σ H x y u v Q I rx ry h
  obtain ⟨a, b, C, dx, dy, fs, gs, f, fd, ps, sp, k, CX, E, rfl, rfl, ha, hb', c, F, hr, hb, hx, hsp⟩ := h
  cases rx
  cases ry
  obtain ⟨mA, J, _⟩ := ins_get I.hok ha
  obtain ⟨mB, J', _⟩ := ins_get I.hok hb'
  obtain ⟨od, J, _⟩ := J.look
  obtain ⟨od', J', _⟩ := J'.look
  obtain ⟨m, hF⟩ := I.fr
  show wpAny (model X.prog X.w) X.A (richCompare .Eq (.ref a) (.ref b)) (EP X pins σ Q) X.xe s
  refine PySem.W.cmp_K (op := .Eq) (tb := .ref C) hr.units0 hF I.ok.mod.kin J J'.type (by simp [PySem.W.notFirst]) c.eq c.fn ?_
  have e0 := I.env0
  have hl := F.len _ _ _ _ hsp
  have r2 : Vals [V.ref a, V.ref b] [Value.ref a, Value.ref b] := .cons rfl (.cons rfl .nil)
  refine wpAny_call (codeAny_mono (F.run X.A X.stack s H ⟨[.ref a, .ref b], []⟩ [.ref a, .ref b] [.ref a, .ref b] _ E (hr.mono (Nat.le_succ _)) e0 (by
    have := hb s [.ref a, .ref b] I.kIn (by simpa using hl)
    simpa using this) r2 hsp) fun r s' hq => ?_)
  cases r with
  | error e => exact hx pins σ H s e s' I hq
  | ok fl =>
    cases fl with
    | ret w =>
      obtain ⟨z, H', I', rz, t, ez, q⟩ := I.after hq
      subst ez
      cases rz
      exact ⟨.bl t, H', I', rfl, q⟩
    | next => exact False.elim hq
    | brk => exact False.elim hq
    | cont => exact False.elim hq
theorem op_neF : OpR X (compareOp .NotEq) (rEqF X true) := by
  intro pins s σ H x y u v Q I rx ry h
  obtain ⟨a, b, C, dx, dy, fs, gs, f, fd, ps, sp, k, CX, E, rfl, rfl, ha, hb', c, F, hr, hb, hx, hsp⟩ := h
  cases rx
  cases ry
  obtain ⟨mA, J, _⟩ := ins_get I.hok ha
  obtain ⟨mB, J', _⟩ := ins_get I.hok hb'
  obtain ⟨od, J, _⟩ := J.look
  obtain ⟨od', J', _⟩ := J'.look
  show wpAny (model X.prog X.w) X.A (richCompare .NotEq (.ref a) (.ref b)) (EP X pins σ Q) X.xe s
  refine MyN.ne_K (tb := .ref C) (hu_of hr) I.kIn J J'.type (by simp [PySem.W.notFirst]) c.ne c.mo c.eq c.fn ?_
  have e0 := I.env0
  have hl := F.len _ _ _ _ hsp
  have r2 : Vals [V.ref a, V.ref b] [Value.ref a, Value.ref b] := .cons rfl (.cons rfl .nil)
  refine wpAny_call (codeAny_mono (F.run X.A.in1 X.stack s H ⟨[.ref a, .ref b], []⟩ [.ref a, .ref b] [.ref a, .ref b] _ E hr.in1 e0.in1 (by
    have := hb s [.ref a, .ref b] I.kIn (by simpa using hl)
    simpa using this) r2 hsp) fun r s' hq => ?_)
  cases r with
  | error e => exact hx pins σ H s e s' I hq
  | ok fl =>
    cases fl with
    | ret w =>
      obtain ⟨z, H', I', rz, t, ez, q⟩ := I.after hq
      subst ez
      cases rz
      exact ⟨t, rfl, .bl (!t), H', I', rfl, q⟩
    | next => exact False.elim hq
    | brk => exact False.elim hq
    | cont => exact False.elim hq
end
end MyR

set_option Elab.async false
set_option linter.all false
set_option maxRecDepth 100000
set_option maxHeartbeats 1000000
namespace My
open PySem L2 MyR

/-! ### nodes in the heap -/
structure CA where
  num : Addr
  nam : Addr
  add : Addr
  sub : Addr
  mul : Addr
  half : Addr
  over : Addr
  pow : Addr
  rai : Addr
  cho : Addr
def CA.bk (c : CA) : Bk → Addr
  | .add => c.add
  | .sub => c.sub
  | .mul => c.mul
  | .over => c.over
  | .rai => c.rai
def CA.of (c : CA) : Tm → Addr
  | .num _ => c.num
  | .nam _ => c.nam
  | .two k _ _ => c.bk k
  | .half _ => c.half
  | .pow _ _ => c.pow
  | .cho _ _ _ _ _ => c.cho
def Bk.f1 : Bk → Str
  | .add => "one"
  | .sub => "one"
  | .mul => "one"
  | .over => "top"
  | .rai => "base"
def Bk.f2 : Bk → Str
  | .add => "other"
  | .sub => "other"
  | .mul => "other"
  | .over => "bottom"
  | .rai => "exponent"
def kids : Tm → List Tm
  | .num _ => []
  | .nam _ => []
  | .two _ a b => [a, b]
  | .half a => [a]
  | .pow a _ => [a]
  | .cho a _ _ b c => [a, b, c]
def NodeAt (c : CA) (H : Hp) : Tm → Addr → Prop
  | .num z, a => ∃ dx, H a = some (.ins c.num dx [("value", .int z)])
  | .nam x, a => ∃ dx, H a = some (.ins c.nam dx [("name", .str (wd x))])
  | .two k x y, a => ∃ dx p q, H a = some (.ins (c.bk k) dx [(k.f1, .ref p), (k.f2, .ref q)]) ∧ NodeAt c H x p ∧ NodeAt c H y q
  | .half x, a => ∃ dx p, H a = some (.ins c.half dx [("inner", .ref p)]) ∧ NodeAt c H x p
  | .pow x n, a => ∃ dx p, H a = some (.ins c.pow dx [("base", .ref p), ("times", .int n)]) ∧ NodeAt c H x p
  | .cho x m r y z, a => ∃ dx p q t, H a = some (.ins c.cho dx [("tested", .ref p), ("modulus", .int m), ("rest", .int r), ("yes", .ref q), ("no", .ref t)]) ∧ NodeAt c H x p ∧ NodeAt c H y q ∧ NodeAt c H z t
theorem NodeAt.map {c : CA} {H H' : Hp} (h : ∀ p C dx fs, H p = some (.ins C dx fs) → H' p = some (.ins C dx fs)) : ∀ {T : Tm} {p : Addr}, NodeAt c H T p → NodeAt c H' T p
  | .num z, p, ⟨dx, e⟩ => ⟨dx, h _ _ _ _ e⟩
  | .nam x, p, ⟨dx, e⟩ => ⟨dx, h _ _ _ _ e⟩
  | .two k a b, p, ⟨dx, q, r, e, ea, eb⟩ => ⟨dx, q, r, h _ _ _ _ e, NodeAt.map h ea, NodeAt.map h eb⟩
  | .half a, p, ⟨dx, q, e, ea⟩ => ⟨dx, q, h _ _ _ _ e, NodeAt.map h ea⟩
  | .pow a n, p, ⟨dx, q, e, ea⟩ => ⟨dx, q, h _ _ _ _ e, NodeAt.map h ea⟩
  | .cho a m r b d, p, ⟨dx, q, s, t, e, ea, eb, ec⟩ => ⟨dx, q, s, t, h _ _ _ _ e, NodeAt.map h ea, NodeAt.map h eb, NodeAt.map h ec⟩
inductive All2 {α β : Type} (R : α → β → Prop) : List α → List β → Prop
  | nil : All2 R [] []
  | cons {x y xs ys} : R x y → All2 R xs ys → All2 R (x :: xs) (y :: ys)
theorem All2.imp {α β : Type} {R S : α → β → Prop} (h : ∀ x y, R x y → S x y) : ∀ {xs : List α} {ys : List β}, All2 R xs ys → All2 S xs ys
  | _, _, .nil => .nil
  | _, _, .cons a b => .cons (h _ _ a) (All2.imp h b)
theorem All2.app {α β : Type} {R : α → β → Prop} : ∀ {xs : List α} {ys : List β} {us : List α} {vs : List β}, All2 R xs ys → All2 R us vs → All2 R (xs ++ us) (ys ++ vs)
  | _, _, _, _, .nil, b => b
  | _, _, _, _, .cons a r, b => .cons a (All2.app r b)
theorem All2.len {α β : Type} {R : α → β → Prop} : ∀ {xs : List α} {ys : List β}, All2 R xs ys → xs.length = ys.length
  | _, _, .nil => rfl
  | _, _, .cons _ r => congrArg (· + 1) r.len
theorem All2.rev {α β : Type} {R : α → β → Prop} : ∀ {xs : List α} {ys : List β}, All2 R xs ys → All2 R xs.reverse ys.reverse
  | _, _, .nil => .nil
  | _, _, .cons a r => by
    rw [List.reverse_cons, List.reverse_cons]
    exact r.rev.app (.cons a .nil)
theorem All2.get {α β : Type} {R : α → β → Prop} : ∀ {xs : List α} {ys : List β} {i : Nat} {y : β}, All2 R xs ys → ys[i]? = some y → ∃ x, xs[i]? = some x ∧ R x y
  | _, _, _, _, .nil, h => by simp at h
  | _, _, 0, _, .cons a r, h => by
    simp at h
    subst h
    exact ⟨_, rfl, a⟩
  | _, _, i + 1, _, .cons a r, h => by
    simp at h
    obtain ⟨x, e, q⟩ := r.get h
    exact ⟨x, by simpa using e, q⟩
/-- the fields of a node -/
def fl : Tm → List Addr → List (Str × V)
  | .num z, _ => [("value", .int z)]
  | .nam x, _ => [("name", .str (wd x))]
  | .two k _ _, [p, q] => [(k.f1, .ref p), (k.f2, .ref q)]
  | .half _, [p] => [("inner", .ref p)]
  | .pow _ n, [p] => [("base", .ref p), ("times", .int n)]
  | .cho _ m r _ _, [p, q, t] => [("tested", .ref p), ("modulus", .int m), ("rest", .int r), ("yes", .ref q), ("no", .ref t)]
  | _, _ => []
def nsN : Tm → List Str
  | .num _ => []
  | .nam _ => []
  | .two k _ _ => [k.f1, k.f2]
  | .half _ => ["inner"]
  | .pow _ _ => ["base"]
  | .cho _ _ _ _ _ => ["tested", "yes", "no"]
def nsP : Tm → List Str
  | .num _ => ["value"]
  | .nam _ => ["name"]
  | .two _ _ _ => []
  | .half _ => []
  | .pow _ _ => ["times"]
  | .cho _ _ _ _ _ => ["modulus", "rest"]
def plV : Tm → List V
  | .num z => [.int z]
  | .nam x => [.str (wd x)]
  | .two _ _ _ => []
  | .half _ => []
  | .pow _ n => [.int n]
  | .cho _ m r _ _ => [.int m, .int r]
theorem lk_eq {f : Str} {v : V} {r : List (Str × V)} : ((f, v) :: r).lookup f = some v := by simp [List.lookup]
theorem lk_ne {f g : Str} {v : V} {r : List (Str × V)} (h : ¬ f = g) : ((g, v) :: r).lookup f = r.lookup f := by
  have : (f == g) = false := by simpa using h
  simp [List.lookup, this]
theorem NodeAt.split {c : CA} {H : Hp} : ∀ {T : Tm} {a : Addr}, NodeAt c H T a → ∃ dx ks, H a = some (.ins (c.of T) dx (fl T ks)) ∧ All2 (NodeAt c H) (kids T) ks ∧
    (nsN T).map (fun n => (fl T ks).lookup n) = ks.map (fun k => some (V.ref k)) ∧ (nsP T).map (fun n => (fl T ks).lookup n) = (plV T).map some
  | .num z, a, ⟨dx, e⟩ => ⟨dx, [], e, .nil, rfl, by
    show [_] = [_]
    exact congrArg (fun x => [x]) lk_eq⟩
  | .nam x, a, ⟨dx, e⟩ => ⟨dx, [], e, .nil, rfl, by
    show [_] = [_]
    exact congrArg (fun x => [x]) lk_eq⟩
  | .two k x y, a, ⟨dx, p, q, e, ea, eb⟩ => ⟨dx, [p, q], e, .cons ea (.cons eb .nil), by
    have h1 : (fl (.two k x y) [p, q]).lookup k.f1 = some (.ref p) := lk_eq
    have h2 : (fl (.two k x y) [p, q]).lookup k.f2 = some (.ref q) := (lk_ne (by cases k <;> decide +kernel)).trans lk_eq
    show [(fl (.two k x y) [p, q]).lookup k.f1, (fl (.two k x y) [p, q]).lookup k.f2] = [some (.ref p), some (.ref q)]
    rw [h1, h2], rfl⟩
  | .half x, a, ⟨dx, p, e, ea⟩ => ⟨dx, [p], e, .cons ea .nil, by
    show [_] = [_]
    exact congrArg (fun x => [x]) lk_eq, rfl⟩
  | .pow x n, a, ⟨dx, p, e, ea⟩ => ⟨dx, [p], e, .cons ea .nil, by
    show [_] = [_]
    exact congrArg (fun x => [x]) lk_eq, by
    show [_] = [_]
    exact congrArg (fun x => [x]) ((lk_ne (by decide +kernel)).trans lk_eq)⟩
  | .cho x m r y z, a, ⟨dx, p, q, t, e, ea, eb, ec⟩ => ⟨dx, [p, q, t], e, .cons ea (.cons eb (.cons ec .nil)), by
    have h1 : (fl (.cho x m r y z) [p, q, t]).lookup ("tested" : Str) = some (.ref p) := lk_eq
    have h2 : (fl (.cho x m r y z) [p, q, t]).lookup ("yes" : Str) = some (.ref q) := (lk_ne (by decide +kernel)).trans ((lk_ne (by decide +kernel)).trans ((lk_ne (by decide +kernel)).trans lk_eq))
    have h3 : (fl (.cho x m r y z) [p, q, t]).lookup ("no" : Str) = some (.ref t) := (lk_ne (by decide +kernel)).trans ((lk_ne (by decide +kernel)).trans ((lk_ne (by decide +kernel)).trans ((lk_ne (by decide +kernel)).trans lk_eq)))
    show [(fl (.cho x m r y z) [p, q, t]).lookup ("tested" : Str), (fl (.cho x m r y z) [p, q, t]).lookup ("yes" : Str), (fl (.cho x m r y z) [p, q, t]).lookup ("no" : Str)] = [some (.ref p), some (.ref q), some (.ref t)]
    rw [h1, h2, h3], by
    have h1 : (fl (.cho x m r y z) [p, q, t]).lookup ("modulus" : Str) = some (.int m) := (lk_ne (by decide +kernel)).trans lk_eq
    have h2 : (fl (.cho x m r y z) [p, q, t]).lookup ("rest" : Str) = some (.int r) := (lk_ne (by decide +kernel)).trans ((lk_ne (by decide +kernel)).trans lk_eq)
    show [(fl (.cho x m r y z) [p, q, t]).lookup ("modulus" : Str), (fl (.cho x m r y z) [p, q, t]).lookup ("rest" : Str)] = [some (.int m), some (.int r)]
    rw [h1, h2]⟩
theorem fl_no {T : Tm} {ks : List Addr} {m : Str} (h : m = "_nodes" ∨ m = "_plain") : (fl T ks).lookup m = none := by
  have key : ∀ g : Str, g ∈ (["value", "name", "one", "other", "top", "bottom", "base", "exponent", "inner", "times", "tested", "modulus", "rest", "yes", "no"] : List Str) → ¬ m = g := by
    intro g hg e
    subst e
    rcases h with h | h <;> rw [h] at hg <;> revert hg <;> decide +kernel
  unfold fl
  split <;> (try rfl) <;> (repeat (rw [lk_ne (key _ (by first | decide +kernel | (rename_i k _ _ _ _; cases k <;> decide +kernel)))])) <;> rfl
theorem out1 {a : Option V} : ∀ {out : List V}, [a] = out.map some → ∃ v0, out = [v0] ∧ a = some v0
  | [], h => by cases h
  | [v], h => ⟨v, rfl, (List.cons.inj h).1⟩
  | v :: w :: r, h => by
    have := congrArg List.length h
    simp at this
theorem out2 {a b : Option V} : ∀ {out : List V}, [a, b] = out.map some → ∃ v0 v1, out = [v0, v1] ∧ a = some v0 ∧ b = some v1
  | [], h => by cases h
  | v :: r, h => by
    obtain ⟨v1, e, q⟩ := out1 (List.cons.inj h).2
    exact ⟨v, v1, by rw [e], (List.cons.inj h).1, q⟩
theorem out3 {a b c : Option V} : ∀ {out : List V}, [a, b, c] = out.map some → ∃ v0 v1 v2, out = [v0, v1, v2] ∧ a = some v0 ∧ b = some v1 ∧ c = some v2
  | [], h => by cases h
  | v :: r, h => by
    obtain ⟨v1, v2, e, q⟩ := out2 (List.cons.inj h).2
    exact ⟨v, v1, v2, by rw [e], (List.cons.inj h).1, q⟩
/-- what a method hands back: a new tuple of these fields -/
def spFT (C : Addr) (ns : List Str) : Sp := fun vs H Q _ => ∃ (a dx : Addr) (fs : List (Str × V)) (out : List V), vs = [.ref a] ∧ H a = some (.ins C dx fs) ∧ ns.map (fun n => fs.lookup n) = out.map some ∧ ∀ t, H t = none → Q (.ref t) (upd H t (.tup out))
section
variable {P : Program} {w : World} {K : PySem.W.Frag} {mg : Str → Option Value} {base : Heap}
abbrev s_Node_nodes : Stmt := inClass (top 19) 12
abbrev N_Node_nodes : List Str := ["self"]
theorem sc_Node_nodes : FnScope N_Node_nodes ["self"] (defScope s_Node_nodes) := ⟨rfl, rfl, rfl, by decide +kernel, rfl, by decide +kernel, by decide +kernel⟩
theorem ok_Node_nodes {f C : Addr} {fd : FuncData} (F : Fun K "_nodes" "Node._nodes" s_Node_nodes f fd) : FnOk P w K mg base CX0 1 f fd ["self"] (spFT C []) := by
  refine F.ok sc_Node_nodes (fun vs H Q E h => ?_) (fun cdv A outer s H vs Q E hr h => ?_)
  · obtain ⟨a, dx, fs, out, rfl, _⟩ := h
    rfl
  · obtain ⟨a, dx, fs, out, rfl, ha, ho, k⟩ := h
    have e0 : out = [] := by
      cases out with
      | nil => rfl
      | cons x xs => cases ho
    subst e0
    refine ⟨_, (pss_one (ps_ret (pe_tup pa_nil))), ?_⟩
    exact ⟨(by show 0 ≤ sizeLine; decide), fun t ht => k t ht⟩
abbrev s_Node_plain : Stmt := inClass (top 19) 13
abbrev N_Node_plain : List Str := ["self"]
theorem sc_Node_plain : FnScope N_Node_plain ["self"] (defScope s_Node_plain) := ⟨rfl, rfl, rfl, by decide +kernel, rfl, by decide +kernel, by decide +kernel⟩
theorem ok_Node_plain {f C : Addr} {fd : FuncData} (F : Fun K "_plain" "Node._plain" s_Node_plain f fd) : FnOk P w K mg base CX0 1 f fd ["self"] (spFT C []) := by
  refine F.ok sc_Node_plain (fun vs H Q E h => ?_) (fun cdv A outer s H vs Q E hr h => ?_)
  · obtain ⟨a, dx, fs, out, rfl, _⟩ := h
    rfl
  · obtain ⟨a, dx, fs, out, rfl, ha, ho, k⟩ := h
    have e0 : out = [] := by
      cases out with
      | nil => rfl
      | cons x xs => cases ho
    subst e0
    refine ⟨_, (pss_one (ps_ret (pe_tup pa_nil))), ?_⟩
    exact ⟨(by show 0 ≤ sizeLine; decide), fun t ht => k t ht⟩
abbrev s_Number_plain : Stmt := inClass (top 20) 1
abbrev N_Number_plain : List Str := ["self"]
theorem sc_Number_plain : FnScope N_Number_plain ["self"] (defScope s_Number_plain) := ⟨rfl, rfl, rfl, by decide +kernel, rfl, by decide +kernel, by decide +kernel⟩
theorem ok_Number_plain {f C : Addr} {fd : FuncData} (F : Fun K "_plain" "Number._plain" s_Number_plain f fd) (cl : Cls K C) (n0 : NoAttr K C "value") : FnOk P w K mg base CX0 1 f fd ["self"] (spFT C ["value"]) := by
  refine F.ok sc_Number_plain (fun vs H Q E h => ?_) (fun cdv A outer s H vs Q E hr h => ?_)
  · obtain ⟨a, dx, fs, out, rfl, _⟩ := h
    rfl
  · obtain ⟨a, dx, fs, out, rfl, ha, ho, k⟩ := h
    obtain ⟨v0, rfl, h0⟩ := out1 ho
    refine ⟨_, (pss_one (ps_ret (pe_tup (pa_cons (pe_fld (pv 0) rfl) pa_nil)))), ?_⟩
    refine ⟨_, rfl, a, C, dx, fs, _, rfl, ha, cl, n0, h0, (by show 1 ≤ sizeLine; decide), fun t ht => k t ht⟩
abbrev s_Name_plain : Stmt := inClass (top 21) 1
abbrev N_Name_plain : List Str := ["self"]
theorem sc_Name_plain : FnScope N_Name_plain ["self"] (defScope s_Name_plain) := ⟨rfl, rfl, rfl, by decide +kernel, rfl, by decide +kernel, by decide +kernel⟩
theorem ok_Name_plain {f C : Addr} {fd : FuncData} (F : Fun K "_plain" "Name._plain" s_Name_plain f fd) (cl : Cls K C) (n0 : NoAttr K C "name") : FnOk P w K mg base CX0 1 f fd ["self"] (spFT C ["name"]) := by
  refine F.ok sc_Name_plain (fun vs H Q E h => ?_) (fun cdv A outer s H vs Q E hr h => ?_)
  · obtain ⟨a, dx, fs, out, rfl, _⟩ := h
    rfl
  · obtain ⟨a, dx, fs, out, rfl, ha, ho, k⟩ := h
    obtain ⟨v0, rfl, h0⟩ := out1 ho
    refine ⟨_, (pss_one (ps_ret (pe_tup (pa_cons (pe_fld (pv 0) rfl) pa_nil)))), ?_⟩
    refine ⟨_, rfl, a, C, dx, fs, _, rfl, ha, cl, n0, h0, (by show 1 ≤ sizeLine; decide), fun t ht => k t ht⟩
abbrev s_Pair_nodes : Stmt := inClass (top 22) 2
abbrev N_Pair_nodes : List Str := ["self"]
theorem sc_Pair_nodes : FnScope N_Pair_nodes ["self"] (defScope s_Pair_nodes) := ⟨rfl, rfl, rfl, by decide +kernel, rfl, by decide +kernel, by decide +kernel⟩
theorem ok_Pair_nodes {f C : Addr} {fd : FuncData} (F : Fun K "_nodes" "Pair._nodes" s_Pair_nodes f fd) (cl : Cls K C) (n0 : NoAttr K C "one") (n1 : NoAttr K C "other") : FnOk P w K mg base CX0 1 f fd ["self"] (spFT C ["one", "other"]) := by
  refine F.ok sc_Pair_nodes (fun vs H Q E h => ?_) (fun cdv A outer s H vs Q E hr h => ?_)
  · obtain ⟨a, dx, fs, out, rfl, _⟩ := h
    rfl
  · obtain ⟨a, dx, fs, out, rfl, ha, ho, k⟩ := h
    obtain ⟨v0, v1, rfl, h0, h1⟩ := out2 ho
    refine ⟨_, (pss_one (ps_ret (pe_tup (pa_cons (pe_fld (pv 0) rfl) (pa_cons (pe_fld (pv 0) rfl) pa_nil))))), ?_⟩
    refine ⟨_, rfl, a, C, dx, fs, _, rfl, ha, cl, n0, h0, _, rfl, a, C, dx, fs, _, rfl, ha, cl, n1, h1, (by show 2 ≤ sizeLine; decide), fun t ht => k t ht⟩
abbrev s_Half_nodes : Stmt := inClass (top 26) 2
abbrev N_Half_nodes : List Str := ["self"]
theorem sc_Half_nodes : FnScope N_Half_nodes ["self"] (defScope s_Half_nodes) := ⟨rfl, rfl, rfl, by decide +kernel, rfl, by decide +kernel, by decide +kernel⟩
theorem ok_Half_nodes {f C : Addr} {fd : FuncData} (F : Fun K "_nodes" "Half._nodes" s_Half_nodes f fd) (cl : Cls K C) (n0 : NoAttr K C "inner") : FnOk P w K mg base CX0 1 f fd ["self"] (spFT C ["inner"]) := by
  refine F.ok sc_Half_nodes (fun vs H Q E h => ?_) (fun cdv A outer s H vs Q E hr h => ?_)
  · obtain ⟨a, dx, fs, out, rfl, _⟩ := h
    rfl
  · obtain ⟨a, dx, fs, out, rfl, ha, ho, k⟩ := h
    obtain ⟨v0, rfl, h0⟩ := out1 ho
    refine ⟨_, (pss_one (ps_ret (pe_tup (pa_cons (pe_fld (pv 0) rfl) pa_nil)))), ?_⟩
    refine ⟨_, rfl, a, C, dx, fs, _, rfl, ha, cl, n0, h0, (by show 1 ≤ sizeLine; decide), fun t ht => k t ht⟩
abbrev s_Over_nodes : Stmt := inClass (top 27) 3
abbrev N_Over_nodes : List Str := ["self"]
theorem sc_Over_nodes : FnScope N_Over_nodes ["self"] (defScope s_Over_nodes) := ⟨rfl, rfl, rfl, by decide +kernel, rfl, by decide +kernel, by decide +kernel⟩
theorem ok_Over_nodes {f C : Addr} {fd : FuncData} (F : Fun K "_nodes" "Over._nodes" s_Over_nodes f fd) (cl : Cls K C) (n0 : NoAttr K C "top") (n1 : NoAttr K C "bottom") : FnOk P w K mg base CX0 1 f fd ["self"] (spFT C ["top", "bottom"]) := by
  refine F.ok sc_Over_nodes (fun vs H Q E h => ?_) (fun cdv A outer s H vs Q E hr h => ?_)
  · obtain ⟨a, dx, fs, out, rfl, _⟩ := h
    rfl
  · obtain ⟨a, dx, fs, out, rfl, ha, ho, k⟩ := h
    obtain ⟨v0, v1, rfl, h0, h1⟩ := out2 ho
    refine ⟨_, (pss_one (ps_ret (pe_tup (pa_cons (pe_fld (pv 0) rfl) (pa_cons (pe_fld (pv 0) rfl) pa_nil))))), ?_⟩
    refine ⟨_, rfl, a, C, dx, fs, _, rfl, ha, cl, n0, h0, _, rfl, a, C, dx, fs, _, rfl, ha, cl, n1, h1, (by show 2 ≤ sizeLine; decide), fun t ht => k t ht⟩
abbrev s_Power_nodes : Stmt := inClass (top 28) 2
abbrev N_Power_nodes : List Str := ["self"]
theorem sc_Power_nodes : FnScope N_Power_nodes ["self"] (defScope s_Power_nodes) := ⟨rfl, rfl, rfl, by decide +kernel, rfl, by decide +kernel, by decide +kernel⟩
theorem ok_Power_nodes {f C : Addr} {fd : FuncData} (F : Fun K "_nodes" "Power._nodes" s_Power_nodes f fd) (cl : Cls K C) (n0 : NoAttr K C "base") : FnOk P w K mg base CX0 1 f fd ["self"] (spFT C ["base"]) := by
  refine F.ok sc_Power_nodes (fun vs H Q E h => ?_) (fun cdv A outer s H vs Q E hr h => ?_)
  · obtain ⟨a, dx, fs, out, rfl, _⟩ := h
    rfl
  · obtain ⟨a, dx, fs, out, rfl, ha, ho, k⟩ := h
    obtain ⟨v0, rfl, h0⟩ := out1 ho
    refine ⟨_, (pss_one (ps_ret (pe_tup (pa_cons (pe_fld (pv 0) rfl) pa_nil)))), ?_⟩
    refine ⟨_, rfl, a, C, dx, fs, _, rfl, ha, cl, n0, h0, (by show 1 ≤ sizeLine; decide), fun t ht => k t ht⟩
abbrev s_Power_plain : Stmt := inClass (top 28) 3
abbrev N_Power_plain : List Str := ["self"]
theorem sc_Power_plain : FnScope N_Power_plain ["self"] (defScope s_Power_plain) := ⟨rfl, rfl, rfl, by decide +kernel, rfl, by decide +kernel, by decide +kernel⟩
theorem ok_Power_plain {f C : Addr} {fd : FuncData} (F : Fun K "_plain" "Power._plain" s_Power_plain f fd) (cl : Cls K C) (n0 : NoAttr K C "times") : FnOk P w K mg base CX0 1 f fd ["self"] (spFT C ["times"]) := by
  refine F.ok sc_Power_plain (fun vs H Q E h => ?_) (fun cdv A outer s H vs Q E hr h => ?_)
  · obtain ⟨a, dx, fs, out, rfl, _⟩ := h
    rfl
  · obtain ⟨a, dx, fs, out, rfl, ha, ho, k⟩ := h
    obtain ⟨v0, rfl, h0⟩ := out1 ho
    refine ⟨_, (pss_one (ps_ret (pe_tup (pa_cons (pe_fld (pv 0) rfl) pa_nil)))), ?_⟩
    refine ⟨_, rfl, a, C, dx, fs, _, rfl, ha, cl, n0, h0, (by show 1 ≤ sizeLine; decide), fun t ht => k t ht⟩
abbrev s_Raised_nodes : Stmt := inClass (top 29) 2
abbrev N_Raised_nodes : List Str := ["self"]
theorem sc_Raised_nodes : FnScope N_Raised_nodes ["self"] (defScope s_Raised_nodes) := ⟨rfl, rfl, rfl, by decide +kernel, rfl, by decide +kernel, by decide +kernel⟩
theorem ok_Raised_nodes {f C : Addr} {fd : FuncData} (F : Fun K "_nodes" "Raised._nodes" s_Raised_nodes f fd) (cl : Cls K C) (n0 : NoAttr K C "base") (n1 : NoAttr K C "exponent") : FnOk P w K mg base CX0 1 f fd ["self"] (spFT C ["base", "exponent"]) := by
  refine F.ok sc_Raised_nodes (fun vs H Q E h => ?_) (fun cdv A outer s H vs Q E hr h => ?_)
  · obtain ⟨a, dx, fs, out, rfl, _⟩ := h
    rfl
  · obtain ⟨a, dx, fs, out, rfl, ha, ho, k⟩ := h
    obtain ⟨v0, v1, rfl, h0, h1⟩ := out2 ho
    refine ⟨_, (pss_one (ps_ret (pe_tup (pa_cons (pe_fld (pv 0) rfl) (pa_cons (pe_fld (pv 0) rfl) pa_nil))))), ?_⟩
    refine ⟨_, rfl, a, C, dx, fs, _, rfl, ha, cl, n0, h0, _, rfl, a, C, dx, fs, _, rfl, ha, cl, n1, h1, (by show 2 ≤ sizeLine; decide), fun t ht => k t ht⟩
abbrev s_Choose_nodes : Stmt := inClass (top 30) 1
abbrev N_Choose_nodes : List Str := ["self"]
theorem sc_Choose_nodes : FnScope N_Choose_nodes ["self"] (defScope s_Choose_nodes) := ⟨rfl, rfl, rfl, by decide +kernel, rfl, by decide +kernel, by decide +kernel⟩
theorem ok_Choose_nodes {f C : Addr} {fd : FuncData} (F : Fun K "_nodes" "Choose._nodes" s_Choose_nodes f fd) (cl : Cls K C) (n0 : NoAttr K C "tested") (n1 : NoAttr K C "yes") (n2 : NoAttr K C "no") : FnOk P w K mg base CX0 1 f fd ["self"] (spFT C ["tested", "yes", "no"]) := by
  refine F.ok sc_Choose_nodes (fun vs H Q E h => ?_) (fun cdv A outer s H vs Q E hr h => ?_)
  · obtain ⟨a, dx, fs, out, rfl, _⟩ := h
    rfl
  · obtain ⟨a, dx, fs, out, rfl, ha, ho, k⟩ := h
    obtain ⟨v0, v1, v2, rfl, h0, h1, h2⟩ := out3 ho
    refine ⟨_, (pss_one (ps_ret (pe_tup (pa_cons (pe_fld (pv 0) rfl) (pa_cons (pe_fld (pv 0) rfl) (pa_cons (pe_fld (pv 0) rfl) pa_nil)))))), ?_⟩
    refine ⟨_, rfl, a, C, dx, fs, _, rfl, ha, cl, n0, h0, _, rfl, a, C, dx, fs, _, rfl, ha, cl, n1, h1, _, rfl, a, C, dx, fs, _, rfl, ha, cl, n2, h2, (by show 3 ≤ sizeLine; decide), fun t ht => k t ht⟩
abbrev s_Choose_plain : Stmt := inClass (top 30) 2
abbrev N_Choose_plain : List Str := ["self"]
theorem sc_Choose_plain : FnScope N_Choose_plain ["self"] (defScope s_Choose_plain) := ⟨rfl, rfl, rfl, by decide +kernel, rfl, by decide +kernel, by decide +kernel⟩
theorem ok_Choose_plain {f C : Addr} {fd : FuncData} (F : Fun K "_plain" "Choose._plain" s_Choose_plain f fd) (cl : Cls K C) (n0 : NoAttr K C "modulus") (n1 : NoAttr K C "rest") : FnOk P w K mg base CX0 1 f fd ["self"] (spFT C ["modulus", "rest"]) := by
  refine F.ok sc_Choose_plain (fun vs H Q E h => ?_) (fun cdv A outer s H vs Q E hr h => ?_)
  · obtain ⟨a, dx, fs, out, rfl, _⟩ := h
    rfl
  · obtain ⟨a, dx, fs, out, rfl, ha, ho, k⟩ := h
    obtain ⟨v0, v1, rfl, h0, h1⟩ := out2 ho
    refine ⟨_, (pss_one (ps_ret (pe_tup (pa_cons (pe_fld (pv 0) rfl) (pa_cons (pe_fld (pv 0) rfl) pa_nil))))), ?_⟩
    refine ⟨_, rfl, a, C, dx, fs, _, rfl, ha, cl, n0, h0, _, rfl, a, C, dx, fs, _, rfl, ha, cl, n1, h1, (by show 2 ≤ sizeLine; decide), fun t ht => k t ht⟩
end
end My

set_option Elab.async false
set_option linter.all false
set_option maxRecDepth 100000
set_option maxHeartbeats 1000000
namespace My
open PySem L2 MyR

open RT
theorem sz {n : Nat} (h : n ≤ 200000) : n < sizeLine := Nat.lt_of_le_of_lt h (by decide)
/-! ### all the parts of a term -/
def pre : Tm → List Tm
  | .num z => [.num z]
  | .nam x => [.nam x]
  | .two k a b => .two k a b :: (pre a ++ pre b)
  | .half a => .half a :: pre a
  | .pow a n => .pow a n :: pre a
  | .cho a m r b c => .cho a m r b c :: (pre a ++ (pre b ++ pre c))
theorem pre_kids (T : Tm) : pre T = T :: (kids T).flatMap pre := by
  cases T <;> simp [pre, kids]
def preL (Ts : List Tm) : List Tm := Ts.flatMap pre
theorem preL_app (a b : List Tm) : preL (a ++ b) = preL a ++ preL b := by simp [preL]
theorem preL_len (Ts : List Tm) : Ts.length ≤ (preL Ts).length := by
  induction Ts with
  | nil => exact Nat.le_refl _
  | cons T Ts ih =>
    have : 1 ≤ (pre T).length := by rw [pre_kids]; simp
    show Ts.length + 1 ≤ (List.flatMap pre (T :: Ts)).length
    rw [List.flatMap_cons, List.length_append]
    have : Ts.length ≤ (List.flatMap pre Ts).length := ih
    omega
def MOk (P : Program) (w : World) (K : PySem.W.Frag) (mg : Str → Option Value) (base : Heap) (C : Addr) (m : Str) (ns : List Str) : Prop := ∃ (f : Addr) (fd : FuncData), Meth K C m f ∧ FnOk P w K mg base CX0 1 f fd ["self"] (spFT C ns) ∧ Binds K fd ["self"] []
def nmC : Tm → Str
  | .num _ => "Number"
  | .nam _ => "Name"
  | .two .add _ _ => "Add"
  | .two .sub _ _ => "Subtract"
  | .two .mul _ _ => "Multiply"
  | .two .over _ _ => "Over"
  | .two .rai _ _ => "Raised"
  | .half _ => "Half"
  | .pow _ _ => "Power"
  | .cho _ _ _ _ _ => "Choose"
/-- what is known of the classes of nodes -/
structure NodesOk (P : Program) (w : World) (K : PySem.W.Frag) (mg : Str → Option Value) (base : Heap) (c : CA) : Prop where
  cl : ∀ T, Cls K (c.of T)
  nm : ∀ T, NameOf K (c.of T) (nmC T)
  nd : ∀ T, MOk P w K mg base (c.of T) "_nodes" (nsN T)
  pl : ∀ T, MOk P w K mg base (c.of T) "_plain" (nsP T)
/-- flat: a new list of all the nodes -/
def spFlat (c : CA) : Sp := fun vs H Q _ => ∃ (a : Addr) (T : Tm), vs = [.ref a] ∧ NodeAt c H T a ∧ (pre T).length ≤ 100000 ∧
  ∀ (p : Addr) (as : List Addr) (H' : Hp), H p = none → Same H H' → H' p = some (.lst (as.map V.ref)) → All2 (NodeAt c H') (pre T) as → Q (.ref p) H'
theorem All2.same {c : CA} {H H' : Hp} (sm : ∀ p C dx fs, H p = some (.ins C dx fs) → H' p = some (.ins C dx fs)) {Ts : List Tm} {as : List Addr} (h : All2 (NodeAt c H) Ts as) : All2 (NodeAt c H') Ts as := h.imp fun _ _ n => n.map sm
theorem All2.snoc {α β : Type} {R : α → β → Prop} : ∀ {xs : List α} {ys : List β} {y : β}, All2 R xs (ys ++ [y]) → ∃ xs' x, xs = xs' ++ [x] ∧ All2 R xs' ys ∧ R x y
  | _, [], _, .cons a .nil => ⟨[], _, rfl, .nil, a⟩
  | _, y :: ys, _, .cons a r => by
    obtain ⟨xs', x, e, q, z⟩ := All2.snoc r
    exact ⟨_ :: xs', x, by rw [e]; rfl, .cons a q, z⟩
section
variable {P : Program} {w : World} {K : PySem.W.Frag} {mg : Str → Option Value} {base : Heap}
abbrev s_flat : Stmt := top 15
abbrev N_flat : List Str := ["node", "found", "waiting", "part", "inner"]
theorem sc_flat : FnScope N_flat ["node"] (defScope s_flat) := ⟨rfl, rfl, rfl, by decide +kernel, rfl, by decide +kernel, by decide +kernel⟩
theorem ok_flat {f : Addr} {fd : FuncData} (F : Fun K "flat" "flat" s_flat f fd) (T : Glob mg) {c : CA} (N : NodesOk P w K mg base c) : FnOk P w K mg base CX0 2 f fd ["node"] (spFlat c) := by
  refine F.ok sc_flat (fun vs H Q E h => ?_) (fun cdv A outer s H vs Q E hr h => ?_)
  · obtain ⟨a, T, rfl, _⟩ := h
    rfl
  · obtain ⟨a, Tm0, rfl, hN, hsz, k⟩ := h
    have hu := hu_of hr
    have nd := sc_flat.nd
    refine ⟨_, (pss_cons (ps_set (i := 1) nd rfl (Or.inl rfl) (pe_lst pa_nil))
    (pss_cons (ps_set (i := 2) nd rfl (Or.inl rfl) (pe_lst (pa_cons (pv 0) pa_nil)))
    (pss_cons (ps_while PassesOwn.never (pt_truth (pv 2) (by intro _; rfl))
    (pss_cons (ps_set (i := 3) nd rfl (Or.inl rfl) (pe_bm0 PySem.F.plainAttrs_list PySem.F.slot_list_pop PySem.F.type_list_pop mt_pop (pv 2)))
    (pss_cons (ps_expr (pe_bm PySem.F.plainAttrs_list PySem.F.slot_list_append PySem.F.type_list_append mt_append (pv 1) (pa_cons (pv 3) pa_nil)))
    (pss_one (ps_for PassesOwn.never rfl (pi_revA (by rfl) T.g_reversed (pe_meth0V (pv 3))) (pg_name (i := 4) nd rfl (Or.inl rfl))
    (pss_one (ps_expr (pe_bm PySem.F.plainAttrs_list PySem.F.slot_list_append PySem.F.type_list_append mt_append (pv 2) (pa_cons (pv 4) pa_nil)))))))))
    (pss_one (ps_ret (pv 1)))))), ?_⟩
    refine ⟨(by show 0 ≤ sizeLine; decide), fun F0 hF => ?_⟩
    refine ⟨_, rfl, (by show 1 ≤ sizeLine; decide), fun W0 hW => ?_⟩
    have nFW : F0 ≠ W0 := fun e => by rw [e, upd_same] at hW; cases hW
    have hW0 : H W0 = none := by rw [← upd_ne (H := H) (Ne.symm nFW)]; exact hW
    have smI : ∀ b o, H b = some o → (upd (upd H F0 (.lst [])) W0 (.lst [V.ref a])) b = some o := fun b o e => by rw [upd_ne (ne_of_none e hW0), upd_ne (ne_of_none e hF)]; exact e
    refine ⟨fun m σ H1 => ∃ (v3 v4 : Option V) (fT wT : List Tm) (fa wa : List Addr), σ = [some (.ref a), some (.ref F0), some (.ref W0), v3, v4] ∧ Same H H1 ∧ H1 F0 = some (.lst (fa.map V.ref)) ∧ H1 W0 = some (.lst (wa.map V.ref)) ∧
      All2 (NodeAt c H1) fT fa ∧ All2 (NodeAt c H1) wT wa ∧ pre Tm0 = fT ++ preL wT.reverse ∧ m = (preL wT.reverse).length,
      ⟨_, none, none, [], [Tm0], [], [a], rfl, smI, by rw [upd_ne nFW, upd_same]; rfl, upd_same, .nil, .cons (hN.map fun p C dx fs e => smI p _ e) .nil, by simp [preL], rfl⟩, ?_⟩
    rintro m σ H1 ⟨v3, v4, fT, wT, fa, wa, rfl, sm, h1, h2, af, aw, hpre, rfl⟩
    refine ⟨_, rfl, !(wa.map V.ref).isEmpty, .inl ⟨_, SqL.of h2, rfl⟩, ?_⟩
    have hlen : fT.length + (preL wT.reverse).length ≤ 100000 := by rw [← List.length_append, ← hpre]; exact hsz
    refine ite2 (fun hz => ?_) (fun hz => ?_)
    · -- a part is taken
      obtain ⟨wa', w1, rfl⟩ : ∃ wa' w1, wa = wa' ++ [w1] := by
        rcases List.eq_nil_or_concat wa with e | ⟨l, x, e⟩
        · rw [e] at hz; cases hz
        · exact ⟨l, x, by rw [e]; simp⟩
      obtain ⟨wT', T1, rfl, aw', n1⟩ := aw.snoc
      have hpl : preL (wT' ++ [T1]).reverse = T1 :: ((kids T1).flatMap pre ++ preL wT'.reverse) := by
        rw [List.reverse_append]
        show preL (T1 :: wT'.reverse) = _
        show List.flatMap pre (T1 :: wT'.reverse) = _
        rw [List.flatMap_cons, pre_kids]
        rfl
      rw [hpl] at hpre hlen ⊢
      have hfl := af.len
      have hwl := aw'.len
      have hwl2 : wT'.length ≤ (preL wT'.reverse).length := by have := preL_len wT'.reverse; rwa [List.length_reverse] at this
      have hkl : (kids T1).length ≤ ((kids T1).flatMap pre).length := preL_len (kids T1)
      rw [List.length_cons, List.length_append] at hlen
      refine ⟨fun σ' H' => ∃ (v3 v4 : Option V) (fT wT : List Tm) (fa wa : List Addr), σ' = [some (.ref a), some (.ref F0), some (.ref W0), v3, v4] ∧ Same H H' ∧ H' F0 = some (.lst (fa.map V.ref)) ∧ H' W0 = some (.lst (wa.map V.ref)) ∧
        All2 (NodeAt c H') fT fa ∧ All2 (NodeAt c H') wT wa ∧ pre Tm0 = fT ++ preL wT.reverse ∧ (preL wT.reverse).length < (T1 :: ((kids T1).flatMap pre ++ preL wT'.reverse)).length,
        fun σ' H' ⟨v3, v4, fT, wT, fa, wa, e1, e2, e3, e4, e5, e6, e7, e8⟩ => ⟨_, e8, v3, v4, fT, wT, fa, wa, e1, e2, e3, e4, e5, e6, e7, rfl⟩, ?_⟩
      have hlast : ((wa' ++ [w1]).map V.ref)[((wa' ++ [w1]).map V.ref).length - 1]? = some (V.ref w1) := by simp
      have hdrop : ((wa' ++ [w1]).map V.ref).dropLast = wa'.map V.ref := by simp
      refine ⟨_, rfl, .inl ⟨rfl, _, SqL.of h2⟩, W0, _, _, rfl, rfl, h2, hlast, ?_⟩
      rw [hdrop]
      refine ⟨_, rfl, .inl ⟨rfl, _, SqL.of (by rw [upd_ne nFW]; exact h1)⟩, _, rfl, F0, _, _, rfl, rfl, by rw [upd_ne nFW]; exact h1, by rw [List.length_map]; exact sz (by omega), ?_⟩
      have smA : ∀ p C dx fs, H1 p = some (.ins C dx fs) → (upd (upd H1 W0 (.lst (wa'.map V.ref))) F0 (.lst (fa.map V.ref ++ [V.ref w1]))) p = some (.ins C dx fs) := fun p C dx fs e => by
        rw [upd_ne (ne_of e h1 (by intro z; cases z)), upd_ne (ne_of e h2 (by intro z; cases z))]
        exact e
      have smB : Same H (upd (upd H1 W0 (.lst (wa'.map V.ref))) F0 (.lst (fa.map V.ref ++ [V.ref w1]))) := fun b o e => by
        rw [upd_ne (ne_of_none e hF), upd_ne (ne_of_none e hW0)]
        exact sm b o e
      have hA1 : (upd (upd H1 W0 (.lst (wa'.map V.ref))) F0 (.lst (fa.map V.ref ++ [V.ref w1]))) F0 = some (.lst ((fa ++ [w1]).map V.ref)) := by rw [upd_same, List.map_append]; rfl
      have hA2 : (upd (upd H1 W0 (.lst (wa'.map V.ref))) F0 (.lst (fa.map V.ref ++ [V.ref w1]))) W0 = some (.lst (wa'.map V.ref)) := by rw [upd_ne (Ne.symm nFW), upd_same]
      have n1' := n1.map smA
      have af' := (af.app (All2.cons n1 .nil)).same smA
      have aw'' := aw'.same smA
      generalize (upd (upd H1 W0 (.lst (wa'.map V.ref))) F0 (.lst (fa.map V.ref ++ [V.ref w1]))) = H2 at smB hA1 hA2 n1' af' aw'' ⊢
      obtain ⟨dx, ks, hx, hks, hns, _⟩ := n1'.split
      obtain ⟨fm, fdm, me, Fm, bm⟩ := N.nd T1
      refine ⟨_, rfl, w1, _, dx, _, fm, fdm, _, _, 1, CX0, E0, rfl, hx, fl_no (.inl rfl), N.cl T1, me, Fm, hr, bm, pass0, w1, dx, _, ks.map V.ref, rfl, hx, by rw [hns, List.map_map]; rfl, fun t ht => ?_⟩
      have nFt : F0 ≠ t := ne_of_none hA1 ht
      have nWt : W0 ≠ t := ne_of_none hA2 ht
      refine ⟨t, ks.map V.ref, rfl, .inr ⟨SqT.of upd_same, ?_⟩⟩
      have hk : ks.length = (kids T1).length := hks.len.symm
      refine for_ItvT (K := K) (a := t) (xs := ks.map V.ref) (fun i σ' H' => ∃ (v4 : Option V), σ' = [some (.ref a), some (.ref F0), some (.ref W0), some (.ref w1), v4] ∧ Same H H' ∧ H' t = some (.tup (ks.map V.ref)) ∧ H' F0 = some (.lst ((fa ++ [w1]).map V.ref)) ∧ H' W0 = some (.lst ((wa' ++ ks.reverse.take i).map V.ref)) ∧
        (∀ p C dx fs, H2 p = some (.ins C dx fs) → H' p = some (.ins C dx fs)))
        ⟨v4, rfl, fun b o e => by rw [upd_ne (ne_of_none (smB b o e) ht)]; exact smB b o e, upd_same, by rw [upd_ne nFt]; exact hA1, by rw [upd_ne nWt, List.take_zero, List.append_nil]; exact hA2, fun p C dx fs e => by rw [upd_ne (ne_of_none e ht)]; exact e⟩
        (fun i σ' H' ⟨_, _, _, e, _⟩ => SqT.of e) ?_ ?_
      · rintro i x σ' H' hi hx2 ⟨v4', rfl, sm3, ht3, hF3, hW3, sm4⟩
        rw [List.length_map] at hi hx2
        have hxe : ks.reverse[i]? = some (ks[ks.length - 1 - i]'(by omega)) := by
          rw [List.getElem?_reverse hi]
          exact List.getElem?_eq_getElem (by omega)
        have hxv : x = V.ref (ks[ks.length - 1 - i]'(by omega)) := by
          rw [List.getElem?_map, List.getElem?_eq_getElem (show ks.length - 1 - i < ks.length by omega)] at hx2
          exact (Option.some.inj hx2).symm
        subst hxv
        refine ⟨_, rfl, .inl ⟨rfl, _, SqL.of hW3⟩, _, rfl, W0, _, _, rfl, rfl, hW3, ?_, ?_⟩
        · rw [List.length_map, List.length_append, List.length_take, List.length_reverse]
          exact sz (by omega)
        · refine ⟨_, rfl, fun b o e => by rw [upd_ne (ne_of_none e hW0)]; exact sm3 b o e, by rw [upd_ne (Ne.symm nWt)]; exact ht3, by rw [upd_ne nFW]; exact hF3, ?_, fun p C dx fs e => ?_⟩
          · rw [upd_same, List.take_add_one, hxe]
            simp
          · rw [upd_ne (ne_of (sm4 p C dx fs e) hW3 (by intro z; cases z))]
            exact sm4 p C dx fs e
      · rintro σ' H' ⟨v4', rfl, sm3, ht3, hF3, hW3, sm4⟩
        rw [List.length_map, List.take_of_length_le (by rw [List.length_reverse]; exact Nat.le_refl _)] at hW3
        refine ⟨_, _, fT ++ [T1], wT' ++ (kids T1).reverse, fa ++ [w1], wa' ++ ks.reverse, rfl, sm3, hF3, hW3, af'.same sm4, (aw''.app hks.rev).same sm4, ?_, ?_⟩
        · rw [hpre, List.reverse_append, List.reverse_reverse, preL_app]
          simp [preL]
        · rw [List.reverse_append, List.reverse_reverse, preL_app]
          simp [preL]
    · -- the end
      have he : wa = [] := by
        cases wa with
        | nil => rfl
        | cons x xs => exact absurd rfl hz
      subst he
      have hw : wT = [] := List.length_eq_zero_iff.mp aw.len
      subst hw
      refine ⟨_, rfl, k F0 fa H1 hF sm h1 ?_⟩
      rw [hpre]
      simpa [preL] using af
end
end My

set_option Elab.async false
set_option linter.all false
set_option maxRecDepth 100000
set_option maxHeartbeats 1000000
namespace My
open PySem L2 MyR

open RT
/-! ### the outline of a node -/
def OutAt (H : Hp) (T : Tm) (x : Addr) : Prop := ∃ u, H x = some (.tup [.str (nmC T), .ref u]) ∧ H u = some (.tup (plV T))
theorem OutAt.map {H H' : Hp} (h : ∀ p xs, H p = some (.tup xs) → H' p = some (.tup xs)) {T : Tm} {x : Addr} : OutAt H T x → OutAt H' T x
  | ⟨u, a, b⟩ => ⟨u, h _ _ a, h _ _ b⟩
def plD : Tm → List PyData
  | .num z => [.int z]
  | .nam x => [.str (wd x)]
  | .two _ _ _ => []
  | .half _ => []
  | .pow _ n => [.int n]
  | .cho _ m r _ _ => [.int m, .int r]
theorem plD_dp {K : PySem.W.Frag} {H : Hp} : ∀ T : Tm, DpAll K H (plV T) (plD T)
  | .num _ => .cons (.int _) .nil
  | .nam _ => .cons (.str _) .nil
  | .two _ _ _ => .nil
  | .half _ => .nil
  | .pow _ _ => .cons (.int _) .nil
  | .cho _ _ _ _ _ => .cons (.int _) (.cons (.int _) .nil)
def oneD (T : Tm) : PyData := .tuple [.str (nmC T), .tuple (plD T)]
def outD (T : Tm) : PyData := .list ((pre T).map oneD)
theorem out_dp {K : PySem.W.Frag} {H : Hp} : ∀ {Ts : List Tm} {xs : List Addr}, All2 (OutAt H) Ts xs → DpAll K H (xs.map V.ref) (Ts.map oneD)
  | _, _, .nil => .nil
  | _, _, .cons ⟨u, a, b⟩ r => .cons (.tup (SqT.of a) (.cons (.str _) (.cons (.tup (SqT.of b) (plD_dp _)) .nil))) (out_dp r)
theorem pre_ok : ∀ {T : Tm}, T.ok → ∀ t ∈ pre T, t.ok
  | .num z, h, t, ht => by simp [pre] at ht; subst ht; exact h
  | .nam x, h, t, ht => by simp [pre] at ht; subst ht; exact h
  | .two k a b, h, t, ht => by
    simp only [pre, List.mem_cons, List.mem_append] at ht
    rcases ht with rfl | ht | ht
    · exact h
    · exact pre_ok h.1 t ht
    · exact pre_ok h.2 t ht
  | .half a, h, t, ht => by
    simp only [pre, List.mem_cons] at ht
    rcases ht with rfl | ht
    · exact h
    · exact pre_ok (T := a) h t ht
  | .pow a n, h, t, ht => by
    simp only [pre, List.mem_cons] at ht
    rcases ht with rfl | ht
    · exact h
    · exact pre_ok h.1 t ht
  | .cho a m r b c, h, t, ht => by
    simp only [pre, List.mem_cons, List.mem_append] at ht
    rcases ht with rfl | ht | ht | ht
    · exact h
    · exact pre_ok h.1 t ht
    · exact pre_ok h.2.1 t ht
    · exact pre_ok h.2.2.1 t ht
theorem nmC_lay (T : Tm) : PyData.canLay0 (.str (nmC T)) = true := by
  cases T with
  | two k a b => cases k <;> (simp only [nmC]; decide +kernel)
  | _ => simp only [nmC]; decide +kernel
theorem plD_lay : ∀ {T : Tm}, T.ok → PyData.canLayAll0 (plD T) = true
  | .num _, _ => rfl
  | .nam x, h => by
    show (PyData.canLay0 (.str (wd x)) && PyData.canLayAll0 []) = true
    rw [nm_ok h]
    rfl
  | .two _ _ _, _ => rfl
  | .half _, _ => rfl
  | .pow _ _, _ => rfl
  | .cho _ _ _ _ _, _ => rfl
theorem oneD_lay {T : Tm} (h : T.ok) : PyData.canLay0 (oneD T) = true := by
  show (PyData.canLay0 (.str (nmC T)) && (PyData.canLayAll0 (plD T) && PyData.canLayAll0 [])) = true
  rw [nmC_lay, plD_lay h]
  rfl
theorem oneD_depth (T : Tm) : PyData.depth (oneD T) = 2 := by
  cases T <;> rfl
theorem outD_lay {T : Tm} (h : T.ok) : PyData.canLay0 (outD T) = true := by
  show PyData.canLayAll0 ((pre T).map oneD) = true
  have := pre_ok h
  generalize pre T = l at this
  induction l with
  | nil => rfl
  | cons t l ih =>
    show (PyData.canLay0 (oneD t) && PyData.canLayAll0 (l.map oneD)) = true
    rw [oneD_lay (this t List.mem_cons_self), ih fun y hy => this y (List.mem_cons_of_mem _ hy)]
    rfl
theorem outD_shaped {T : Tm} (h : T.ok) : SeqAt.shaped (outD T) = true := by
  unfold SeqAt.shaped
  rw [outD_lay h]
  have : PyData.depthAll ((pre T).map oneD) ≤ 2 := by
    generalize pre T = l
    induction l with
    | nil => exact Nat.zero_le _
    | cons t l ih =>
      show max (PyData.depth (oneD t)) (PyData.depthAll (l.map oneD)) ≤ 2
      rw [oneD_depth]
      omega
  have h4 : PyData.depth (outD T) = PyData.depthAll ((pre T).map oneD) + 1 := rfl
  rw [h4]
  simp
  omega
/-- outline: a new list of a pair for each node -/
def spOut (c : CA) : Sp := fun vs H Q _ => ∃ (a : Addr) (T : Tm), vs = [.ref a] ∧ NodeAt c H T a ∧ (pre T).length ≤ 100000 ∧
  ∀ (p : Addr) (xs : List Addr) (H' : Hp), Same H H' → H' p = some (.lst (xs.map V.ref)) → All2 (OutAt H') (pre T) xs → Q (.ref p) H'
/-- == of two equal trees -/
def spEqN (c : CA) : Sp := fun vs H Q _ => ∃ (a b : Addr) (T : Tm), vs = [.ref a, .ref b] ∧ NodeAt c H T a ∧ NodeAt c H T b ∧ T.ok ∧ (pre T).length ≤ 100000 ∧ ∀ H', Same H H' → Q (.bl true) H'
section
variable {P : Program} {w : World} {K : PySem.W.Frag} {mg : Str → Option Value} {base : Heap}
abbrev s_outline : Stmt := top 16
abbrev N_outline : List Str := ["node", "found", "part"]
theorem sc_outline : FnScope N_outline ["node"] (defScope s_outline) := ⟨rfl, rfl, rfl, by decide +kernel, rfl, by decide +kernel, by decide +kernel⟩
theorem All2.getL {α β : Type} {R : α → β → Prop} : ∀ {xs : List α} {ys : List β} {i : Nat}, All2 R xs ys → (hi : i < ys.length) → ∃ h : i < xs.length, R xs[i] ys[i]
  | _, _, 0, .cons a _, _ => ⟨Nat.succ_pos _, a⟩
  | _, _, i + 1, .cons _ r, hi => by
    obtain ⟨h, q⟩ := r.getL (i := i) (Nat.lt_of_succ_lt_succ hi)
    exact ⟨Nat.succ_lt_succ h, q⟩
theorem ok_outline {f : Addr} {fd : FuncData} (F : Fun K "outline" "outline" s_outline f fd) (T : Glob mg) {c : CA} (N : NodesOk P w K mg base c) (D_flat : Df P w K mg base 2 "flat" ["node"] (spFlat c)) : FnOk P w K mg base CX0 3 f fd ["node"] (spOut c) := by
  refine F.ok sc_outline (fun vs H Q E h => ?_) (fun cdv A outer s H vs Q E hr h => ?_)
  · obtain ⟨a, T, rfl, _⟩ := h
    rfl
  · obtain ⟨a, Tm0, rfl, hN, hsz, k⟩ := h
    have hu := hu_of hr
    have nd := sc_outline.nd
    refine ⟨_, (pss_cons (ps_set (i := 1) nd rfl (Or.inl rfl) (pe_lst pa_nil))
    (pss_cons (ps_for PassesOwn.never rfl (pi_list (pe_call D_flat.ok (hr.mono (by decide)) (by rfl) D_flat.g D_flat.kp D_flat.b .nil pass0 (pa_cons (pv 0) pa_nil))) (pg_name (i := 2) nd rfl (Or.inl rfl))
    (pss_one (ps_expr (pe_bm PySem.F.plainAttrs_list PySem.F.slot_list_append PySem.F.type_list_append mt_append (pv 1) (pa_cons (pe_tup (pa_cons (pe_clsName (pv 2) rfl rfl) (pa_cons (pe_meth0V (pv 2)) pa_nil))) pa_nil)))))
    (pss_one (ps_ret (pv 1))))), ?_⟩
    refine ⟨(by show 0 ≤ sizeLine; decide), fun F0 hF => ?_⟩
    have smF : Same H (upd H F0 (.lst [])) := fun b o e => by rw [upd_ne (ne_of_none e hF)]; exact e
    refine ⟨_, rfl, a, Tm0, rfl, hN.map fun p C dx fs e => smF p _ e, hsz, fun p as H1 hp sm1 h1 af => ?_⟩
    have hF1 : H1 F0 = some (.lst []) := sm1 _ _ upd_same
    have nFp : F0 ≠ p := ne_of_none upd_same hp
    have hlen := af.len
    refine ⟨p, rfl, ⟨_, SqL.of h1⟩, ?_⟩
    refine for_list (K := K) (a := p) (xs := as.map V.ref) (fun i σ H2 => ∃ (v : Option V) (xs : List Addr), σ = [some (.ref a), some (.ref F0), v] ∧ Same H H2 ∧ H2 p = some (.lst (as.map V.ref)) ∧ H2 F0 = some (.lst (xs.map V.ref)) ∧
      (∀ q C dx fs, H1 q = some (.ins C dx fs) → H2 q = some (.ins C dx fs)) ∧ All2 (OutAt H2) ((pre Tm0).take i) xs)
      ⟨_, [], rfl, fun b o e => sm1 b o (smF b o e), h1, hF1, fun _ _ _ _ e => e, by rw [List.take_zero]; exact .nil⟩ (fun i σ H2 _ ⟨_, _, _, _, e, _⟩ => SqL.of e) ?_ ?_
    · rintro i x σ H2 hx ⟨v, xs, rfl, sm, hp2, hF2, smI, ao⟩
      obtain ⟨hi, rfl⟩ : ∃ h : i < as.length, x = V.ref as[i] := by
        rw [List.getElem?_map] at hx
        by_cases hi : i < as.length
        · rw [List.getElem?_eq_getElem hi] at hx
          exact ⟨hi, (Option.some.inj hx).symm⟩
        · rw [List.getElem?_eq_none (by omega)] at hx
          cases hx
      obtain ⟨hi2, hn⟩ := af.getL hi
      have hn2 := hn.map smI
      obtain ⟨dx, ks, hx2, hks, _, hps⟩ := hn2.split
      obtain ⟨fm, fdm, me, Fm, bm⟩ := N.pl (pre Tm0)[i]
      have hol := ao.len
      rw [List.length_take] at hol
      refine ⟨_, rfl, .inl ⟨rfl, _, SqL.of hF2⟩, ?_⟩
      refine ⟨_, rfl, _, _, dx, _, _, rfl, hx2, N.cl _, N.nm _, ?_⟩
      refine ⟨_, rfl, _, _, dx, _, fm, fdm, _, _, 1, CX0, E0, rfl, hx2, fl_no (.inr rfl), N.cl _, me, Fm, hr.mono (by decide), bm, pass0, _, dx, _, plV (pre Tm0)[i], rfl, hx2, hps, fun t ht => ?_⟩
      refine ⟨(by show 2 ≤ sizeLine; decide), fun u hu2 => ?_⟩
      have nFt : F0 ≠ t := ne_of_none hF2 ht
      have ntu : t ≠ u := fun e => by rw [e, upd_same] at hu2; cases hu2
      have hu0 : H2 u = none := by rw [← upd_ne (H := H2) (Ne.symm ntu)]; exact hu2
      have nFu : F0 ≠ u := ne_of_none hF2 hu0
      have npt : p ≠ t := ne_of_none hp2 ht
      have npu : p ≠ u := ne_of_none hp2 hu0
      refine ⟨F0, _, _, rfl, rfl, by rw [upd_ne nFu, upd_ne nFt]; exact hF2, by rw [List.length_map]; exact sz (by omega), ?_⟩
      refine ⟨_, xs ++ [u], rfl, fun b o e => ?_, by rw [upd_ne (Ne.symm nFp), upd_ne npu, upd_ne npt]; exact hp2, by rw [upd_same, List.map_append]; rfl, fun q C dx fs e => ?_, ?_⟩
      · rw [upd_ne (ne_of_none e hF), upd_ne (ne_of_none (sm b o e) hu0), upd_ne (ne_of_none (sm b o e) ht)]
        exact sm b o e
      · have e2 := smI q C dx fs e
        rw [upd_ne (ne_of e2 hF2 (by intro z; cases z)), upd_ne (ne_of_none e2 hu0), upd_ne (ne_of_none e2 ht)]
        exact e2
      · rw [List.take_add_one, List.getElem?_eq_getElem hi2]
        refine (ao.imp fun T x o => o.map fun q zs e => ?_).app (.cons ⟨t, by rw [upd_ne (Ne.symm nFu), upd_same], by rw [upd_ne (Ne.symm nFt), upd_ne ntu, upd_same]⟩ .nil)
        rw [upd_ne (ne_of e hF2 (by intro z; cases z)), upd_ne (ne_of_none e hu0), upd_ne (ne_of_none e ht)]
        exact e
    · rintro σ H2 ⟨v, xs, rfl, sm, hp2, hF2, smI, ao⟩
      rw [List.length_map, ← hlen, List.take_length] at ao
      exact ⟨_, rfl, k F0 xs H2 sm hF2 ao⟩
abbrev s_Node_eq : Stmt := inClass (top 19) 6
abbrev N_Node_eq : List Str := ["self", "other"]
theorem sc_Node_eq : FnScope N_Node_eq ["self", "other"] (defScope s_Node_eq) := ⟨rfl, rfl, rfl, by decide +kernel, rfl, by decide +kernel, by decide +kernel⟩
theorem ok_Node_eq {f : Addr} {fd : FuncData} (F : Fun K "__eq__" "Node.__eq__" s_Node_eq f fd) (T : Glob mg) {c : CA} (N : NodesOk P w K mg base c) (D_outline : Df P w K mg base 3 "outline" ["node"] (spOut c)) (hi : mg "isinstance" = none) {Cn : Addr} (hn : mg "Node" = some (.ref Cn))
    (hk : ∀ T, PySem.W.kitOne K (.ref (c.of T)) (.ref Cn) = some true) : FnOk P w K mg base CX0 4 f fd ["self", "other"] (spEqN c) := by
  refine F.ok sc_Node_eq (fun vs H Q E h => ?_) (fun cdv A outer s H vs Q E hr h => ?_)
  · obtain ⟨a, b, T, rfl, _⟩ := h
    rfl
  · obtain ⟨a, b, Tm0, rfl, hA, hB, hok, hsz, k⟩ := h
    have hu := hu_of hr
    have nd := sc_Node_eq.nd
    refine ⟨_, (pss_one (ps_ret (pe_and (pe_callB call_isi (by rfl) hi (by decide +kernel) (pa_cons (pv 1) (pa_cons (pe_glob (v := .ref Cn) rfl hn rfl) pa_nil))) (pe_one (pe_cmpR (op_eqD hr.units) (pe_call D_outline.ok (hr.mono (by decide)) (by rfl) D_outline.g D_outline.kp D_outline.b .nil pass0 (pa_cons (pv 0) pa_nil)) (pe_call D_outline.ok (hr.mono (by decide)) (by rfl) D_outline.g D_outline.kp D_outline.b .nil pass0 (pa_cons (pv 1) pa_nil)) (nomark _)))))), ?_⟩
    obtain ⟨dx, ks, hx, _⟩ := hB.split
    have nm := N.nm Tm0
    refine ⟨_, rfl, ?_⟩
    refine ⟨_, _, _, _, true, rfl, .own Cn, .base (.ins hx (N.cl Tm0) nm.ca nm.cn nm.ct nm.cm), hk Tm0, ?_⟩
    refine ⟨true, rfl, ?_⟩
    refine ⟨_, rfl, a, Tm0, rfl, hA, hsz, fun p xs H1 sm1 h1 o1 => ?_⟩
    refine ⟨_, rfl, b, Tm0, rfl, hB.map fun q C dx fs e => sm1 q _ e, hsz, fun q ys H2 sm2 h2 o2 => ?_⟩
    refine ⟨_, _, .lst (SqL.of (sm2 _ _ h1)) (out_dp (o1.imp fun T x o => o.map fun q zs e => sm2 q _ e)), .lst (SqL.of h2) (out_dp o2), outD_shaped hok, outD_shaped hok, ?_⟩
    have : PyData.eqv (.list ((pre Tm0).map oneD)) (.list ((pre Tm0).map oneD)) = true := SeqAt.eqv_refl _ (outD_lay hok)
    rw [this]
    exact k H2 (sm1.trans sm2)
end
end My

set_option Elab.async false
set_option linter.all false
set_option maxRecDepth 100000
set_option maxHeartbeats 1000000
namespace My
open PySem L2 MyR

open RT
/-! ### the parts of a term's tuple -/
def hdS : Tm → Str
  | .num _ => "number"
  | .nam _ => "name"
  | .two k _ _ => k.s
  | .half _ => "half"
  | .pow _ _ => "power"
  | .cho _ _ _ _ _ => "choose"
def agV : Tm → List Addr → List V
  | .num z, _ => [.int z]
  | .nam x, _ => [.str (wd x)]
  | .two _ _ _, [p, q] => [.ref p, .ref q]
  | .half _, [p] => [.ref p]
  | .pow _ n, [p] => [.ref p, .int n]
  | .cho _ m r _ _, [p, q, t] => [.ref p, .int m, .int r, .ref q, .ref t]
  | _, _ => []
def isRf : V → Bool
  | .ref _ => true
  | _ => false
/-- a number, a text or a tuple -/
def Part (H : Hp) (v : V) : Prop := (∃ i, v = .int i) ∨ (∃ x, v = .str x) ∨ ∃ k xs, v = .ref k ∧ H k = some (.tup xs)
theorem TmAt.tupl {H : Hp} : ∀ {T : Tm} {a : Addr}, TmAt H T a → ∃ xs, H a = some (.tup xs)
  | .num _, _, e => ⟨_, e⟩
  | .nam _, _, e => ⟨_, e⟩
  | .two _ _ _, _, ⟨_, _, e, _⟩ => ⟨_, e⟩
  | .half _, _, ⟨_, e, _⟩ => ⟨_, e⟩
  | .pow _ _, _, ⟨_, e, _⟩ => ⟨_, e⟩
  | .cho _ _ _ _ _, _, ⟨_, _, _, e, _⟩ => ⟨_, e⟩
theorem Part.ref {H : Hp} {T : Tm} {a : Addr} (h : TmAt H T a) : Part H (.ref a) := by
  obtain ⟨xs, e⟩ := h.tupl
  exact .inr (.inr ⟨a, xs, rfl, e⟩)
theorem TmAt.split {H : Hp} : ∀ {T : Tm} {a : Addr}, TmAt H T a → ∃ ks, H a = some (.tup (.str (hdS T) :: agV T ks)) ∧ All2 (TmAt H) (kids T) ks ∧ (agV T ks).filter isRf = ks.map V.ref ∧ (∀ v ∈ agV T ks, Part H v) ∧ (agV T ks).length ≤ 5 ∧ 1 ≤ (agV T ks).length
  | .num z, a, e => ⟨[], e, .nil, rfl, (fun v hv => by
    rcases List.mem_cons.mp hv with rfl | hv
    · exact .inl ⟨_, rfl⟩
    · cases hv), by show 1 ≤ 5; decide, by show 1 ≤ 1; decide⟩
  | .nam x, a, e => ⟨[], e, .nil, rfl, (fun v hv => by
    rcases List.mem_cons.mp hv with rfl | hv
    · exact .inr (.inl ⟨_, rfl⟩)
    · cases hv), by show 1 ≤ 5; decide, by show 1 ≤ 1; decide⟩
  | .two k x y, a, ⟨p, q, e, ea, eb⟩ => ⟨[p, q], e, .cons ea (.cons eb .nil), rfl, (fun v hv => by
    rcases List.mem_cons.mp hv with rfl | hv
    · exact .ref ea
    rcases List.mem_cons.mp hv with rfl | hv
    · exact .ref eb
    · cases hv), by show 2 ≤ 5; decide, by show 1 ≤ 2; decide⟩
  | .half x, a, ⟨p, e, ea⟩ => ⟨[p], e, .cons ea .nil, rfl, (fun v hv => by
    rcases List.mem_cons.mp hv with rfl | hv
    · exact .ref ea
    · cases hv), by show 1 ≤ 5; decide, by show 1 ≤ 1; decide⟩
  | .pow x n, a, ⟨p, e, ea⟩ => ⟨[p], e, .cons ea .nil, rfl, (fun v hv => by
    rcases List.mem_cons.mp hv with rfl | hv
    · exact .ref ea
    rcases List.mem_cons.mp hv with rfl | hv
    · exact .inl ⟨_, rfl⟩
    · cases hv), by show 2 ≤ 5; decide, by show 1 ≤ 2; decide⟩
  | .cho x m r y z, a, ⟨p, q, t, e, ea, eb, ec⟩ => ⟨[p, q, t], e, .cons ea (.cons eb (.cons ec .nil)), rfl, (fun v hv => by
    rcases List.mem_cons.mp hv with rfl | hv
    · exact .ref ea
    rcases List.mem_cons.mp hv with rfl | hv
    · exact .inl ⟨_, rfl⟩
    rcases List.mem_cons.mp hv with rfl | hv
    · exact .inl ⟨_, rfl⟩
    rcases List.mem_cons.mp hv with rfl | hv
    · exact .ref eb
    rcases List.mem_cons.mp hv with rfl | hv
    · exact .ref ec
    · cases hv), by show 5 ≤ 5; decide, by show 1 ≤ 5; decide⟩
theorem isi_tup {K : PySem.W.Frag} {H : Hp} {v : V} (h : Part H v) : ∃ t, TyX K H v t ∧ PySem.W.kitOne K t (.type "tuple") = some (isRf v) := by
  rcases h with ⟨i, rfl⟩ | ⟨x, rfl⟩ | ⟨k, xs, rfl, e⟩
  · exact ⟨_, .base (.int i), kit_ty (a := "int") (b := "tuple") (r := false) (by decide +kernel)⟩
  · exact ⟨_, .base (.str x), kit_ty (a := "str") (b := "tuple") (r := false) (by decide +kernel)⟩
  · exact ⟨_, .base (.tup e), kit_ty (a := "tuple") (b := "tuple") (r := true) (by decide +kernel)⟩
theorem hdS_call (T : Tm) : ¬ V.str (hdS T) = V.str ("call" : Str) := by
  intro h
  have h := V.str.inj h
  revert h
  cases T with
  | two k a b => cases k <;> (simp only [hdS, Bk.s]; decide +kernel)
  | _ => simp only [hdS]; decide +kernel
theorem filter_snoc {α : Type} {p : α → Bool} {xs : List α} {i : Nat} {x : α} (h : xs[i]? = some x) : (xs.take (i + 1)).filter p = (xs.take i).filter p ++ (if p x = true then [x] else []) := by
  rw [List.take_add_one, h, List.filter_append]
  by_cases q : p x = true
  · simp [q]
  · simp [q]
theorem call_isiN {X : Cx} {K : PySem.W.Frag} (h : X.K = K) : CallR X (.builtin "isinstance") (rIsi K) := h ▸ call_isi
/-- _law_held: a new list of the parts that are terms -/
def spHeld : Sp := fun vs H Q _ => ∃ (p : Addr) (T : Tm), vs = [.ref p] ∧ TmAt H T p ∧
  ∀ (l : Addr) (ks : List Addr) (H' : Hp), Same H H' → H' l = some (.lst (ks.map V.ref)) → All2 (TmAt H') (kids T) ks → Q (.ref l) H'
section
variable {P : Program} {w : World} {K : PySem.W.Frag} {mg : Str → Option Value} {base : Heap}
abbrev s_law_held : Stmt := top 41
abbrev N_law_held : List Str := ["_law_term_here", "_law_part"]
theorem sc_law_held : FnScope N_law_held ["_law_term_here"] (defScope s_law_held) := ⟨rfl, rfl, rfl, by decide +kernel, rfl, by decide +kernel, by decide +kernel⟩
theorem ok_law_held {f : Addr} {fd : FuncData} (F : Fun K "_law_held" "_law_held" s_law_held f fd) (g_isinstance : mg "isinstance" = none) (g_tuple : mg "tuple" = none) : FnOk P w K mg base CX0 1 f fd ["_law_term_here"] spHeld := by
  refine F.ok sc_law_held (fun vs H Q E h => ?_) (fun cdv A outer s H vs Q E hr h => ?_)
  · obtain ⟨p, T, rfl, _⟩ := h
    rfl
  · obtain ⟨p, T, rfl, hT, k⟩ := h
    have hu := hu_of hr
    have nd := sc_law_held.nd
    refine ⟨_, (pss_cons (ps_if (pt_cmpR op_eq (pe_ix ix_tup (pv 0) pe_int (fun _ _ => rfl)) pe_str (nomark _))
    pss_never
    pss_nil)
    (pss_one (ps_ret (pe_lc (own := [("_law_part", 1)]) (g := gName 1) rfl nd (pi_tup (pe_slice sl_tup (pv 0) (po_some pe_int) po_none)) (blkOk_by (N := N_law_held) (sc := defScope s_law_held) (by decide +kernel)) (fun _ _ _ _ _ => pg_name (i := 1) nd rfl (Or.inl rfl)) (fun _ _ _ _ _ => pts_one (pt_val (pe_callB (call_isiN (K := K) rfl) (by rfl) g_isinstance (by decide +kernel) (pa_cons (pv 1) (pa_cons (pe_bltn (v := .ty "tuple") (by rfl) g_tuple (by decide +kernel) rfl) pa_nil))))) (fun _ _ _ _ _ => (pv 1)))))), ?_⟩
    obtain ⟨ks, hp, hk, hf, hpart, hln, hl1⟩ := hT.split
    refine ⟨_, rfl, p, _, 0, .str (hdS T), rfl, rfl, SqT.of hp, atI_nat (j := 0) rfl, rfl, _, rfl, ?_⟩
    refine ite2 (fun hz => ?_) (fun _ => ?_)
    · exact absurd (of_decide_eq_true hz) (hdS_call T)
    refine ⟨_, rfl, _, rfl, p, _, rfl, SqT.of hp, ?_, fun t ht => ?_⟩
    · rintro ⟨h0, _⟩
      have : HT.sIx (V.str (hdS T) :: agV T ks).length 0 (some ((1 : Nat) : Int)) = min 1 (V.str (hdS T) :: agV T ks).length := HT.sIx_nat _ _ _
      have h0' : HT.sIx (V.str (hdS T) :: agV T ks).length 0 (some ((1 : Nat) : Int)) = 0 := h0
      rw [this, List.length_cons] at h0'
      omega
    have hcut : cutV (V.str (hdS T) :: agV T ks) (some 1) none = agV T ks := by
      unfold cutV
      have : HT.sIx (V.str (hdS T) :: agV T ks).length 0 (some ((1 : Nat) : Int)) = min 1 (V.str (hdS T) :: agV T ks).length := HT.sIx_nat _ _ _
      have e1 : HT.sIx (V.str (hdS T) :: agV T ks).length 0 (some 1) = 1 := by
        refine Eq.trans this ?_
        rw [List.length_cons]
        omega
      rw [e1, HT.sIx_none]
      show (agV T ks).take ((agV T ks).length + 1 - 1) = _
      rw [Nat.add_sub_cancel, List.take_length]
    rw [hcut]
    refine ⟨t, rfl, ⟨_, SqT.of upd_same⟩, fun D hD => ?_⟩
    have ntD : t ≠ D := fun e => by rw [e, upd_same] at hD; cases hD
    have hD0 : H D = none := by rw [← upd_ne (H := H) (Ne.symm ntD)]; exact hD
    have sm0 : Same H (upd (upd H t (.tup (agV T ks))) D (.lst [])) := fun b o e => by rw [upd_ne (ne_of_none e hD0), upd_ne (ne_of_none e ht)]; exact e
    refine lc_tup (K := K) (a := t) (xs := agV T ks) (fun i H1 => Same H H1 ∧ H1 t = some (.tup (agV T ks)) ∧ H1 D = some (.lst (((agV T ks).take i).filter isRf)))
      ⟨sm0, by rw [upd_ne ntD, upd_same], by rw [upd_same, List.take_zero]; rfl⟩ (fun i H1 _ ⟨_, h1, _⟩ => SqT.of h1) ?_ ?_
    · rintro i x H1 hx ⟨sm, h1, h2⟩
      have hxm := List.mem_of_getElem? hx
      have hi := (List.getElem?_eq_some_iff.mp hx).1
      refine ⟨rfl, ?_⟩
      have hpx : Part H1 x := by
        rcases hpart x hxm with h | h | ⟨k, xs, e, e2⟩
        · exact .inl h
        · exact .inr (.inl h)
        · exact .inr (.inr ⟨k, xs, e, sm _ _ e2⟩)
      obtain ⟨ty, hty, hkt⟩ := isi_tup (K := K) hpx
      refine ⟨_, rfl, _, _, _, _, isRf x, rfl, .ty "tuple", hty, hkt, isRf x, rfl, ?_⟩
      refine ite2 (fun q => ?_) (fun q => ?_)
      · refine ⟨_, rfl, _, h2, ?_, fun b o e => ?_, by rw [upd_ne ntD]; exact h1, ?_⟩
        · refine sz ?_
          have := List.length_filter_le isRf ((agV T ks).take i)
          rw [List.length_take] at this
          omega
        · rw [upd_ne (ne_of_none e hD0)]
          exact sm b o e
        · rw [upd_same, filter_snoc hx, if_pos q]
      · refine ⟨sm, h1, ?_⟩
        rw [filter_snoc hx, if_neg q, List.append_nil]
        exact h2
    · rintro H1 ⟨sm, h1, h2⟩
      rw [List.take_length, hf] at h2
      exact k D ks H1 sm h2 (hk.imp fun T a e => e.map fun p xs q => sm _ _ q)
end
end My

set_option Elab.async false
set_option linter.all false
set_option maxRecDepth 100000
set_option maxHeartbeats 1000000
namespace My
open PySem L2 MyR

open RT
def spIsNm : Sp := fun vs H Q _ => ∃ z : Str, vs = [.str z] ∧ z.length ≤ 100 ∧ ∀ H', Same H H' → Q (.bl (isNm z.cps.toList)) H'
theorem abc_mem (c : Nat) : decide (c ∈ abc.cps.toList) = lowC c := by
  unfold lowC
  rw [abc_list]
  by_cases h : 97 ≤ c ∧ c ≤ 122
  · rw [decide_eq_true h.1, decide_eq_true h.2]
    refine decide_eq_true (List.mem_map.mpr ⟨c - 97, List.mem_range.mpr (by omega), by omega⟩)
  · have : ¬ c ∈ (List.range 26).map (· + 97) := fun e => by
      obtain ⟨i, hi, e2⟩ := List.mem_map.mp e
      have := List.mem_range.mp hi
      exact h (by omega)
    rw [decide_eq_false this]
    cases e : decide (97 ≤ c) with
    | false => rfl
    | true =>
      have := of_decide_eq_true e
      exact (decide_eq_false (show ¬ c ≤ 122 from fun q => h ⟨this, q⟩)).symm
section
variable {P : Program} {w : World} {K : PySem.W.Frag} {mg : Str → Option Value} {base : Heap}
abbrev s_law_plain : Stmt := top 45
abbrev N_law_plain : List Str := ["_law_value", "_law_least", "_law_most"]
theorem sc_law_plain : FnScope N_law_plain ["_law_value", "_law_least", "_law_most"] (defScope s_law_plain) := ⟨rfl, rfl, rfl, by decide +kernel, rfl, by decide +kernel, by decide +kernel⟩
theorem ok_law_plain {f : Addr} {fd : FuncData} (F : Fun K "_law_plain" "_law_plain" s_law_plain f fd) (T : Glob mg) : FnOk P w K mg base CX0 1 f fd ["_law_value", "_law_least", "_law_most"] spBtw := by
  refine F.ok sc_law_plain (fun vs H Q E h => ?_) (fun cdv A outer s H vs Q E hr h => ?_)
  · obtain ⟨v, lo, hi, rfl, _⟩ := h
    rfl
  · obtain ⟨v, lo, hi, rfl, ha, k⟩ := h
    refine ⟨_, (pss_one (ps_ret (pe_and (pe_callB call_isi (by rfl) T.g_isinstance (by decide +kernel) (pa_cons (pv 0) (pa_cons (pe_bltn (v := .ty "int") (by rfl) T.g_int (by decide +kernel) rfl) pa_nil))) (pe_and (pe_not (pe_callB call_isi (by rfl) T.g_isinstance (by decide +kernel) (pa_cons (pv 0) (pa_cons (pe_bltn (v := .ty "bool") (by rfl) T.g_bool (by decide +kernel) rfl) pa_nil)))) (pe_one (pe_chain op_le op_le (pv 1) (pv 0) (pv 2))))))), ?_⟩
    obtain ⟨t, ht, e⟩ := isi_int (K := K) ha
    obtain ⟨t2, ht2, e2⟩ := isi_bool (K := K) ha
    refine ⟨_, rfl, _, _, t, _, bI v, rfl, .ty "int", ht, e, _, rfl, ?_⟩
    cases ha with
    | non => exact k
    | bl b => exact ⟨_, rfl, _, _, t2, _, true, rfl, .ty "bool", ht2, e2, _, rfl, _, rfl, k⟩
    | str z hz => exact k
    | tup e => exact k
    | int i =>
      refine ⟨_, rfl, _, _, t2, _, false, rfl, .ty "bool", ht2, e2, _, rfl, _, rfl, ?_⟩
      refine ⟨_, rfl, _, rfl, _, _, rfl, rfl, _, rfl, ?_⟩
      refine ite2 (fun h1 => ?_) (fun h1 => ?_)
      · refine ⟨_, rfl, _, _, rfl, rfl, ?_⟩
        have e : btw (.int i) lo hi = decide (i ≤ hi) := by
          show (decide (lo ≤ i) && decide (i ≤ hi)) = _
          rw [h1, Bool.true_and]
        rw [e] at k
        exact k
      · have e : btw (.int i) lo hi = false := by
          show (decide (lo ≤ i) && decide (i ≤ hi)) = _
          rw [Bool.eq_false_iff.mpr h1, Bool.false_and]
        rw [e] at k
        exact k
abbrev s_law_is_name : Stmt := top 43
abbrev N_law_is_name : List Str := ["_law_word", "_law_kept", "_law_letters", "_law_sign"]
theorem sc_law_is_name : FnScope N_law_is_name ["_law_word"] (defScope s_law_is_name) := ⟨rfl, rfl, rfl, by decide +kernel, rfl, by decide +kernel, by decide +kernel⟩
theorem ok_law_is_name {f : Addr} {fd : FuncData} (F : Fun K "_law_is_name" "_law_is_name" s_law_is_name f fd) (T : Glob mg) : FnOk P w K mg base CX0 1 f fd ["_law_word"] spIsNm := by
  refine F.ok sc_law_is_name (fun vs H Q E h => ?_) (fun cdv A outer s H vs Q E hr h => ?_)
  · obtain ⟨z, rfl, _⟩ := h
    rfl
  · obtain ⟨z, rfl, hz, k⟩ := h
    have nd := sc_law_is_name.nd
    refine ⟨_, (pss_cons (ps_set (i := 1) nd rfl (Or.inl rfl) (pe_split pe_str pe_str))
    (pss_cons (ps_setLc (i := 2) (own := [("_law_sign", 3)]) (g := gName 3) rfl nd rfl rfl (sw_true rfl rfl rfl (by decide +kernel)) (pi_str (pv 0)) (blkOk_by (N := N_law_is_name) (sc := defScope s_law_is_name) (by decide +kernel)) (fun _ _ _ _ _ => pg_name (i := 3) nd rfl (Or.inl rfl)) (fun _ _ _ _ _ => pts_one (pt_cmpR op_inS (pv 3) pe_str (by rfl))) (fun _ _ _ _ _ => (pv 3)))
    (pss_one (ps_ret (pe_and (pe_chain op_lt op_lt pe_int (pe_callB call_len_str (by rfl) T.g_len PySem.boot_len (pa_cons (pv 0) pa_nil)) pe_int) (pe_and (pe_cmpR op_notIn_seq (pv 0) (pv 1) (by rfl)) (pe_one (pe_cmpR op_eq (pe_callB call_len_seq (by rfl) T.g_len PySem.boot_len (pa_cons (pv 2) pa_nil)) (pe_callB call_len_str (by rfl) T.g_len PySem.boot_len (pa_cons (pv 0) pa_nil)) (nomark _))))))))), ?_⟩
    have hzl : z.length = z.cps.toList.length := by simp [Str.length]
    refine ⟨⟨_, rfl⟩, keptT, " ", rfl, rfl, by decide +kernel, kept_len, fun p hp => ?_⟩
    rw [kept_split]
    refine ⟨_, rfl, z, rfl, fun D hD => ?_⟩
    have npD : p ≠ D := fun e => by rw [e, upd_same] at hD; cases hD
    have hD0 : H D = none := by rw [← upd_ne (H := H) (Ne.symm npD)]; exact hD
    refine lc_it walk_str (fun i H1 => Same H H1 ∧ H1 p = some (.lst ((keptL.map wd).map V.str)) ∧ H1 D = some (.lst (((z.cps.toList.take i).filter lowC).map fun c => V.str (wd [c])))) ⟨fun b o e => by rw [upd_ne (ne_of_none e hD0), upd_ne (ne_of_none e hp)]; exact e, by rw [upd_ne npD, upd_same], upd_same⟩ (fun _ _ _ _ => trivial) ?_ ?_
    · rintro i x H1 H2 hi ⟨sm, h1, h2⟩ ⟨rfl, c, hc, rfl⟩
      refine ⟨rfl, ?_⟩
      have hc2 : z.cps.toList[i]? = some c := by rw [Array.getElem?_toList]; exact hc
      refine ⟨_, rfl, c, abc, rfl, rfl, _, rfl, ?_⟩
      rw [abc_mem]
      refine ite2 (fun q => ?_) (fun q => ?_)
      · refine ⟨_, rfl, _, h2, ?_, fun a o e => ?_, by rw [upd_ne npD]; exact h1, ?_⟩
        · rw [List.length_map]
          have := List.length_filter_le lowC (z.cps.toList.take i)
          rw [List.length_take] at this
          exact small1000 (by omega)
        · rw [upd_ne (ne_of_none e hD0)]; exact sm a o e
        · rw [upd_same, filter_snoc hc2, if_pos q, List.map_append]
          rfl
      · refine ⟨sm, h1, ?_⟩
        rw [filter_snoc hc2, if_neg q, List.append_nil]
        exact h2
    · rintro H1 ⟨sm, h1, h2⟩
      have hl : z.cps.toList.take z.cps.size = z.cps.toList := List.take_of_length_le (by rw [Array.length_toList]; exact Nat.le_refl _)
      rw [hl] at h2
      have hnm : isNm z.cps.toList = (decide (1 ≤ z.cps.toList.length) && decide (z.cps.toList.length ≤ 8) && (z.cps.toList.all lowC) && !keptL.contains z.cps.toList) := rfl
      have no : ∀ (hv : isNm z.cps.toList = false), Q (.bl false) H1 := fun hv => by
        have q := k H1 sm
        rw [hv] at q
        exact q
      have e1 : inV (.str z) ((keptL.map wd).map V.str) = keptL.contains z.cps.toList := by
        have := in_kept (l := z.cps.toList)
        rwa [wd_of] at this
      refine ⟨_, rfl, z, rfl, Nat.le_of_lt (small1000 (by omega)), ?_⟩
      refine ⟨_, _, rfl, rfl, _, rfl, ?_⟩
      refine ite2 (fun h3 => ?_) (fun h3 => ?_)
      · have h3' := of_decide_eq_true h3
        refine ⟨_, _, rfl, rfl, _, rfl, ?_⟩
        by_cases h8 : (z.length : Int) < 9
        · rw [decide_eq_true h8]
          refine ⟨_, rfl, _, rfl, p, _, rfl, .inl (SqL.of h1), rfl, kept_flat, _, rfl, ?_⟩
          refine ite2 (fun hk => ?_) (fun hk => ?_)
          · have hk2 : keptL.contains z.cps.toList = false := by
              rw [← e1]
              cases e : inV (.str z) ((keptL.map wd).map V.str) with
              | false => rfl
              | true =>
                have hk' : (!inV (.str z) ((keptL.map wd).map V.str)) = true := hk
                rw [e] at hk'
                cases hk'
            refine ⟨_, rfl, D, _, rfl, .inl (SqL.of h2), _, rfl, z, rfl, Nat.le_of_lt (small1000 (by omega)), ?_⟩
            refine ⟨rfl, ?_⟩
            have q := k H1 sm
            rw [hnm, decide_eq_true (show 1 ≤ z.cps.toList.length by omega), decide_eq_true (show z.cps.toList.length ≤ 8 by omega), hk2] at q
            simp only [Bool.true_and, Bool.not_false, Bool.and_true] at q
            rw [List.length_map]
            have e9 : decide (V.int ((z.cps.toList.filter lowC).length : Int) = V.int (z.length : Int)) = z.cps.toList.all lowC := by
              rw [hzl]
              cases e : z.cps.toList.all lowC with
              | true =>
                have := List.filter_eq_self.mpr (List.all_eq_true.mp e)
                rw [this]
                exact decide_eq_true rfl
              | false =>
                refine decide_eq_false fun e3 => ?_
                have e4 : (z.cps.toList.filter lowC).length = z.cps.toList.length := by
                  have := V.int.inj e3
                  omega
                have e5 := List.filter_sublist.eq_of_length e4
                have e6 := List.all_eq_true.mpr (List.filter_eq_self.mp e5)
                rw [e6] at e
                cases e
            rw [← e9] at q
            exact q
          · have hk2 : keptL.contains z.cps.toList = true := by
              rw [← e1]
              cases e : inV (.str z) ((keptL.map wd).map V.str) with
              | true => rfl
              | false =>
                have hk' : ¬ (!inV (.str z) ((keptL.map wd).map V.str)) = true := hk
                rw [e] at hk'
                exact absurd rfl hk'
            exact no (by rw [hnm, hk2, Bool.not_true, Bool.and_false])
        · rw [decide_eq_false h8]
          exact no (by rw [hnm, decide_eq_false (show ¬ z.cps.toList.length ≤ 8 by omega), Bool.and_false, Bool.false_and, Bool.false_and])
      · have h3' : ¬ (0 < (z.length : Int)) := fun q => h3 (decide_eq_true q)
        exact ⟨_, rfl, no (by rw [hnm, decide_eq_false (show ¬ 1 ≤ z.cps.toList.length by omega), Bool.false_and, Bool.false_and, Bool.false_and])⟩
end
end My

set_option Elab.async false
set_option linter.all false
set_option maxRecDepth 100000
set_option maxHeartbeats 1000000
namespace My
open PySem L2 MyR

open RT
/-! ### nodes made of terms -/
/-- a class that is called by its name -/
structure Mo (P : Program) (w : World) (K : PySem.W.Frag) (mg : Str → Option Value) (base : Heap) (CX : CXT) (k : Nat) (x : Str) (C : Addr) (ps : List Str) (sp : Sp) where
  f : Addr
  fd : FuncData
  m : Mk K C f
  ok : FnOk P w K mg base CX k f fd ps sp
  g : mg x = some (.ref C)
  b : Binds K fd ps []
structure Mks (P : Program) (w : World) (K : PySem.W.Frag) (mg : Str → Option Value) (base : Heap) (c : CA) where
  num : Mo P w K mg base CX0 3 "Number" c.num ["self", "value"] (spOk c.num 1 a1 oN fN)
  nam : Mo P w K mg base CX0 2 "Name" c.nam ["self", "name"] (spOk c.nam 1 a1 oM fM)
  add : Mo P w K mg base CX0 1 "Add" c.add ["self", "one", "other"] (spI2 c.add "one" "other")
  sub : Mo P w K mg base CX0 1 "Subtract" c.sub ["self", "one", "other"] (spI2 c.sub "one" "other")
  mul : Mo P w K mg base CX0 1 "Multiply" c.mul ["self", "one", "other"] (spI2 c.mul "one" "other")
  over : Mo P w K mg base CX0 1 "Over" c.over ["self", "top", "bottom"] (spI2 c.over "top" "bottom")
  rai : Mo P w K mg base CX0 1 "Raised" c.rai ["self", "base", "exponent"] (spI2 c.rai "base" "exponent")
  half : Mo P w K mg base CX0 1 "Half" c.half ["self", "inner"] (spI1 c.half "inner")
  pow : Mo P w K mg base CX0 3 "Power" c.pow ["self", "base", "times"] (spOk c.pow 2 a2 oP fP)
  cho : Mo P w K mg base CX0 3 "Choose" c.cho ["self", "tested", "modulus", "rest", "yes", "no"] (spOk c.cho 5 a5 oC fC)
theorem mk_done {H H1 H' : Hp} {x dx C : Addr} {fs : List (Str × V)} (hx : H x = none) (hd : H dx = none) (sm : Same (upd (upd H dx (.own x)) x (.ins C dx [])) H1) (ini : Ini H1 x C dx fs H') : Same H H' ∧ H' x = some (.ins C dx fs) :=
  ⟨fun b o e => ini.2 b o (sm _ _ (by rw [upd_ne (ne_of_none e hx), upd_ne (ne_of_none e hd)]; exact e)) (ne_of_none e hx), ini.1⟩
theorem NodeAt.same {c : CA} {H H' : Hp} (sm : Same H H') {T : Tm} {a : Addr} (h : NodeAt c H T a) : NodeAt c H' T a := h.map fun p C dx fs e => sm p _ e
theorem TmAt.same {H H' : Hp} (sm : Same H H') {T : Tm} {a : Addr} (h : TmAt H T a) : TmAt H' T a := h.map fun p xs e => sm p _ e
theorem kids_in : ∀ {T : Tm}, T.ok → ∀ t ∈ kids T, t.ok ∧ t.depth < T.depth
  | .num _, _, t, ht => by cases ht
  | .nam _, _, t, ht => by cases ht
  | .two k a b, h, t, ht => by
    simp only [kids, List.mem_cons, List.not_mem_nil, or_false] at ht
    rcases ht with rfl | rfl
    · exact ⟨h.1, by show t.depth < max t.depth b.depth + 1; omega⟩
    · exact ⟨h.2, by show t.depth < max a.depth t.depth + 1; omega⟩
  | .half a, h, t, ht => by
    simp only [kids, List.mem_cons, List.not_mem_nil, or_false] at ht
    subst ht
    exact ⟨h, Nat.lt_succ_self _⟩
  | .pow a n, h, t, ht => by
    simp only [kids, List.mem_cons, List.not_mem_nil, or_false] at ht
    subst ht
    exact ⟨h.1, Nat.lt_succ_self _⟩
  | .cho a m r b d, h, t, ht => by
    simp only [kids, List.mem_cons, List.not_mem_nil, or_false] at ht
    rcases ht with rfl | rfl | rfl
    · exact ⟨h.1, by show t.depth < max t.depth (max b.depth d.depth) + 1; omega⟩
    · exact ⟨h.2.1, by show t.depth < max a.depth (max t.depth d.depth) + 1; omega⟩
    · exact ⟨h.2.2.1, by show t.depth < max a.depth (max b.depth t.depth) + 1; omega⟩
theorem kids_len (T : Tm) : (kids T).length ≤ 3 := by cases T <;> simp [kids]
/-- _law_node: the node of a term -/
def spNode (c : CA) (n : Nat) : Sp := fun vs H Q _ => ∃ (p : Addr) (T : Tm), vs = [.ref p] ∧ TmAt H T p ∧ T.ok ∧ T.depth < n ∧ ∀ (x : Addr) H', Same H H' → NodeAt c H' T x → Q (.ref x) H'
section
variable {P : Program} {w : World} {K : PySem.W.Frag} {mg : Str → Option Value} {base : Heap}
abbrev s_law_node : Stmt := top 42
abbrev N_law_node : List Str := ["_law_term_here", "_law_kind", "_law_parts", "_law_part", "_law_one", "_law_other"]
theorem sc_law_node : FnScope N_law_node ["_law_term_here"] (defScope s_law_node) := ⟨rfl, rfl, rfl, by decide +kernel, rfl, by decide +kernel, by decide +kernel⟩
theorem ok_law_node {f : Addr} {fd : FuncData} (F : Fun K "_law_node" "_law_node" s_law_node f fd) {c : CA} (M : Mks P w K mg base c) (D_law_held : Df P w K mg base 1 "_law_held" ["_law_term_here"] spHeld) (hg : mg "_law_node" = some (.ref f)) (hb : Binds K fd ["_law_term_here"] []) :
    ∀ n : Nat, FnOk P w K mg base CX0 (4 + n) f fd ["_law_term_here"] (spNode c n)
  | 0 => by
    refine F.ok (k := 3) sc_law_node (fun vs H Q E h => ?_) (fun cdv A outer s H vs Q E hr h => ?_)
    · obtain ⟨p, T, rfl, _⟩ := h
      rfl
    · obtain ⟨p, T, rfl, _, _, h0, _⟩ := h
      exact absurd h0 (Nat.not_lt_zero _)
  | n + 1 => by
    have ih : Df P w K mg base (4 + n) "_law_node" ["_law_term_here"] (spNode c n) := ⟨f, fd, ok_law_node F M D_law_held hg hb n, hg, F.kp, hb⟩
    refine F.ok (k := 4 + n) sc_law_node (fun vs H Q E h => ?_) (fun cdv A outer s H vs Q E hr h => ?_)
    · obtain ⟨p, T, rfl, _⟩ := h
      rfl
    · obtain ⟨p, T, rfl, hT, hok, hdep, k⟩ := h
      have hu := hu_of hr
      have nd := sc_law_node.nd
      refine ⟨_, (pss_cons (ps_par (i := 1) (j := 2) rfl nd rfl rfl (by decide) rfl rfl (pa_cons (pe_ix ix_tup (pv 0) pe_int (fun _ _ => rfl)) (pa_cons (pe_lc (own := [("_law_part", 3)]) (g := gName 3) (tt := tYes) rfl nd (pi_list (pe_call D_law_held.ok (hr.mono (by omega)) (by rfl) D_law_held.g D_law_held.kp D_law_held.b .nil pass0 (pa_cons (pv 0) pa_nil))) (blkOk_by (N := N_law_node) (sc := defScope s_law_node) (by decide +kernel)) (fun _ _ _ _ _ => pg_name (i := 3) nd rfl (Or.inl rfl)) (fun _ _ _ _ _ => pts_nil) (fun _ _ _ _ _ => (pe_call ih.ok hr (by rfl) ih.g ih.kp ih.b .nil pass0 (pa_cons (pv 3) pa_nil)))) pa_nil)) (by rfl))
    (pss_cons (ps_if (pt_cmpR op_in_seq (pv 1) (pe_tup (pa_cons pe_str (pa_cons pe_str pa_nil))) (by rfl))
    (pss_one (ps_ret (pe_ifExp (pt_cmpR op_eq (pv 1) pe_str (nomark _)) (pe_make M.num.m M.num.ok (hr.mono (by omega)) (by rfl) M.num.g M.num.b .nil pass0 (pa_cons (pe_ix ix_tup (pv 0) pe_int (fun _ _ => rfl)) pa_nil)) (pe_make M.nam.m M.nam.ok (hr.mono (by omega)) (by rfl) M.nam.g M.nam.b .nil pass0 (pa_cons (pe_ix ix_tup (pv 0) pe_int (fun _ _ => rfl)) pa_nil)))))
    pss_nil)
    (pss_cons (ps_if (pt_cmpR op_eq (pv 1) pe_str (nomark _))
    (pss_one (ps_ret (pe_make M.half.m M.half.ok (hr.mono (by omega)) (by rfl) M.half.g M.half.b .nil pass0 (pa_cons (pe_ix ix_list (pv 2) pe_int (fun _ _ => rfl)) pa_nil))))
    pss_nil)
    (pss_cons (ps_if (pt_cmpR op_eq (pv 1) pe_str (nomark _))
    (pss_one (ps_ret (pe_make M.pow.m M.pow.ok (hr.mono (by omega)) (by rfl) M.pow.g M.pow.b .nil pass0 (pa_cons (pe_ix ix_list (pv 2) pe_int (fun _ _ => rfl)) (pa_cons (pe_ix ix_tup (pv 0) pe_int (fun _ _ => rfl)) pa_nil)))))
    pss_nil)
    (pss_cons (ps_if (pt_cmpR op_eq (pv 1) pe_str (nomark _))
    (pss_one (ps_ret (pe_make M.cho.m M.cho.ok (hr.mono (by omega)) (by rfl) M.cho.g M.cho.b .nil pass0 (pa_cons (pe_ix ix_list (pv 2) pe_int (fun _ _ => rfl)) (pa_cons (pe_ix ix_tup (pv 0) pe_int (fun _ _ => rfl)) (pa_cons (pe_ix ix_tup (pv 0) pe_int (fun _ _ => rfl)) (pa_cons (pe_ix ix_list (pv 2) pe_int (fun _ _ => rfl)) (pa_cons (pe_ix ix_list (pv 2) pe_int (fun _ _ => rfl)) pa_nil))))))))
    pss_nil)
    (pss_cons (ps_if (pt_cmpR op_eq (pv 1) pe_str (nomark _))
    pss_never
    pss_nil)
    (pss_cons (ps_asg (pv 2) (pg_unl (by rfl) (pgs_cons (pg_name (i := 4) nd rfl (Or.inl rfl)) (pgs_cons (pg_name (i := 5) nd rfl (Or.inl rfl)) pgs_nil))))
    (pss_cons (ps_if (pt_cmpR op_eq (pv 1) pe_str (nomark _))
    (pss_one (ps_ret (pe_make M.add.m M.add.ok (hr.mono (by omega)) (by rfl) M.add.g M.add.b .nil pass0 (pa_cons (pv 4) (pa_cons (pv 5) pa_nil)))))
    pss_nil)
    (pss_cons (ps_if (pt_cmpR op_eq (pv 1) pe_str (nomark _))
    (pss_one (ps_ret (pe_make M.sub.m M.sub.ok (hr.mono (by omega)) (by rfl) M.sub.g M.sub.b .nil pass0 (pa_cons (pv 4) (pa_cons (pv 5) pa_nil)))))
    pss_nil)
    (pss_cons (ps_if (pt_cmpR op_eq (pv 1) pe_str (nomark _))
    (pss_one (ps_ret (pe_make M.mul.m M.mul.ok (hr.mono (by omega)) (by rfl) M.mul.g M.mul.b .nil pass0 (pa_cons (pv 4) (pa_cons (pv 5) pa_nil)))))
    pss_nil)
    (pss_one (ps_ret (pe_ifExp (pt_cmpR op_eq (pv 1) pe_str (nomark _)) (pe_make M.over.m M.over.ok (hr.mono (by omega)) (by rfl) M.over.g M.over.b .nil pass0 (pa_cons (pv 4) (pa_cons (pv 5) pa_nil))) (pe_make M.rai.m M.rai.ok (hr.mono (by omega)) (by rfl) M.rai.g M.rai.b .nil pass0 (pa_cons (pv 4) (pa_cons (pv 5) pa_nil)))))))))))))))), ?_⟩
      obtain ⟨ks0, hp, _⟩ := hT.split
      refine ⟨_, rfl, p, _, 0, .str (hdS T), rfl, rfl, SqT.of hp, atI_nat (j := 0) rfl, ?_⟩
      refine ⟨_, rfl, p, T, rfl, hT, fun l ks H1 sm1 hl ak => ?_⟩
      refine ⟨l, rfl, ⟨_, SqL.of hl⟩, fun D hD => ?_⟩
      have nlD : l ≠ D := ne_of_none hl hD
      have hkl := ak.len
      have hk3 := kids_len T
      have smD : ∀ {H2 : Hp} {o o' : HO}, H2 D = some o → ∀ {Ha : Hp}, Same Ha H2 → Ha D = none → Same Ha (upd H2 D o') := fun _ _ sm hn b o e => by rw [upd_ne (ne_of_none e hn)]; exact sm b o e
      refine lc_list (K := K) (a := l) (xs := ks.map V.ref) (fun i H2 => ∃ xs : List Addr, Same H1 H2 ∧ H2 D = some (.lst (xs.map V.ref)) ∧ All2 (NodeAt c H2) ((kids T).take i) xs)
        ⟨[], fun b o e => by rw [upd_ne (ne_of_none e hD)]; exact e, upd_same, .nil⟩ (fun i H2 _ ⟨_, sm, _⟩ => SqL.of (sm _ _ hl)) ?_ ?_
      · rintro i x H2 hx ⟨xs, sm2, hD2, aN⟩
        obtain ⟨hi, rfl⟩ : ∃ h : i < ks.length, x = V.ref ks[i] := by
          rw [List.getElem?_map] at hx
          by_cases hi : i < ks.length
          · rw [List.getElem?_eq_getElem hi] at hx
            exact ⟨hi, (Option.some.inj hx).symm⟩
          · rw [List.getElem?_eq_none (by omega)] at hx
            cases hx
        obtain ⟨hi2, hTk⟩ := ak.getL hi
        have hkin := kids_in hok _ (List.getElem_mem hi2)
        have hxl := aN.len
        rw [List.length_take] at hxl
        refine ⟨rfl, ?_⟩
        refine ⟨_, rfl, _, (kids T)[i], rfl, hTk.same sm2, hkin.1, by omega, fun y H3 sm3 hN => ?_⟩
        have hD3 := sm3 _ _ hD2
        have smI : ∀ q C dx fs, H3 q = some (.ins C dx fs) → (upd H3 D (.lst (xs.map V.ref ++ [V.ref y]))) q = some (.ins C dx fs) := fun q C dx fs e => by
          rw [upd_ne (ne_of e hD3 (by intro z; cases z))]
          exact e
        refine ⟨_, hD3, by rw [List.length_map]; exact sz (by omega), xs ++ [y], smD hD3 (sm2.trans sm3) hD, by rw [upd_same, List.map_append]; rfl, ?_⟩
        rw [List.take_add_one, List.getElem?_eq_getElem hi2]
        exact ((aN.imp fun T a h => (h.same sm3).map smI)).app (.cons (hN.map smI) .nil)
      · rintro H2 ⟨xs, sm2, hD2, aN⟩
        rw [List.length_map, ← hkl, List.take_length] at aN
        refine ⟨_, _, rfl, ?_⟩
        -- kind in (..)
        refine ⟨_, rfl, (by show 2 ≤ sizeLine; decide), fun t ht => ?_⟩
        have sm4 : Same H2 (upd H2 t (.tup [V.str "number", V.str "name"])) := fun b o e => by rw [upd_ne (ne_of_none e ht)]; exact e
        have hst : (upd H2 t (.tup [V.str "number", V.str "name"])) t = some (.tup [V.str "number", V.str "name"]) := upd_same
        have hD4 := sm4 _ _ hD2
        have aN4 := aN.imp fun T a h => h.same sm4
        have smA : Same H (upd H2 t (.tup [V.str "number", V.str "name"])) := sm1.trans (sm2.trans sm4)
        have hT4 := hT.same smA
        generalize upd H2 t (.tup [V.str "number", V.str "name"]) = H4 at hst hD4 aN4 smA hT4 ⊢
        generalize hkd : hdS T = kd
        refine ⟨t, _, rfl, .inr (SqT.of hst), rfl, by decide +kernel, _, rfl, ?_⟩
        cases T with
        | num z =>
          have e : kd = "number" := hkd.symm
          subst e
          refine ite2 (fun _ => ?_) (fun hz => absurd (by decide +kernel) hz)
          refine ⟨_, rfl, rfl, _, rfl, ?_⟩
          refine ite2 (fun _ => ?_) (fun hz => absurd (by decide +kernel) hz)
          refine ⟨_, rfl, p, _, 1, .int z, rfl, rfl, SqT.of hT4, atI_nat (j := 1) rfl, fun x dx hx hdx hne => ?_⟩
          refine ⟨x, dx, [.int z], rfl, rfl, upd_same, ⟨_, rfl, .int z⟩, ?_, fun H5 H' sm ini => ?_⟩
          · show (decide (-18446744073709551615 ≤ z) && decide (z ≤ 18446744073709551615)) = true
            have h1 : -18446744073709551616 < z := hok.1
            have h2 : z < 18446744073709551616 := hok.2
            rw [decide_eq_true (show -18446744073709551615 ≤ z by omega), decide_eq_true (show z ≤ 18446744073709551615 by omega)]
            rfl
          · obtain ⟨s1, s2⟩ := mk_done hx hdx sm ini
            exact ⟨rfl, k x H' (smA.trans s1) ⟨dx, s2⟩⟩
        | nam y =>
          have e : kd = "name" := hkd.symm
          subst e
          refine ite2 (fun _ => ?_) (fun hz => absurd (by decide +kernel) hz)
          refine ⟨_, rfl, rfl, _, rfl, ?_⟩
          refine ite2 (fun hz => absurd hz (by decide +kernel)) (fun _ => ?_)
          refine ⟨_, rfl, p, _, 1, .str (wd y), rfl, rfl, SqT.of hT4, atI_nat (j := 1) rfl, fun x dx hx hdx hne => ?_⟩
          refine ⟨x, dx, [.str (wd y)], rfl, rfl, upd_same, ⟨_, rfl, .str _ (by rw [wd_len]; have := nm_len (z := y) hok; omega)⟩, ?_, fun H5 H' sm ini => ?_⟩
          · show isNm (wd y).cps.toList = true
            exact hok
          · obtain ⟨s1, s2⟩ := mk_done hx hdx sm ini
            exact ⟨rfl, k x H' (smA.trans s1) ⟨dx, s2⟩⟩
        | half a =>
          have e : kd = "half" := hkd.symm
          subst e
          obtain ⟨x1, rfl, n1⟩ : ∃ x1, xs = [x1] ∧ NodeAt c H4 a x1 := by
            cases aN4 with
            | cons q r => cases r; exact ⟨_, rfl, q⟩
          refine ite2 (fun hz => absurd hz (by decide +kernel)) (fun _ => ?_)
          refine ⟨_, rfl, rfl, _, rfl, ?_⟩
          refine ite2 (fun _ => ?_) (fun hz => absurd (by decide +kernel) hz)
          refine ⟨_, rfl, D, _, 0, .ref x1, rfl, rfl, SqL.of hD4, atI_nat (j := 0) rfl, fun x dx hx hdx hne => ?_⟩
          refine ⟨x, dx, _, rfl, upd_same, fun H' ini => ?_⟩
          obtain ⟨s1, s2⟩ := mk_done hx hdx (Same.refl _) ini
          exact ⟨rfl, k x H' (smA.trans s1) ⟨dx, x1, s2, n1.same s1⟩⟩
        | pow a m =>
          have e : kd = "power" := hkd.symm
          subst e
          obtain ⟨x1, rfl, n1⟩ : ∃ x1, xs = [x1] ∧ NodeAt c H4 a x1 := by
            cases aN4 with
            | cons q r => cases r; exact ⟨_, rfl, q⟩
          obtain ⟨q, hq, _⟩ := hT4
          refine ite2 (fun hz => absurd hz (by decide +kernel)) (fun _ => ?_)
          refine ⟨_, rfl, rfl, _, rfl, ?_⟩
          refine ite2 (fun hz => absurd hz (by decide +kernel)) (fun _ => ?_)
          refine ⟨_, rfl, rfl, _, rfl, ?_⟩
          refine ite2 (fun _ => ?_) (fun hz => absurd (by decide +kernel) hz)
          refine ⟨_, rfl, D, _, 0, .ref x1, rfl, rfl, SqL.of hD4, atI_nat (j := 0) rfl, ?_⟩
          refine ⟨_, rfl, p, _, 2, .int m, rfl, rfl, SqT.of hq, atI_nat (j := 2) rfl, fun x dx hx hdx hne => ?_⟩
          refine ⟨x, dx, [.ref x1, .int m], rfl, rfl, upd_same, ⟨_, _, rfl, .int m⟩, ?_, fun H5 H' sm ini => ?_⟩
          · show (decide (0 ≤ m) && decide (m ≤ 64)) = true
            rw [decide_eq_true hok.2.1, decide_eq_true hok.2.2]
            rfl
          · obtain ⟨s1, s2⟩ := mk_done hx hdx sm ini
            exact ⟨rfl, k x H' (smA.trans s1) ⟨dx, x1, s2, n1.same s1⟩⟩
        | cho a m r b d =>
          have e : kd = "choose" := hkd.symm
          subst e
          obtain ⟨x1, x2, x3, rfl, n1, n2, n3⟩ : ∃ x1 x2 x3, xs = [x1, x2, x3] ∧ NodeAt c H4 a x1 ∧ NodeAt c H4 b x2 ∧ NodeAt c H4 d x3 := by
            cases aN4 with
            | cons q r => cases r with
              | cons q2 r => cases r with
                | cons q3 r => cases r; exact ⟨_, _, _, rfl, q, q2, q3⟩
          obtain ⟨q, q2, q3, hq, _⟩ := hT4
          refine ite2 (fun hz => absurd hz (by decide +kernel)) (fun _ => ?_)
          refine ⟨_, rfl, rfl, _, rfl, ?_⟩
          refine ite2 (fun hz => absurd hz (by decide +kernel)) (fun _ => ?_)
          refine ⟨_, rfl, rfl, _, rfl, ?_⟩
          refine ite2 (fun hz => absurd hz (by decide +kernel)) (fun _ => ?_)
          refine ⟨_, rfl, rfl, _, rfl, ?_⟩
          refine ite2 (fun _ => ?_) (fun hz => absurd (by decide +kernel) hz)
          refine ⟨_, rfl, D, _, 0, .ref x1, rfl, rfl, SqL.of hD4, atI_nat (j := 0) rfl, ?_⟩
          refine ⟨_, rfl, p, _, 2, .int m, rfl, rfl, SqT.of hq, atI_nat (j := 2) rfl, ?_⟩
          refine ⟨_, rfl, p, _, 3, .int r, rfl, rfl, SqT.of hq, atI_nat (j := 3) rfl, ?_⟩
          refine ⟨_, rfl, D, _, 1, .ref x2, rfl, rfl, SqL.of hD4, atI_nat (j := 1) rfl, ?_⟩
          refine ⟨_, rfl, D, _, 2, .ref x3, rfl, rfl, SqL.of hD4, atI_nat (j := 2) rfl, fun x dx hx hdx hne => ?_⟩
          refine ⟨x, dx, [.ref x1, .int m, .int r, .ref x2, .ref x3], rfl, rfl, upd_same, ⟨_, _, _, _, _, rfl, .int m, .int r⟩, ?_, fun H5 H' sm ini => ?_⟩
          · show (([2, 4, 8, 16, 32, 64] : List Int).contains m && (decide (0 ≤ r) && decide (r ≤ m - 1))) = true
            obtain ⟨_, _, _, hm, h0, h1⟩ := hok
            have hc : ([2, 4, 8, 16, 32, 64] : List Int).contains m = true := by
              rcases hm with rfl | rfl | rfl | rfl | rfl | rfl <;> decide
            rw [hc, decide_eq_true h0, decide_eq_true (show r ≤ m - 1 by omega)]
            rfl
          · obtain ⟨s1, s2⟩ := mk_done hx hdx sm ini
            exact ⟨rfl, k x H' (smA.trans s1) ⟨dx, x1, x2, x3, s2, n1.same s1, n2.same s1, n3.same s1⟩⟩
        | two bk a b =>
          obtain ⟨x1, x2, rfl, n1, n2⟩ : ∃ x1 x2, xs = [x1, x2] ∧ NodeAt c H4 a x1 ∧ NodeAt c H4 b x2 := by
            cases aN4 with
            | cons q r => cases r with
              | cons q2 r => cases r; exact ⟨_, _, rfl, q, q2⟩
          have fin : ∀ (x dx : Addr), H4 x = none → H4 dx = none → ∀ H', Ini (upd (upd H4 dx (.own x)) x (.ins (c.bk bk) dx [])) x (c.bk bk) dx [(bk.f1, .ref x1), (bk.f2, .ref x2)] H' → Q (.ref x) H' := fun x dx hx hdx H' ini => by
            obtain ⟨s1, s2⟩ := mk_done hx hdx (Same.refl _) ini
            exact k x H' (smA.trans s1) ⟨dx, x1, x2, s2, n1.same s1, n2.same s1⟩
          have hz : kd = bk.s := hkd.symm
          clear hkd
          cases bk with
          | add =>
            subst hz
            refine ite2 (fun hz => absurd hz (by decide +kernel)) (fun _ => ?_)
            refine ⟨_, rfl, rfl, _, rfl, ?_⟩
            refine ite2 (fun hz => absurd hz (by decide +kernel)) (fun _ => ?_)
            refine ⟨_, rfl, rfl, _, rfl, ?_⟩
            refine ite2 (fun hz => absurd hz (by decide +kernel)) (fun _ => ?_)
            refine ⟨_, rfl, rfl, _, rfl, ?_⟩
            refine ite2 (fun hz => absurd hz (by decide +kernel)) (fun _ => ?_)
            refine ⟨_, rfl, rfl, _, rfl, ?_⟩
            refine ite2 (fun hz => absurd hz (by decide +kernel)) (fun _ => ?_)
            refine ⟨_, rfl, D, _, rfl, SqL.of hD4, rfl, _, _, rfl, _, _, rfl, rfl, ?_⟩
            refine ⟨_, rfl, rfl, _, rfl, ?_⟩
            refine ite2 (fun _ => ?_) (fun hz => absurd (by decide +kernel) hz)
            refine ⟨_, rfl, _, rfl, fun x dx hx hdx hne => ⟨x, dx, _, _, rfl, upd_same, fun H' ini => ⟨rfl, fin x dx hx hdx H' ini⟩⟩⟩
          | sub =>
            subst hz
            refine ite2 (fun hz => absurd hz (by decide +kernel)) (fun _ => ?_)
            refine ⟨_, rfl, rfl, _, rfl, ?_⟩
            refine ite2 (fun hz => absurd hz (by decide +kernel)) (fun _ => ?_)
            refine ⟨_, rfl, rfl, _, rfl, ?_⟩
            refine ite2 (fun hz => absurd hz (by decide +kernel)) (fun _ => ?_)
            refine ⟨_, rfl, rfl, _, rfl, ?_⟩
            refine ite2 (fun hz => absurd hz (by decide +kernel)) (fun _ => ?_)
            refine ⟨_, rfl, rfl, _, rfl, ?_⟩
            refine ite2 (fun hz => absurd hz (by decide +kernel)) (fun _ => ?_)
            refine ⟨_, rfl, D, _, rfl, SqL.of hD4, rfl, _, _, rfl, _, _, rfl, rfl, ?_⟩
            refine ⟨_, rfl, rfl, _, rfl, ?_⟩
            refine ite2 (fun hz => absurd hz (by decide +kernel)) (fun _ => ?_)
            refine ⟨_, rfl, rfl, _, rfl, ?_⟩
            refine ite2 (fun _ => ?_) (fun hz => absurd (by decide +kernel) hz)
            refine ⟨_, rfl, _, rfl, fun x dx hx hdx hne => ⟨x, dx, _, _, rfl, upd_same, fun H' ini => ⟨rfl, fin x dx hx hdx H' ini⟩⟩⟩
          | mul =>
            subst hz
            refine ite2 (fun hz => absurd hz (by decide +kernel)) (fun _ => ?_)
            refine ⟨_, rfl, rfl, _, rfl, ?_⟩
            refine ite2 (fun hz => absurd hz (by decide +kernel)) (fun _ => ?_)
            refine ⟨_, rfl, rfl, _, rfl, ?_⟩
            refine ite2 (fun hz => absurd hz (by decide +kernel)) (fun _ => ?_)
            refine ⟨_, rfl, rfl, _, rfl, ?_⟩
            refine ite2 (fun hz => absurd hz (by decide +kernel)) (fun _ => ?_)
            refine ⟨_, rfl, rfl, _, rfl, ?_⟩
            refine ite2 (fun hz => absurd hz (by decide +kernel)) (fun _ => ?_)
            refine ⟨_, rfl, D, _, rfl, SqL.of hD4, rfl, _, _, rfl, _, _, rfl, rfl, ?_⟩
            refine ⟨_, rfl, rfl, _, rfl, ?_⟩
            refine ite2 (fun hz => absurd hz (by decide +kernel)) (fun _ => ?_)
            refine ⟨_, rfl, rfl, _, rfl, ?_⟩
            refine ite2 (fun hz => absurd hz (by decide +kernel)) (fun _ => ?_)
            refine ⟨_, rfl, rfl, _, rfl, ?_⟩
            refine ite2 (fun _ => ?_) (fun hz => absurd (by decide +kernel) hz)
            refine ⟨_, rfl, _, rfl, fun x dx hx hdx hne => ⟨x, dx, _, _, rfl, upd_same, fun H' ini => ⟨rfl, fin x dx hx hdx H' ini⟩⟩⟩
          | over =>
            subst hz
            refine ite2 (fun hz => absurd hz (by decide +kernel)) (fun _ => ?_)
            refine ⟨_, rfl, rfl, _, rfl, ?_⟩
            refine ite2 (fun hz => absurd hz (by decide +kernel)) (fun _ => ?_)
            refine ⟨_, rfl, rfl, _, rfl, ?_⟩
            refine ite2 (fun hz => absurd hz (by decide +kernel)) (fun _ => ?_)
            refine ⟨_, rfl, rfl, _, rfl, ?_⟩
            refine ite2 (fun hz => absurd hz (by decide +kernel)) (fun _ => ?_)
            refine ⟨_, rfl, rfl, _, rfl, ?_⟩
            refine ite2 (fun hz => absurd hz (by decide +kernel)) (fun _ => ?_)
            refine ⟨_, rfl, D, _, rfl, SqL.of hD4, rfl, _, _, rfl, _, _, rfl, rfl, ?_⟩
            refine ⟨_, rfl, rfl, _, rfl, ?_⟩
            refine ite2 (fun hz => absurd hz (by decide +kernel)) (fun _ => ?_)
            refine ⟨_, rfl, rfl, _, rfl, ?_⟩
            refine ite2 (fun hz => absurd hz (by decide +kernel)) (fun _ => ?_)
            refine ⟨_, rfl, rfl, _, rfl, ?_⟩
            refine ite2 (fun hz => absurd hz (by decide +kernel)) (fun _ => ?_)
            refine ⟨_, rfl, rfl, _, rfl, ?_⟩
            refine ite2 (fun _ => ?_) (fun hz => absurd (by decide +kernel) hz)
            refine ⟨_, rfl, _, rfl, fun x dx hx hdx hne => ⟨x, dx, _, _, rfl, upd_same, fun H' ini => ⟨rfl, fin x dx hx hdx H' ini⟩⟩⟩
          | rai =>
            subst hz
            refine ite2 (fun hz => absurd hz (by decide +kernel)) (fun _ => ?_)
            refine ⟨_, rfl, rfl, _, rfl, ?_⟩
            refine ite2 (fun hz => absurd hz (by decide +kernel)) (fun _ => ?_)
            refine ⟨_, rfl, rfl, _, rfl, ?_⟩
            refine ite2 (fun hz => absurd hz (by decide +kernel)) (fun _ => ?_)
            refine ⟨_, rfl, rfl, _, rfl, ?_⟩
            refine ite2 (fun hz => absurd hz (by decide +kernel)) (fun _ => ?_)
            refine ⟨_, rfl, rfl, _, rfl, ?_⟩
            refine ite2 (fun hz => absurd hz (by decide +kernel)) (fun _ => ?_)
            refine ⟨_, rfl, D, _, rfl, SqL.of hD4, rfl, _, _, rfl, _, _, rfl, rfl, ?_⟩
            refine ⟨_, rfl, rfl, _, rfl, ?_⟩
            refine ite2 (fun hz => absurd hz (by decide +kernel)) (fun _ => ?_)
            refine ⟨_, rfl, rfl, _, rfl, ?_⟩
            refine ite2 (fun hz => absurd hz (by decide +kernel)) (fun _ => ?_)
            refine ⟨_, rfl, rfl, _, rfl, ?_⟩
            refine ite2 (fun hz => absurd hz (by decide +kernel)) (fun _ => ?_)
            refine ⟨_, rfl, rfl, _, rfl, ?_⟩
            refine ite2 (fun hz => absurd hz (by decide +kernel)) (fun _ => ?_)
            refine ⟨_, rfl, _, rfl, fun x dx hx hdx hne => ⟨x, dx, _, _, rfl, upd_same, fun H' ini => ⟨rfl, fin x dx hx hdx H' ini⟩⟩⟩
end
end My

set_option Elab.async false
set_option linter.all false
set_option maxRecDepth 100000
set_option maxHeartbeats 1000000
namespace My
open PySem L2 MyR

open RT
/-! ### nodes that are tried -/
def tMakeS (C : Addr) (sp : Sp) (E : L2.St → XK) (t : TA) : TE := fun σ H Q => t σ H fun vs H1 => ∀ x dx, H1 x = none → H1 dx = none → dx ≠ x →
  sp (.ref x :: vs) (upd (upd H1 dx (.own x)) x (.ins C dx [])) (fun v H2 => v = .non ∧ Q (.ref x) H2) (E σ)
section
variable {X : Cx} {CX : CXT} {k : Nat} {f C : Addr} {fd : FuncData} {ps : List Str} {sp : Sp} {E : L2.St → XK} {x : Str} {p pos : Pos} {e : Expr} {es : List Expr} {t : TA}
theorem run_makeS {pins : List (Addr × Obj)} {σ : L2.St} {H : Hp} {s : Shared} {Q : VK} {us : List Value} {vs : List V} (M : Mk X.K C f) (F : FnOk X.prog X.w X.K X.mg X.base CX k f fd ps sp) (hr : Room (k + 1) X.A) (hb : Binds X.K fd ps [])
    (hx : PassesAt CX X σ (E σ)) (I : Inv X pins σ H s) (r : Vals vs us)
    (h : ∀ x dx, H x = none → H dx = none → dx ≠ x → sp (.ref x :: vs) (upd (upd H dx (.own x)) x (.ins C dx [])) (fun v H2 => v = .non ∧ Q (.ref x) H2) (E σ)) :
    wpAny (model X.prog X.w) X.A (call (.ref C) us) (EP X pins σ Q) X.xe s := by
  have hq := h (s.heap.objs.size + 1) s.heap.objs.size (I.hok.fresh (Nat.le_succ _)) (I.hok.fresh (Nat.le_refl _)) (Nat.ne_of_lt (Nat.lt_succ_self _))
  have I2 := Inv.made (C := C) I
  have r2 : Vals (V.ref (s.heap.objs.size + 1) :: vs) (Value.ref (s.heap.objs.size + 1) :: us) := .cons rfl r
  have hl : (Value.ref (s.heap.objs.size + 1) :: us).length = ps.length := by
    have e := r2.length
    rw [F.len _ _ _ _ hq] at e
    exact e.symm
  have b := hb _ (Value.ref (s.heap.objs.size + 1) :: us) I2.kIn (by rw [List.append_nil]; exact hl)
  rw [List.append_nil] at b
  refine wpAny_call (make_map (f := f) I.kIn M.makes M.init (beq_iff_eq.mp M.fn) (codeAny_mono (F.run _ X.stack _ _ ⟨Value.ref (s.heap.objs.size + 1) :: us, []⟩ (Value.ref (s.heap.objs.size + 1) :: us) _ _ (E σ) (hr.make C us [])
    (I2.env0.make C us []) b r2 hq) fun r s' hq' => ?_))
  cases r with
  | error e => exact hx pins _ _ e s' I2 hq'
  | ok fl =>
    cases fl with
    | ret u =>
      obtain ⟨v, H', I3, rv, ev, q3⟩ := I2.after hq'
      subst ev
      exact ⟨rv, ⟨V.ref (s.heap.objs.size + 1), H', I3, rfl, q3⟩⟩
    | next => exact False.elim hq'
    | brk => exact False.elim hq'
    | cont => exact False.elim hq'
theorem pe_makeS (M : Mk X.K C f) (F : FnOk X.prog X.w X.K X.mg X.base CX k f fd ps sp) (hr : Room (k + 1) X.A) (hg : Gl X x) (hm : X.mg x = some (.ref C)) (hb : Binds X.K fd ps []) (hx : ∀ σ, PassesAt CX X σ (E σ))
    (ha : PA X (e :: es) t) (hdb : (x == ("__debug__" : Str)) = false := by decide) (he : starEach (e :: es) X.env = (false, eval e X.env) :: starEach es X.env := by rfl) (hpl : (backTo pos (starEach es X.env)).any (·.1) = false := by rfl) :
    PE X (.Call (.Name x p) (e :: es) [] pos) (tMakeS C sp E t) := by
  refine ⟨fun pins s σ H Q I h => ?_⟩
  refine wpAny_Call_Name_kw (ld_glob I hg hm ?_ hdb)
  refine PySem.W.callWith_K (h₀ := X.base) I.ok.mod.kin M.kp (thn (ha.run pos pins s σ H _ I h) fun us s1 ⟨vs, H1, I1, r, q⟩ => ⟨I1.kIn, ?_⟩) he hpl
  exact run_makeS M F hr hb (hx σ) I1 r q
theorem pss_when {ss : List Stmt} {p : Prop} {ts : TS} (h : p → PSs X ss ts) : PSs X ss (fun D σ H => p ∧ ts D σ H) := ⟨fun pins s σ H D I q => (h q.1).run pins s σ H D I q.2⟩
end
structure MksX (P : Program) (w : World) (K : PySem.W.Frag) (mg : Str → Option Value) (base : Heap) (c : CA) (cI cC : Addr) where
  num : Mo P w K mg base (L2.CX P w) 3 "Number" c.num ["self", "value"] (spCk c.num cI 1 a1 oN fN)
  nam : Mo P w K mg base (L2.CX P w) 2 "Name" c.nam ["self", "name"] (spCk c.nam cI 1 a1 oM fM)
  pow : Mo P w K mg base (L2.CX P w) 3 "Power" c.pow ["self", "base", "times"] (spCk c.pow cI 2 a2 oP fP)
  cho : Mo P w K mg base (L2.CX P w) 3 "Choose" c.cho ["self", "tested", "modulus", "rest", "yes", "no"] (spCk c.cho cI 5 a5 oC fC)
  call : Mo P w K mg base (L2.CX P w) 2 "Call" cC ["self", "name", "arguments"] (spCallX K cC cI)
/-- what is tried, whether it is right, what is made -/
inductive Form (K : PySem.W.Frag) (c : CA) (cC : Addr) (H : Hp) : Int → V → V → V → Bool → (Addr → Hp → Prop) → Prop
  | n0 {v b d : V} (h : Arg H v) : Form K c cC H 0 v b d (okN v) (fun x H' => ∃ dx, H' x = some (.ins c.num dx [("value", v)]))
  | n1 {v b d : V} (h : Arg H v) : Form K c cC H 1 v b d (nmV v) (fun x H' => ∃ dx, H' x = some (.ins c.nam dx [("name", v)]))
  | n2 {v b d : V} (h : Arg H v) : Form K c cC H 2 v b d (btw v 0 64) (fun x H' => ∃ dx o, H' x = some (.ins c.pow dx [("base", .ref o), ("times", v)]) ∧ NodeAt c H' (.num 1) o)
  | n3 {m r d : V} (h : Arg H m) (h2 : Arg H r) : Form K c cC H 3 m r d (okCh m r) (fun x H' => ∃ dx o q u, H' x = some (.ins c.cho dx [("tested", .ref o), ("modulus", m), ("rest", r), ("yes", .ref q), ("no", .ref u)]))
  | n4 {v b : V} {l : Addr} {xs : List V} (h : Arg H v) (hl : SqL K H l xs) (hn : xs.length ≤ 100) : Form K c cC H 4 v b (.ref l) (nmV v && !xs.isEmpty) (fun x H' => ∃ dx t, H' x = some (.ins cC dx [("name", v), ("arguments", .ref t)]) ∧ H' t = some (.tup xs))
def spTried (K : PySem.W.Frag) (c : CA) (cC : Addr) : Sp := fun vs H Q _ => ∃ (n : Int) (a b d : V) (ok : Bool) (res : Addr → Hp → Prop), vs = [.int n, a, b, d] ∧ Form K c cC H n a b d ok res ∧
  (ok = true → ∀ (p x : Addr) H', Same H H' → H' p = some (.tup [.str "made", .ref x]) → res x H' → Q (.ref p) H') ∧ (ok = false → ∀ (p : Addr) H', Same H H' → H' p = some (.tup [.str "refused", .non]) → Q (.ref p) H')
theorem Arg.same {H H' : Hp} (sm : Same H H') {v : V} (h : Arg H v) : Arg H' v := by
  cases h with
  | non => exact .non
  | bl b => exact .bl b
  | int i => exact .int i
  | str z hz => exact .str z hz
  | tup e => exact .tup (sm _ _ e)
theorem new_same {H : Hp} {p : Addr} {o : HO} (h : H p = none) : Same H (upd H p o) := fun b q e => by rw [upd_ne (ne_of_none e h)]; exact e
section
variable {P : Program} {w : World} {K : PySem.W.Frag} {mg : Str → Option Value} {base : Heap}
abbrev s_law_tried : Stmt := top 44
abbrev N_law_tried : List Str := ["_law_form", "_law_a", "_law_b", "_law_c", "_law_found", "e"]
theorem sc_law_tried : FnScope N_law_tried ["_law_form", "_law_a", "_law_b", "_law_c"] (defScope s_law_tried) := ⟨rfl, rfl, rfl, by decide +kernel, rfl, by decide +kernel, by decide +kernel⟩
theorem ok_law_tried {f : Addr} {fd : FuncData} (F : Fun K "_law_tried" "_law_tried" s_law_tried f fd) {c : CA} {cI cC cL : Addr} (M : Mks P w K mg base c) (MX : MksX P w K mg base c cI cC) (IV : InvN K mg cI) (EC : ExcC K cI) (gL : mg "LowError" = some (.ref cL)) (g_isinstance : mg "isinstance" = none)
    (hex : PySem.W.exmOne K (.ref cI) (.ref cL) = some true) : FnOk P w K mg base CX0 5 f fd ["_law_form", "_law_a", "_law_b", "_law_c"] (spTried K c cC) := by
  refine F.ok sc_law_tried (fun vs H Q E h => ?_) (fun cdv A outer s H vs Q E hr h => ?_)
  · obtain ⟨n, a, b, d, ok, res, rfl, _⟩ := h
    rfl
  · obtain ⟨n, a, b, d, ok, res, rfl, hF, k1, k2⟩ := h
    have hu := hu_of hr
    have nd := sc_law_tried.nd
    refine ⟨_, (pss_cons (ps_set (i := 4) nd rfl (Or.inl rfl) (pe_tup (pa_cons pe_str (pa_cons pe_non pa_nil))))
    (pss_cons (ps_try_as (i := 5) (ts := fun a cls d => fun D σ H => (cls = .ref cI ∧ d = none) ∧ tAsg (tIf (tB (tCB (rIsE K cI a) (tCons (tVar 5) (tCons (tC (.ref cI)) tNil)))) (tTup (tCons (tC (.str "refused")) (tCons (tC .non) tNil))) (tTup (tCons (tC (.str "other")) (tCons (tC .non) tNil)))) (gName 4) D σ H) (Wout := fun _ _ _ _ => False) rfl rfl nd rfl rfl ⟨rfl, by decide, .inl gL⟩ takes0 (fun W pn xe tk _ => (pss_one (ps_if (pt_cmpR op_eq (pv 0) pe_int (nomark _))
      (pss_one (ps_set (i := 4) nd rfl (Or.inl rfl) (pe_tup (pa_cons pe_str (pa_cons (pe_makeS MX.num.m MX.num.ok (hr.mono (by decide)) (by rfl) MX.num.g MX.num.b (fun σ => passAt tk σ) (pa_cons (pv 1) pa_nil)) pa_nil)))))
      (pss_one (ps_if (pt_cmpR op_eq (pv 0) pe_int (nomark _))
      (pss_one (ps_set (i := 4) nd rfl (Or.inl rfl) (pe_tup (pa_cons pe_str (pa_cons (pe_makeS MX.nam.m MX.nam.ok (hr.mono (by decide)) (by rfl) MX.nam.g MX.nam.b (fun σ => passAt tk σ) (pa_cons (pv 1) pa_nil)) pa_nil)))))
      (pss_one (ps_if (pt_cmpR op_eq (pv 0) pe_int (nomark _))
      (pss_one (ps_set (i := 4) nd rfl (Or.inl rfl) (pe_tup (pa_cons pe_str (pa_cons (pe_makeS MX.pow.m MX.pow.ok (hr.mono (by decide)) (by rfl) MX.pow.g MX.pow.b (fun σ => passAt tk σ) (pa_cons (pe_make M.num.m M.num.ok (hr.mono (by decide)) (by rfl) M.num.g M.num.b .nil pass0 (pa_cons pe_int pa_nil)) (pa_cons (pv 1) pa_nil))) pa_nil)))))
      (pss_one (ps_if (pt_cmpR op_eq (pv 0) pe_int (nomark _))
      (pss_one (ps_set (i := 4) nd rfl (Or.inl rfl) (pe_tup (pa_cons pe_str (pa_cons (pe_makeS MX.cho.m MX.cho.ok (hr.mono (by decide)) (by rfl) MX.cho.g MX.cho.b (fun σ => passAt tk σ) (pa_cons (pe_make M.num.m M.num.ok (hr.mono (by decide)) (by rfl) M.num.g M.num.b .nil pass0 (pa_cons pe_int pa_nil)) (pa_cons (pv 1) (pa_cons (pv 2) (pa_cons (pe_make M.num.m M.num.ok (hr.mono (by decide)) (by rfl) M.num.g M.num.b .nil pass0 (pa_cons pe_int pa_nil)) (pa_cons (pe_make M.num.m M.num.ok (hr.mono (by decide)) (by rfl) M.num.g M.num.b .nil pass0 (pa_cons pe_int pa_nil)) pa_nil)))))) pa_nil)))))
      (pss_one (ps_set (i := 4) nd rfl (Or.inl rfl) (pe_tup (pa_cons pe_str (pa_cons (pe_makeS MX.call.m MX.call.ok (hr.mono (by decide)) (by rfl) MX.call.g MX.call.b (fun σ => passAt tk σ) (pa_cons (pv 1) (pa_cons (pv 3) pa_nil))) pa_nil))))))))))))))
      (fun a oe cls d pn hz hf => (pss_when (p := cls = .ref cI ∧ d = none) fun hcd => by
      obtain ⟨rfl, rfl⟩ := hcd
      exact (pss_one (ps_set (i := 4) nd rfl (Or.inl rfl) (pe_ifExp (pt_val (pe_callB (call_isE EC hz hf) (by rfl) g_isinstance (by decide +kernel) (pa_cons (pv 5) (pa_cons (pe_glob (v := .ref cI) rfl IV.g rfl) pa_nil)))) (pe_tup (pa_cons pe_str (pa_cons pe_non pa_nil))) (pe_tup (pa_cons pe_str (pa_cons pe_non pa_nil)))))))))
    (pss_one (ps_ret (pv 4))))), ?_⟩
    have hkit : PySem.W.kitOne K (.ref cI) (.ref cI) = some true := by
      unfold PySem.W.kitOne
      rw [if_pos (beq_self_eq_true _)]
    refine ⟨(by show 2 ≤ sizeLine; decide), fun t0 ht0 => ?_⟩
    have sm0 := new_same (o := .tup [.str "other", .non]) ht0
    generalize upd H t0 (.tup [.str "other", .non]) = H0 at sm0 ⊢
    have make : ∀ {x dx C : Addr} {H1 H2 H3 H' : Hp} {fs : List (Str × V)} {p : Addr}, Same H0 H1 → H1 x = none → H1 dx = none → Same (upd (upd H1 dx (.own x)) x (.ins C dx [])) H2 → Ini H2 x C dx fs H3 → H3 p = none → Same H (upd H3 p (.tup [.str "made", .ref x])) ∧ (upd H3 p (.tup [.str "made", .ref x])) x = some (.ins C dx fs) ∧ Same H1 (upd H3 p (.tup [.str "made", .ref x])) := by
      intro x dx C H1 H2 H3 H' fs p s0 hx hd sm ini hp
      obtain ⟨s1, s2⟩ := mk_done hx hd sm ini
      exact ⟨sm0.trans (s0.trans (s1.trans (new_same hp))), new_same hp _ _ s2, s1.trans (new_same hp)⟩
    have bad : ∀ (hk : ok = false) {H1 : Hp} {x dx C : Addr} {H' : Hp}, Same H0 H1 → H1 x = none → H1 dx = none → Same (upd (upd H1 dx (.own x)) x (.ins C dx [])) H' → Same H0 H' := by
      intro _ H1 x dx C H' s0 hx hd sm
      exact s0.trans fun b o e => sm _ _ (by rw [upd_ne (ne_of_none e hx), upd_ne (ne_of_none e hd)]; exact e)
    cases hF with
    | n0 ha =>
      refine ⟨_, rfl, rfl, _, rfl, ?_⟩
      refine ite2 (fun _ => ?_) (fun hz => absurd (by decide +kernel) hz)
      refine ⟨_, rfl, fun x dx hx hdx hne => ?_⟩
      refine ⟨x, dx, [a], rfl, rfl, upd_same, ⟨_, rfl, (ha.same sm0).same ?_⟩, fun hok H2 H3 sm ini => ⟨rfl, ?_⟩, fun hok H' sm => ?_⟩
      · exact fun b o e => by rw [upd_ne (ne_of_none e hx), upd_ne (ne_of_none e hdx)]; exact e
      · refine ⟨(by show 2 ≤ sizeLine; decide), fun p hp => ?_⟩
        obtain ⟨q1, q2, _⟩ := make (H' := H3) (Same.refl _) hx hdx sm ini hp
        exact ⟨_, rfl, k1 hok p x _ q1 upd_same ⟨dx, q2⟩⟩
      · have q := bad hok (Same.refl _) hx hdx sm
        refine ⟨true, hex, fun _ e he => ?_, fun q => Bool.noConfusion q⟩
        refine ⟨⟨rfl, rfl⟩, _, rfl, _, _, true, rfl, fun u h => h, hkit, true, rfl, ?_⟩
        refine ⟨(by show 2 ≤ sizeLine; decide), fun p hp => ?_⟩
        exact ⟨_, rfl, k2 hok p _ (sm0.trans (q.trans (new_same hp))) upd_same⟩
    | n1 ha =>
      refine ⟨_, rfl, rfl, _, rfl, ?_⟩
      refine ite2 (fun hz => absurd hz (by decide +kernel)) (fun _ => ?_)
      refine ⟨_, rfl, rfl, _, rfl, ?_⟩
      refine ite2 (fun _ => ?_) (fun hz => absurd (by decide +kernel) hz)
      refine ⟨_, rfl, fun x dx hx hdx hne => ?_⟩
      refine ⟨x, dx, [a], rfl, rfl, upd_same, ⟨_, rfl, (ha.same sm0).same ?_⟩, fun hok H2 H3 sm ini => ⟨rfl, ?_⟩, fun hok H' sm => ?_⟩
      · exact fun b o e => by rw [upd_ne (ne_of_none e hx), upd_ne (ne_of_none e hdx)]; exact e
      · refine ⟨(by show 2 ≤ sizeLine; decide), fun p hp => ?_⟩
        obtain ⟨q1, q2, _⟩ := make (H' := H3) (Same.refl _) hx hdx sm ini hp
        exact ⟨_, rfl, k1 hok p x _ q1 upd_same ⟨dx, q2⟩⟩
      · have q := bad hok (Same.refl _) hx hdx sm
        refine ⟨true, hex, fun _ e he => ?_, fun q => Bool.noConfusion q⟩
        refine ⟨⟨rfl, rfl⟩, _, rfl, _, _, true, rfl, fun u h => h, hkit, true, rfl, ?_⟩
        refine ⟨(by show 2 ≤ sizeLine; decide), fun p hp => ?_⟩
        exact ⟨_, rfl, k2 hok p _ (sm0.trans (q.trans (new_same hp))) upd_same⟩
    | n2 ha =>
      refine ⟨_, rfl, rfl, _, rfl, ?_⟩
      refine ite2 (fun hz => absurd hz (by decide +kernel)) (fun _ => ?_)
      refine ⟨_, rfl, rfl, _, rfl, ?_⟩
      refine ite2 (fun hz => absurd hz (by decide +kernel)) (fun _ => ?_)
      refine ⟨_, rfl, rfl, _, rfl, ?_⟩
      refine ite2 (fun _ => ?_) (fun hz => absurd (by decide +kernel) hz)
      intro x1 dx1 hx1 hdx1 hne1
      refine ⟨x1, dx1, [.int 1], rfl, rfl, upd_same, ⟨_, rfl, .int 1⟩, by decide +kernel, fun G1 H1 gm1 ini1 => ⟨rfl, ?_⟩⟩
      obtain ⟨s1, i1⟩ := mk_done hx1 hdx1 gm1 ini1
      refine ⟨_, rfl, fun x dx hx hdx hne => ?_⟩
      refine ⟨x, dx, [.ref x1, a], rfl, rfl, upd_same, ⟨_, _, rfl, ((ha.same sm0).same s1).same ?_⟩, fun hok H2 H3 sm ini => ⟨rfl, ?_⟩, fun hok H' sm => ?_⟩
      · exact fun b o e => by rw [upd_ne (ne_of_none e hx), upd_ne (ne_of_none e hdx)]; exact e
      · refine ⟨(by show 2 ≤ sizeLine; decide), fun p hp => ?_⟩
        obtain ⟨q1, q2, q3⟩ := make (H' := H3) s1 hx hdx sm ini hp
        exact ⟨_, rfl, k1 hok p x _ q1 upd_same ⟨dx, x1, q2, ⟨dx1, q3 _ _ i1⟩⟩⟩
      · have q := bad hok s1 hx hdx sm
        refine ⟨true, hex, fun _ e he => ?_, fun q => Bool.noConfusion q⟩
        refine ⟨⟨rfl, rfl⟩, _, rfl, _, _, true, rfl, fun u h => h, hkit, true, rfl, ?_⟩
        refine ⟨(by show 2 ≤ sizeLine; decide), fun p hp => ?_⟩
        exact ⟨_, rfl, k2 hok p _ (sm0.trans (q.trans (new_same hp))) upd_same⟩
    | n3 h1 h2 =>
      refine ⟨_, rfl, rfl, _, rfl, ?_⟩
      refine ite2 (fun hz => absurd hz (by decide +kernel)) (fun _ => ?_)
      refine ⟨_, rfl, rfl, _, rfl, ?_⟩
      refine ite2 (fun hz => absurd hz (by decide +kernel)) (fun _ => ?_)
      refine ⟨_, rfl, rfl, _, rfl, ?_⟩
      refine ite2 (fun hz => absurd hz (by decide +kernel)) (fun _ => ?_)
      refine ⟨_, rfl, rfl, _, rfl, ?_⟩
      refine ite2 (fun _ => ?_) (fun hz => absurd (by decide +kernel) hz)
      intro x1 dx1 hx1 hdx1 hne1
      refine ⟨x1, dx1, [.int 1], rfl, rfl, upd_same, ⟨_, rfl, .int 1⟩, by decide +kernel, fun G1 H1 gm1 ini1 => ⟨rfl, ?_⟩⟩
      obtain ⟨s1, i1⟩ := mk_done hx1 hdx1 gm1 ini1
      refine ⟨_, rfl, _, rfl, ?_⟩
      intro x2 dx2 hx2 hdx2 hne2
      refine ⟨x2, dx2, [.int 2], rfl, rfl, upd_same, ⟨_, rfl, .int 2⟩, by decide +kernel, fun G2 H2 gm2 ini2 => ⟨rfl, ?_⟩⟩
      obtain ⟨s2, i2⟩ := mk_done hx2 hdx2 gm2 ini2
      intro x3 dx3 hx3 hdx3 hne3
      refine ⟨x3, dx3, [.int 3], rfl, rfl, upd_same, ⟨_, rfl, .int 3⟩, by decide +kernel, fun G3 H3 gm3 ini3 => ⟨rfl, ?_⟩⟩
      obtain ⟨s3, i3⟩ := mk_done hx3 hdx3 gm3 ini3
      intro x dx hx hdx hne
      have sA := s1.trans (s2.trans s3)
      refine ⟨x, dx, [.ref x1, a, b, .ref x2, .ref x3], rfl, rfl, upd_same, ⟨_, _, _, _, _, rfl, ((h1.same sm0).same sA).same ?_, ((h2.same sm0).same sA).same ?_⟩, fun hok H2 H4 sm ini => ⟨rfl, ?_⟩, fun hok H' sm => ?_⟩
      · exact fun b o e => by rw [upd_ne (ne_of_none e hx), upd_ne (ne_of_none e hdx)]; exact e
      · exact fun b o e => by rw [upd_ne (ne_of_none e hx), upd_ne (ne_of_none e hdx)]; exact e
      · refine ⟨(by show 2 ≤ sizeLine; decide), fun p hp => ?_⟩
        obtain ⟨q1, q2, q3⟩ := make (H' := H4) sA hx hdx sm ini hp
        exact ⟨_, rfl, k1 hok p x _ q1 upd_same ⟨dx, x1, x2, x3, q2⟩⟩
      · have q := bad hok sA hx hdx sm
        refine ⟨true, hex, fun _ e he => ?_, fun q => Bool.noConfusion q⟩
        refine ⟨⟨rfl, rfl⟩, _, rfl, _, _, true, rfl, fun u h => h, hkit, true, rfl, ?_⟩
        refine ⟨(by show 2 ≤ sizeLine; decide), fun p hp => ?_⟩
        exact ⟨_, rfl, k2 hok p _ (sm0.trans (q.trans (new_same hp))) upd_same⟩
    | n4 h1 hl hn =>
      refine ⟨_, rfl, rfl, _, rfl, ?_⟩
      refine ite2 (fun hz => absurd hz (by decide +kernel)) (fun _ => ?_)
      refine ⟨_, rfl, rfl, _, rfl, ?_⟩
      refine ite2 (fun hz => absurd hz (by decide +kernel)) (fun _ => ?_)
      refine ⟨_, rfl, rfl, _, rfl, ?_⟩
      refine ite2 (fun hz => absurd hz (by decide +kernel)) (fun _ => ?_)
      refine ⟨_, rfl, rfl, _, rfl, ?_⟩
      refine ite2 (fun hz => absurd hz (by decide +kernel)) (fun _ => ?_)
      refine ⟨_, rfl, _, rfl, fun x dx hx hdx hne => ?_⟩
      refine ⟨x, dx, _, a, _, rfl, upd_same, (h1.same sm0).same ?_, Same.seq ?_ (sm0.seq hl), hn, fun hok t H2 H3 sm ht ini => ⟨rfl, ?_⟩, fun hok H' sm => ?_⟩
      · exact fun b o e => by rw [upd_ne (ne_of_none e hx), upd_ne (ne_of_none e hdx)]; exact e
      · exact fun b o e => by rw [upd_ne (ne_of_none e hx), upd_ne (ne_of_none e hdx)]; exact e
      · refine ⟨(by show 2 ≤ sizeLine; decide), fun p hp => ?_⟩
        obtain ⟨q1, q2, _⟩ := make (H' := H3) (Same.refl _) hx hdx sm ini hp
        exact ⟨_, rfl, k1 hok p x _ q1 upd_same ⟨dx, t, q2, new_same hp _ _ ht⟩⟩
      · have q := bad hok (Same.refl _) hx hdx sm
        refine ⟨true, hex, fun _ e he => ?_, fun q => Bool.noConfusion q⟩
        refine ⟨⟨rfl, rfl⟩, _, rfl, _, _, true, rfl, fun u h => h, hkit, true, rfl, ?_⟩
        refine ⟨(by show 2 ≤ sizeLine; decide), fun p hp => ?_⟩
        exact ⟨_, rfl, k2 hok p _ (sm0.trans (q.trans (new_same hp))) upd_same⟩
end
end My

set_option Elab.async false
set_option linter.all false
set_option maxRecDepth 100000
set_option maxHeartbeats 1000000
namespace My
open PySem L2 MyR

open RT
/-! ### == of nodes as a rule; what the deal leaves -/
structure EqOk (P : Program) (w : World) (K : PySem.W.Frag) (mg : Str → Option Value) (base : Heap) (c : CA) where
  f : Addr
  fd : FuncData
  e : ∀ T, EqC K (c.of T) f
  ok : FnOk P w K mg base CX0 4 f fd ["self", "other"] (spEqN c)
  b : Binds K fd ["self", "other"] []
def SameN (c : CA) (x y : V) (H : Hp) : Prop := ∃ (a b : Addr) (T : Tm), x = .ref a ∧ y = .ref b ∧ NodeAt c H T a ∧ NodeAt c H T b ∧ T.ok ∧ T.depth ≤ 6
def rEqN (c : CA) (r : Bool) : R2 := fun x y H Q => SameN c x y H ∧ ∀ H', Same H H' → Q (.bl r) H'
theorem pre_len : ∀ T : Tm, (pre T).length * 2 + 1 ≤ 3 ^ (T.depth + 1)
  | .num _ => by show 1 * 2 + 1 ≤ 3 ^ (0 + 1); decide
  | .nam _ => by show 1 * 2 + 1 ≤ 3 ^ (0 + 1); decide
  | .two k a b => by
    have ha := pre_len a
    have hb := pre_len b
    have h1 : 3 ^ (a.depth + 1) ≤ 3 ^ (max a.depth b.depth + 1) := Nat.pow_le_pow_right (by decide) (by omega)
    have h2 : 3 ^ (b.depth + 1) ≤ 3 ^ (max a.depth b.depth + 1) := Nat.pow_le_pow_right (by decide) (by omega)
    have h3 : 0 < 3 ^ (max a.depth b.depth + 1) := Nat.pow_pos (by decide)
    show ((pre a ++ pre b).length + 1) * 2 + 1 ≤ 3 ^ (max a.depth b.depth + 1 + 1)
    rw [List.length_append, Nat.pow_succ]
    omega
  | .half a => by
    have ha := pre_len a
    have h3 : 0 < 3 ^ (a.depth + 1) := Nat.pow_pos (by decide)
    show ((pre a).length + 1) * 2 + 1 ≤ 3 ^ (a.depth + 1 + 1)
    rw [Nat.pow_succ]
    omega
  | .pow a _ => by
    have ha := pre_len a
    have h3 : 0 < 3 ^ (a.depth + 1) := Nat.pow_pos (by decide)
    show ((pre a).length + 1) * 2 + 1 ≤ 3 ^ (a.depth + 1 + 1)
    rw [Nat.pow_succ]
    omega
  | .cho a _ _ b d => by
    have ha := pre_len a
    have hb := pre_len b
    have hd := pre_len d
    have h1 : 3 ^ (a.depth + 1) ≤ 3 ^ (max a.depth (max b.depth d.depth) + 1) := Nat.pow_le_pow_right (by decide) (by omega)
    have h2 : 3 ^ (b.depth + 1) ≤ 3 ^ (max a.depth (max b.depth d.depth) + 1) := Nat.pow_le_pow_right (by decide) (by omega)
    have h4 : 3 ^ (d.depth + 1) ≤ 3 ^ (max a.depth (max b.depth d.depth) + 1) := Nat.pow_le_pow_right (by decide) (by omega)
    show ((pre a ++ (pre b ++ pre d)).length + 1) * 2 + 1 ≤ 3 ^ (max a.depth (max b.depth d.depth) + 1 + 1)
    rw [List.length_append, List.length_append, Nat.pow_succ]
    omega
theorem pre_small {T : Tm} (h : T.depth ≤ 6) : (pre T).length ≤ 100000 := by
  have h1 := pre_len T
  have h2 : 3 ^ (T.depth + 1) ≤ 3 ^ 7 := Nat.pow_le_pow_right (by decide) (by omega)
  have h3 : 3 ^ 7 = 2187 := by decide
  omega
theorem Kept.of {d l : Addr} {H H' : Hp} (s : Same H H') : Kept d l H H' := fun b o e _ _ => s b o e
theorem Deal.same {H H' : Hp} {d l : Addr} (D : Deal H d l) (s : Same H H') : Deal H' d l := by
  obtain ⟨z, n, ns, hd, hl, r⟩ := D.ex
  exact ⟨z, n, ns, s _ _ hd, s _ _ hl, r⟩
theorem NodeAt.kept {c : CA} {H H' : Hp} {d l : Addr} (D : Deal H d l) (k : Kept d l H H') {T : Tm} {a : Addr} (h : NodeAt c H T a) : NodeAt c H' T a := by
  obtain ⟨z, n, ns, hd, hl, r⟩ := D.ex
  exact h.map fun p C dx fs e => k p _ e (ne_of e hd (by intro z; cases z)) (ne_of e hl (by intro z; cases z))
section
variable {X : Cx} {c : CA}
theorem op_eqN (EQ : EqOk X.prog X.w X.K X.mg X.base c) (hr : Room 5 X.A) : OpR X (compareOp .Eq) (rEqN c true) := by
  intro pins s σ H x y u v Q I rx ry h
  obtain ⟨⟨a, b, T, rfl, rfl, ha, hb, hok, hd⟩, q⟩ := h
  obtain ⟨dx, ks, e1, _⟩ := ha.split
  obtain ⟨dy, ls, e2, _⟩ := hb.split
  exact op_eqF (X := X) pins s σ H _ _ u v Q I rx ry ⟨a, b, c.of T, dx, dy, _, _, EQ.f, EQ.fd, _, _, 4, CX0, E0, rfl, rfl, e1, e2, EQ.e T, EQ.ok, hr, EQ.b, pass0, a, b, T, rfl, ha, hb, hok, pre_small hd, fun H' sm => ⟨true, rfl, q H' sm⟩⟩
theorem op_neN (EQ : EqOk X.prog X.w X.K X.mg X.base c) (hr : Room 5 X.A) : OpR X (compareOp .NotEq) (rEqN c false) := by
  intro pins s σ H x y u v Q I rx ry h
  obtain ⟨⟨a, b, T, rfl, rfl, ha, hb, hok, hd⟩, q⟩ := h
  obtain ⟨dx, ks, e1, _⟩ := ha.split
  obtain ⟨dy, ls, e2, _⟩ := hb.split
  exact op_neF (X := X) pins s σ H _ _ u v Q I rx ry ⟨a, b, c.of T, dx, dy, _, _, EQ.f, EQ.fd, _, _, 4, CX0, E0, rfl, rfl, e1, e2, EQ.e T, EQ.ok, hr, EQ.b, pass0, a, b, T, rfl, ha, hb, hok, pre_small hd, fun H' sm => ⟨true, rfl, q H' sm⟩⟩
end
theorem op_eqM {X : Cx} {P : Program} {w : World} {K : PySem.W.Frag} {mg : Str → Option Value} {base : Heap} {c : CA} (EQ : EqOk P w K mg base c) (h1 : X.prog = P) (h2 : X.w = w) (h3 : X.K = K) (h4 : X.mg = mg) (h5 : X.base = base) (hr : Room 5 X.A) : OpR X (compareOp .Eq) (rEqN c true) := by
  subst h1 h2 h3 h4 h5
  exact op_eqN EQ hr
theorem op_neM {X : Cx} {P : Program} {w : World} {K : PySem.W.Frag} {mg : Str → Option Value} {base : Heap} {c : CA} (EQ : EqOk P w K mg base c) (h1 : X.prog = P) (h2 : X.w = w) (h3 : X.K = K) (h4 : X.mg = mg) (h5 : X.base = base) (hr : Room 5 X.A) : OpR X (compareOp .NotEq) (rEqN c false) := by
  subst h1 h2 h3 h4 h5
  exact op_neN EQ hr
theorem pe_fldN {X : Cx} {K : PySem.W.Frag} {e : Expr} {f : Str} {pos : Pos} {ta : TE} (h : X.K = K) (he : PE X e ta) (hb : attributeBase e f X.env (eval e X.env) = eval e X.env) : PE X (.Attribute e f pos) (tFld K ta f) := by
  subst h
  exact pe_fld he hb
/-- no class value has the name of a field -/
structure NoA (K : PySem.W.Frag) (c : CA) (cC : Addr) : Prop where
  num_value : NoAttr K c.num "value"
  nam_name : NoAttr K c.nam "name"
  add_one : NoAttr K c.add "one"
  add_other : NoAttr K c.add "other"
  sub_one : NoAttr K c.sub "one"
  sub_other : NoAttr K c.sub "other"
  mul_one : NoAttr K c.mul "one"
  mul_other : NoAttr K c.mul "other"
  half_inner : NoAttr K c.half "inner"
  over_top : NoAttr K c.over "top"
  over_bottom : NoAttr K c.over "bottom"
  pow_base : NoAttr K c.pow "base"
  pow_times : NoAttr K c.pow "times"
  rai_base : NoAttr K c.rai "base"
  rai_exponent : NoAttr K c.rai "exponent"
  cho_tested : NoAttr K c.cho "tested"
  cho_modulus : NoAttr K c.cho "modulus"
  cho_rest : NoAttr K c.cho "rest"
  cho_yes : NoAttr K c.cho "yes"
  cho_no : NoAttr K c.cho "no"
  call_name : NoAttr K cC "name"
  call_arguments : NoAttr K cC "arguments"
  call_cl : Cls K cC
end My

set_option Elab.async false
set_option linter.all false
set_option maxRecDepth 100000
set_option maxHeartbeats 1000000
namespace My
open PySem L2 MyR

open RT
/-- _law_pairs_right: always True -/
def spPairs (K : PySem.W.Frag) : Sp := fun vs H Q _ => ∃ (d l na : Addr) (zs : List (List Nat)), vs = [.ref d, .ref na] ∧ Deal H d l ∧ SqL K H na (stL zs) ∧ na ≠ d ∧ na ≠ l ∧ zs ≠ [] ∧ zs.length ≤ 64 ∧ (∀ z ∈ zs, isNm z = true) ∧ ∀ H', Q (.bl true) H'
section
variable {P : Program} {w : World} {K : PySem.W.Frag} {mg : Str → Option Value} {base : Heap}
abbrev s_law_pairs_right : Stmt := top 46
abbrev N_law_pairs_right : List Str := ["_law_deal_here", "_law_names", "_law_a", "_law_b", "_law_k", "_law_pairs", "_law_node_here", "_law_quotient", "_law_raised", "_law_choice"]
theorem sc_law_pairs_right : FnScope N_law_pairs_right ["_law_deal_here", "_law_names"] (defScope s_law_pairs_right) := ⟨rfl, rfl, rfl, by decide +kernel, rfl, by decide +kernel, by decide +kernel⟩
theorem ok_law_pairs_right {f : Addr} {fd : FuncData} (F : Fun K "_law_pairs_right" "_law_pairs_right" s_law_pairs_right f fd) (T : Glob mg) {c : CA} {cC : Addr} (N : NodesOk P w K mg base c) (A : NoA K c cC) (M : Mks P w K mg base c) (EQ : EqOk P w K mg base c)
    (D_law_term : Df P w K mg base 6 "_law_term" ["_law_deal_here", "_law_names", "_law_deep", "_law_kinds"] (spTerm K 2)) (D_law_node : Df P w K mg base 11 "_law_node" ["_law_term_here"] (spNode c 7)) : FnOk P w K mg base CX0 12 f fd ["_law_deal_here", "_law_names"] (spPairs K) := by
  refine F.ok sc_law_pairs_right (fun vs H Q E h => ?_) (fun cdv Ar outer s H vs Q E hr h => ?_)
  · obtain ⟨d, l, na, zs, rfl, _⟩ := h
    rfl
  · obtain ⟨d, l, na, zs, rfl, D0, hS, n1, n2, hne, hz64, hnm, k⟩ := h
    have hu := hu_of hr
    have nd := sc_law_pairs_right.nd
    refine ⟨_, (pss_cons (ps_asg (pe_lc (own := [("_law_k", 4)]) (g := gName 4) (tt := tYes) rfl nd (pi_range1 (by rfl) T.g_range (pa_cons pe_int pa_nil)) (blkOk_by (N := N_law_pairs_right) (sc := defScope s_law_pairs_right) (by decide +kernel)) (fun _ _ _ _ _ => pg_name (i := 4) nd rfl (Or.inl rfl)) (fun _ _ _ _ _ => pts_nil) (fun _ _ _ _ _ => (pe_call D_law_node.ok (hr.mono (by decide)) (by rfl) D_law_node.g D_law_node.kp D_law_node.b .nil pass0 (pa_cons (pe_call D_law_term.ok (hr.mono (by decide)) (by rfl) D_law_term.g D_law_term.kp D_law_term.b .nil pass0 (pa_cons (pv 0) (pa_cons (pv 1) (pa_cons pe_int (pa_cons (pe_lst (pa_cons pe_str (pa_cons pe_str (pa_cons pe_str pa_nil)))) pa_nil))))) pa_nil)))) (pg_unl (by rfl) (pgs_cons (pg_name (i := 2) nd rfl (Or.inr rfl)) (pgs_cons (pg_name (i := 3) nd rfl (Or.inr rfl)) pgs_nil))))
    (pss_cons (ps_set (i := 5) nd rfl (Or.inl rfl) (pe_lst (pa_cons (pe_make M.add.m M.add.ok (hr.mono (by decide)) (by rfl) M.add.g M.add.b .nil pass0 (pa_cons (pv 2) (pa_cons (pv 3) pa_nil))) (pa_cons (pe_make M.sub.m M.sub.ok (hr.mono (by decide)) (by rfl) M.sub.g M.sub.b .nil pass0 (pa_cons (pv 2) (pa_cons (pv 3) pa_nil))) (pa_cons (pe_make M.mul.m M.mul.ok (hr.mono (by decide)) (by rfl) M.mul.g M.mul.b .nil pass0 (pa_cons (pv 2) (pa_cons (pv 3) pa_nil))) pa_nil)))))
    (pss_cons (ps_if (PW.pt (pw_or (pt_not (pt_val (pe_callB (cr_all rfl) (by rfl) T.g_all (by decide +kernel) (pa_cons (pe_lc (own := [("_law_node_here", 6)]) (g := gName 6) (tt := tYes) rfl nd (pi_list (pv 5)) (blkOk_by (N := N_law_pairs_right) (sc := defScope s_law_pairs_right) (by decide +kernel)) (fun _ _ _ _ _ => pg_name (i := 6) nd rfl (Or.inl rfl)) (fun _ _ _ _ _ => pts_nil) (fun _ _ _ _ _ => (pe_and (pe_cmpR (op_eqM EQ rfl rfl rfl rfl rfl (hr.mono (by decide))) (pe_fldN (K := K) rfl (pv 6) rfl) (pv 2) (nomark _)) (pe_one (pe_cmpR (op_eqM EQ rfl rfl rfl rfl rfl (hr.mono (by decide))) (pe_fldN (K := K) rfl (pv 6) rfl) (pv 3) (nomark _)))))) pa_nil)))) (pw_or1 (pt_cmpR (op_neM EQ rfl rfl rfl rfl rfl (hr.mono (by decide))) (pe_fld (pe_make M.half.m M.half.ok (hr.mono (by decide)) (by rfl) M.half.g M.half.b .nil pass0 (pa_cons (pv 3) pa_nil)) rfl) (pv 3) (nomark _)))))
    (pss_one (ps_ret pe_bl))
    pss_nil)
    (pss_cons (ps_par3 (i := 7) (j := 8) (l := 9) rfl nd rfl rfl rfl (by decide) (by decide) (by decide) rfl rfl rfl (pa_cons (pe_make M.over.m M.over.ok (hr.mono (by decide)) (by rfl) M.over.g M.over.b .nil pass0 (pa_cons (pv 3) (pa_cons (pv 2) pa_nil))) (pa_cons (pe_make M.rai.m M.rai.ok (hr.mono (by decide)) (by rfl) M.rai.g M.rai.b .nil pass0 (pa_cons (pv 2) (pa_cons (pv 3) pa_nil))) (pa_cons (pe_make M.cho.m M.cho.ok (hr.mono (by decide)) (by rfl) M.cho.g M.cho.b .nil pass0 (pa_cons (pv 2) (pa_cons pe_int (pa_cons pe_int (pa_cons (pv 3) (pa_cons (pv 2) pa_nil)))))) pa_nil))) (by rfl))
    (pss_cons (ps_if (PW.pt (pw_or (pt_cmpR (op_neM EQ rfl rfl rfl rfl rfl (hr.mono (by decide))) (pe_fld (pv 7) rfl) (pv 3) (nomark _)) (pw_or (pt_cmpR (op_neM EQ rfl rfl rfl rfl rfl (hr.mono (by decide))) (pe_fld (pv 7) rfl) (pv 2) (nomark _)) (pw_or (pt_cmpR (op_neM EQ rfl rfl rfl rfl rfl (hr.mono (by decide))) (pe_fld (pv 8) rfl) (pv 2) (nomark _)) (pw_or1 (pt_cmpR (op_neM EQ rfl rfl rfl rfl rfl (hr.mono (by decide))) (pe_fld (pv 8) rfl) (pv 3) (nomark _)))))))
    (pss_one (ps_ret pe_bl))
    pss_nil)
    (pss_one (ps_ret (pe_and (pe_cmpR (op_eqM EQ rfl rfl rfl rfl rfl (hr.mono (by decide))) (pe_fld (pv 9) rfl) (pv 2) (nomark _)) (pe_and (pe_cmpR (op_eqM EQ rfl rfl rfl rfl rfl (hr.mono (by decide))) (pe_fld (pv 9) rfl) (pv 3) (nomark _)) (pe_one (pe_cmpR (op_eqM EQ rfl rfl rfl rfl rfl (hr.mono (by decide))) (pe_fld (pv 9) rfl) (pv 2) (nomark _)))))))))))), ?_⟩
    refine ⟨2, rfl, by decide, by decide, fun D hD => ?_⟩
    obtain ⟨nDd, nDl⟩ := D0.free hD
    refine lc_range (lo := 0) (n := 2) (fun i H1 => ∃ (xs : List Addr) (Ts : List Tm), Deal H1 d l ∧ Kept d l H H1 ∧ H1 D = some (.lst (xs.map V.ref)) ∧ All2 (NodeAt c H1) Ts xs ∧ (∀ T ∈ Ts, T.ok ∧ T.depth ≤ 6) ∧ xs.length = i)
      ⟨[], [], D0.new hD, Kept.refl.new hD, upd_same, .nil, (fun _ h => by cases h), rfl⟩ ?_ ?_
    · rintro i H1 hi ⟨xs, Ts, D1, kp1, hD1, aN, hTs, hl⟩
      refine ⟨rfl, ?_⟩
      refine ⟨_, rfl, _, rfl, (by show 3 ≤ sizeLine; decide), fun kl hkl => ?_⟩
      have D2 := D1.new (o := .lst [V.str "subtract", V.str "choose", V.str "power"]) hkl
      obtain ⟨k1, k2⟩ := D1.free hkl
      have kp2 : Kept d l H (upd H1 kl (.lst [V.str "subtract", V.str "choose", V.str "power"])) := kp1.new (kp1.free D1 hkl)
      refine ⟨d, l, na, kl, zs, ["subtract", "choose", "power"], rfl, D2, kp2.seq hS n1 n2, n1, n2, hne, hz64, hnm, SqL.of upd_same, k1, k2, by decide, by decide, by decide +kernel, fun p T H2 okT dT hT D3 kp3 => ?_⟩
      refine ⟨p, T, rfl, hT, okT, by omega, fun x H3 sm hN => ?_⟩
      have kpA := kp2.trans (kp3.trans (Kept.of sm))
      have kpB : Kept d l H1 H3 := (Kept.refl.new hkl).trans (kp3.trans (Kept.of sm))
      have hD3 := kpB _ _ hD1 nDd nDl
      have smI : ∀ q C dx fs, H3 q = some (.ins C dx fs) → (upd H3 D (.lst (xs.map V.ref ++ [V.ref x]))) q = some (.ins C dx fs) := fun q C dx fs e => by
        rw [upd_ne (ne_of e hD3 (by intro z; cases z))]
        exact e
      refine ⟨_, hD3, by rw [List.length_map]; exact sz (by omega), xs ++ [x], Ts ++ [T], (D3.same sm).other nDd nDl, kpA.new hD, by rw [upd_same, List.map_append]; rfl, ?_, ?_, by rw [List.length_append, hl]; rfl⟩
      · exact (aN.imp fun T a h => (h.kept D1 kpB).map smI).app (.cons (hN.map smI) .nil)
      · intro T' hT'
        rcases List.mem_append.mp hT' with h | h
        · exact hTs _ h
        · obtain rfl := List.mem_singleton.mp h
          exact ⟨okT, dT⟩
    · rintro H1 ⟨xs, Ts, D1, kp1, hD1, aN, hTs, hl⟩
      obtain ⟨a, b, rfl⟩ : ∃ a b, xs = [a, b] := by
        match xs, hl with
        | [a, b], _ => exact ⟨a, b, rfl⟩
      obtain ⟨TA, TB, rfl, hA, hB⟩ : ∃ TA TB, Ts = [TA, TB] ∧ NodeAt c H1 TA a ∧ NodeAt c H1 TB b := by
        cases aN with
        | cons q r => cases r with
          | cons q2 r => cases r; exact ⟨_, _, rfl, q, q2⟩
      obtain ⟨okA, dA⟩ := hTs TA (by simp)
      obtain ⟨okB, dB⟩ := hTs TB (by simp)
      refine ⟨D, _, rfl, SqL.of hD1, rfl, _, _, rfl, _, _, rfl, rfl, ?_⟩
      -- three pairs
      refine ⟨_, rfl, _, rfl, fun x1 dx1 hx1 hd1 _ => ⟨x1, dx1, _, _, rfl, upd_same, fun G1 ini1 => ⟨rfl, ?_⟩⟩⟩
      obtain ⟨s1, e1⟩ := mk_done hx1 hd1 (Same.refl _) ini1
      refine ⟨_, rfl, _, rfl, fun x2 dx2 hx2 hd2 _ => ⟨x2, dx2, _, _, rfl, upd_same, fun G2 ini2 => ⟨rfl, ?_⟩⟩⟩
      obtain ⟨s2, e2⟩ := mk_done hx2 hd2 (Same.refl _) ini2
      refine ⟨_, rfl, _, rfl, fun x3 dx3 hx3 hd3 _ => ⟨x3, dx3, _, _, rfl, upd_same, fun G3 ini3 => ⟨rfl, ?_⟩⟩⟩
      obtain ⟨s3, e3⟩ := mk_done hx3 hd3 (Same.refl _) ini3
      refine ⟨(by show 3 ≤ sizeLine; decide), fun L hL => ?_⟩
      have sL := new_same (o := .lst [V.ref x1, V.ref x2, V.ref x3]) hL
      have hL5 : (upd G3 L (.lst [V.ref x1, V.ref x2, V.ref x3])) L = some (.lst [V.ref x1, V.ref x2, V.ref x3]) := upd_same
      have hA5 := hA.same (s1.trans (s2.trans (s3.trans sL)))
      have hB5 := hB.same (s1.trans (s2.trans (s3.trans sL)))
      have f1 := (s2.trans (s3.trans sL)) _ _ e1
      have f2 := (s3.trans sL) _ _ e2
      have f3 := sL _ _ e3
      generalize upd G3 L (.lst [V.ref x1, V.ref x2, V.ref x3]) = H5 at hL5 hA5 hB5 f1 f2 f3 ⊢
      have P3 : ∀ v ∈ [V.ref x1, V.ref x2, V.ref x3], ∃ xa C dx, v = .ref xa ∧ H5 xa = some (.ins C dx [("one", .ref a), ("other", .ref b)]) ∧ Cls K C ∧ NoAttr K C "one" ∧ NoAttr K C "other" := by
        intro v hv
        simp only [List.mem_cons, List.not_mem_nil, or_false] at hv
        rcases hv with rfl | rfl | rfl
        · exact ⟨_, _, _, rfl, f1, N.cl (.two .add TA TB), A.add_one, A.add_other⟩
        · exact ⟨_, _, _, rfl, f2, N.cl (.two .sub TA TB), A.sub_one, A.sub_other⟩
        · exact ⟨_, _, _, rfl, f3, N.cl (.two .mul TA TB), A.mul_one, A.mul_other⟩
      have eqA : ∀ {H' : Hp}, Same H5 H' → SameN c (.ref a) (.ref a) H' := fun sm => ⟨a, a, TA, rfl, rfl, hA5.same sm, hA5.same sm, okA, dA⟩
      have eqB : ∀ {H' : Hp}, Same H5 H' → SameN c (.ref b) (.ref b) H' := fun sm => ⟨b, b, TB, rfl, rfl, hB5.same sm, hB5.same sm, okB, dB⟩
      have l2 : ∀ {f g : Str} {u v : V} {r : List (Str × V)}, ¬ f = g → ((g, v) :: (f, u) :: r).lookup f = some u := fun h => (lk_ne h).trans lk_eq
      refine ⟨_, rfl, L, rfl, ⟨_, SqL.of hL5⟩, fun D2 hD2 => ?_⟩
      refine lc_list (K := K) (a := L) (xs := [V.ref x1, V.ref x2, V.ref x3]) (fun i H6 => Same H5 H6 ∧ H6 D2 = some (.lst ((List.replicate i true).map V.bl))) ⟨new_same hD2, upd_same⟩ (fun i H6 _ ⟨sm, _⟩ => SqL.of (sm _ _ hL5)) ?_ ?_
      · rintro i x H6 hx ⟨sm6, h6⟩
        obtain ⟨xa, C, dx, rfl, ha, cl, na1, na2⟩ := P3 x (List.mem_of_getElem? hx)
        have hi := (List.getElem?_eq_some_iff.mp hx).1
        refine ⟨rfl, ?_⟩
        refine ⟨_, rfl, xa, C, dx, _, .ref a, rfl, sm6 _ _ ha, cl, na1, lk_eq, _, rfl, eqA sm6, fun H7 sm7 => ?_⟩
        refine ⟨true, rfl, ?_⟩
        have sm67 := sm6.trans sm7
        refine ⟨_, rfl, xa, C, dx, _, .ref b, rfl, sm67 _ _ ha, cl, na2, l2 (by decide +kernel), _, rfl, eqB sm67, fun H8 sm8 => ?_⟩
        refine ⟨_, sm8 _ _ (sm7 _ _ h6), by rw [List.length_map, List.length_replicate]; exact sz (by simp at hi; omega), fun q o e => ?_, ?_⟩
        · rw [upd_ne (ne_of_none e hD2)]
          exact sm8 _ _ (sm67 _ _ e)
        · rw [upd_same, List.replicate_succ', List.map_append]
          rfl
      · rintro H6 ⟨sm6, h6⟩
        refine ⟨D2, [true, true, true], rfl, SqL.of h6, true, rfl, ?_⟩
        refine ite2 (fun hz => absurd hz (by decide)) (fun _ => ?_)
        have hA6 := hA5.same sm6
        have hB6 := hB5.same sm6
        have eqA6 : ∀ {H' : Hp}, Same H6 H' → SameN c (.ref a) (.ref a) H' := fun sm => eqA (sm6.trans sm)
        have eqB6 : ∀ {H' : Hp}, Same H6 H' → SameN c (.ref b) (.ref b) H' := fun sm => eqB (sm6.trans sm)
        refine ⟨_, rfl, fun y1 dy1 hy1 hz1 _ => ⟨y1, dy1, _, rfl, upd_same, fun J1 in1 => ⟨rfl, ?_⟩⟩⟩
        obtain ⟨t1, g1⟩ := mk_done hy1 hz1 (Same.refl _) in1
        refine ⟨y1, _, dy1, _, .ref b, rfl, g1, N.cl (.half TB), A.half_inner, lk_eq, _, rfl, eqB6 t1, fun J2 t2 => ⟨false, rfl, ?_⟩⟩
        refine ite2 (fun hz => absurd hz (by decide)) (fun _ => ?_)
        have T2 := t1.trans t2
        -- quotient, raised, choice
        refine ⟨_, rfl, _, rfl, fun y3 dy3 hy3 hz3 _ => ⟨y3, dy3, _, _, rfl, upd_same, fun J3 in3 => ⟨rfl, ?_⟩⟩⟩
        obtain ⟨t3, g3⟩ := mk_done hy3 hz3 (Same.refl _) in3
        refine ⟨_, rfl, _, rfl, fun y4 dy4 hy4 hz4 _ => ⟨y4, dy4, _, _, rfl, upd_same, fun J4 in4 => ⟨rfl, ?_⟩⟩⟩
        obtain ⟨t4, g4⟩ := mk_done hy4 hz4 (Same.refl _) in4
        refine ⟨_, rfl, _, rfl, _, rfl, fun y5 dy5 hy5 hz5 _ => ⟨y5, dy5, [.ref a, .int 8, .int 5, .ref b, .ref a], rfl, rfl, upd_same, ⟨_, _, _, _, _, rfl, .int 8, .int 5⟩, (by show okCh (.int 8) (.int 5) = true; decide +kernel), fun J J5 sm5 in5 => ⟨rfl, ?_⟩⟩⟩
        obtain ⟨t5, g5⟩ := mk_done hy5 hz5 sm5 in5
        have T5 := T2.trans (t3.trans (t4.trans t5))
        have g3' := (t4.trans t5) _ _ g3
        have g4' := t5 _ _ g4
        refine ⟨_, _, _, rfl, ?_⟩
        have clQ := N.cl (.two .over TA TB)
        have clR := N.cl (.two .rai TA TB)
        have clC := N.cl (.cho TA 8 5 TB TA)
        refine ⟨_, rfl, y3, _, dy3, _, .ref b, rfl, g3', clQ, A.over_top, lk_eq, _, rfl, eqB6 T5, fun L1 u1 => ⟨false, rfl, ?_⟩⟩
        refine ite2 (fun hz => absurd hz (by decide)) (fun _ => ?_)
        refine ⟨_, rfl, y3, _, dy3, _, .ref a, rfl, u1 _ _ g3', clQ, A.over_bottom, l2 (by decide +kernel), _, rfl, eqA6 (T5.trans u1), fun L2 u2 => ⟨false, rfl, ?_⟩⟩
        refine ite2 (fun hz => absurd hz (by decide)) (fun _ => ?_)
        have U2 := u1.trans u2
        refine ⟨_, rfl, y4, _, dy4, _, .ref a, rfl, U2 _ _ g4', clR, A.rai_base, lk_eq, _, rfl, eqA6 (T5.trans U2), fun L3 u3 => ⟨false, rfl, ?_⟩⟩
        refine ite2 (fun hz => absurd hz (by decide)) (fun _ => ?_)
        have U3 := U2.trans u3
        refine ⟨_, rfl, y4, _, dy4, _, .ref b, rfl, U3 _ _ g4', clR, A.rai_exponent, l2 (by decide +kernel), _, rfl, eqB6 (T5.trans U3), fun L4 u4 => ⟨false, rfl, ?_⟩⟩
        refine ite2 (fun hz => absurd hz (by decide)) (fun _ => ?_)
        have U4 := U3.trans u4
        refine ⟨_, rfl, y5, _, dy5, _, .ref a, rfl, U4 _ _ g5, clC, A.cho_tested, lk_eq, _, rfl, eqA6 (T5.trans U4), fun L5 u5 => ⟨true, rfl, ?_⟩⟩
        have U5 := U4.trans u5
        refine ⟨_, rfl, y5, _, dy5, _, .ref b, rfl, U5 _ _ g5, clC, A.cho_yes, (lk_ne (by decide +kernel)).trans ((lk_ne (by decide +kernel)).trans ((lk_ne (by decide +kernel)).trans lk_eq)), _, rfl, eqB6 (T5.trans U5), fun L6 u6 => ⟨true, rfl, ?_⟩⟩
        have U6 := U5.trans u6
        refine ⟨_, rfl, y5, _, dy5, _, .ref a, rfl, U6 _ _ g5, clC, A.cho_no, (lk_ne (by decide +kernel)).trans ((lk_ne (by decide +kernel)).trans ((lk_ne (by decide +kernel)).trans ((lk_ne (by decide +kernel)).trans lk_eq))), _, rfl, eqA6 (T5.trans U6), fun L7 u7 => k L7⟩
end
end My

set_option Elab.async false
set_option linter.all false
set_option maxRecDepth 100000
set_option maxHeartbeats 1000000
namespace My
open PySem L2 MyR

open RT
def DId : Eqv := fun x y _ => ∃ a, x = .ref a ∧ y = .ref a
theorem mon_id : Mon DId := fun _ _ _ _ _ d => d
section
variable {X : Cx}
theorem eqG_id : EqG X 0 DId := by
  intro A pins s σ H x y u v sb I rx ry d
  obtain ⟨a, rfl, rfl⟩ := d
  cases rx
  cases ry
  exact SeqAt.EqAt.same (A := A) (s := s) (.ref a) X.prog X.w X.xe _ ⟨rfl, H, I, Ext.rfl'⟩
/-- a tuple != () -/
def rNeT0 (K : PySem.W.Frag) : R2 := fun x y H Q => ∃ a b xs, x = .ref a ∧ y = .ref b ∧ SqT K H a xs ∧ SqT K H b [] ∧ Q (.bl (!xs.isEmpty)) H
theorem op_neT0 (hu : X.A.units < cLine) : OpR X (compareOp .NotEq) (rNeT0 X.K) := by
  intro pins s σ H x y v u Q I rx ry h
  obtain ⟨a, b, xs, rfl, rfl, ha, hb, q⟩ := h
  cases rx
  cases ry
  obtain ⟨its, r, e, z⟩ := I.tuple ha
  obtain ⟨its2, r2, e2, z2⟩ := I.tuple hb
  cases r2
  have w := SeqAt.RcNeAt.tuples (A := X.A) (s := s) (e := fun _ => true) e e2 hu (fun j h1 h2 => absurd h2 (by simp))
  have e9 : (!((List.range (min its.toArray.size ([] : List Value).toArray.size)).all (fun _ => true) && its.toArray.size == ([] : List Value).toArray.size)) = !xs.isEmpty := by
    cases r with
    | nil => rfl
    | cons a b => simp
  rw [e9] at w
  exact w X.prog X.w X.xe _ ⟨.bl _, H, I, rfl, q⟩
end
/-- _law_call_right: always True -/
def spCallR (K : PySem.W.Frag) : Sp := fun vs H Q _ => ∃ (d l na : Addr) (zs : List (List Nat)) (v : V), vs = [.ref d, .ref na, v, .bl (nmV v)] ∧ Deal H d l ∧ SqL K H na (stL zs) ∧ na ≠ d ∧ na ≠ l ∧ zs ≠ [] ∧ zs.length ≤ 64 ∧ (∀ z ∈ zs, isNm z = true) ∧ Arg H v ∧ (∀ a, v = .ref a → a ≠ d ∧ a ≠ l) ∧
  ∀ H', Deal H' d l → Kept d l H H' → Q (.bl true) H'
theorem Arg.kept {d l : Addr} {H H' : Hp} (k : Kept d l H H') {v : V} (h : Arg H v) (hv : ∀ a, v = .ref a → a ≠ d ∧ a ≠ l) : Arg H' v := by
  cases h with
  | non => exact .non
  | bl b => exact .bl b
  | int i => exact .int i
  | str z hz => exact .str z hz
  | tup e => exact .tup (k _ _ e (hv _ rfl).1 (hv _ rfl).2)
section
variable {P : Program} {w : World} {K : PySem.W.Frag} {mg : Str → Option Value} {base : Heap}
abbrev s_law_call_right : Stmt := top 47
abbrev N_law_call_right : List Str := ["_law_deal_here", "_law_names", "_law_word", "_law_is_word", "_law_given", "_law_k", "_law_kept", "_law_found"]
theorem sc_law_call_right : FnScope N_law_call_right ["_law_deal_here", "_law_names", "_law_word", "_law_is_word"] (defScope s_law_call_right) := ⟨rfl, rfl, rfl, by decide +kernel, rfl, by decide +kernel, by decide +kernel⟩
theorem ok_law_call_right {f : Addr} {fd : FuncData} (F : Fun K "_law_call_right" "_law_call_right" s_law_call_right f fd) (T : Glob mg) {c : CA} {cC : Addr} (A : NoA K c cC) (D_law_draw : Df P w K mg base 1 "_law_draw" ["_law_deal_here", "_law_many"] spDraw)
    (D_law_term : Df P w K mg base 6 "_law_term" ["_law_deal_here", "_law_names", "_law_deep", "_law_kinds"] (spTerm K 2)) (D_law_node : Df P w K mg base 11 "_law_node" ["_law_term_here"] (spNode c 7))
    (D_law_tried : Df P w K mg base 5 "_law_tried" ["_law_form", "_law_a", "_law_b", "_law_c"] (spTried K c cC)) : FnOk P w K mg base CX0 12 f fd ["_law_deal_here", "_law_names", "_law_word", "_law_is_word"] (spCallR K) := by
  refine F.ok sc_law_call_right (fun vs H Q E h => ?_) (fun cdv Ar outer s H vs Q E hr h => ?_)
  · obtain ⟨d, l, na, zs, v, rfl, _⟩ := h
    rfl
  · obtain ⟨d, l, na, zs, v, rfl, D0, hS, n1, n2, hne, hz64, hnm, hv, hvr, k⟩ := h
    have hu := hu_of hr
    have nd := sc_law_call_right.nd
    refine ⟨_, (pss_cons (ps_setLc (i := 4) (own := [("_law_k", 5)]) (g := gName 5) (tt := tYes) rfl nd rfl rfl (sw_true rfl rfl rfl (by decide +kernel)) (pi_range1 (by rfl) T.g_range (pa_cons (pe_call D_law_draw.ok (hr.mono (by decide)) (by rfl) D_law_draw.g D_law_draw.kp D_law_draw.b .nil pass0 (pa_cons (pv 0) (pa_cons pe_int pa_nil))) pa_nil)) (blkOk_by (N := N_law_call_right) (sc := defScope s_law_call_right) (by decide +kernel)) (fun _ _ _ _ _ => pg_name (i := 5) nd rfl (Or.inl rfl)) (fun _ _ _ _ _ => pts_nil) (fun _ _ _ _ _ => (pe_call D_law_node.ok (hr.mono (by decide)) (by rfl) D_law_node.g D_law_node.kp D_law_node.b .nil pass0 (pa_cons (pe_call D_law_term.ok (hr.mono (by decide)) (by rfl) D_law_term.g D_law_term.kp D_law_term.b .nil pass0 (pa_cons (pv 0) (pa_cons (pv 1) (pa_cons pe_int (pa_cons (pe_lst (pa_cons pe_str (pa_cons pe_str (pa_cons pe_str pa_nil)))) pa_nil))))) pa_nil))))
    (pss_cons (ps_par (i := 6) (j := 7) rfl nd rfl rfl (by decide) rfl rfl (pa_cons (pe_callTy call_tuple_of (by rfl) T.g_tuple (by decide +kernel) (pa_cons (pv 4) pa_nil)) (pa_cons (pe_call D_law_tried.ok (hr.mono (by decide)) (by rfl) D_law_tried.g D_law_tried.kp D_law_tried.b .nil pass0 (pa_cons pe_int (pa_cons (pv 2) (pa_cons pe_int (pa_cons (pv 4) pa_nil))))) pa_nil)) (by rfl))
    (pss_cons (ps_expr (pe_bm0 PySem.F.plainAttrs_list PySem.F.slot_list_clear PySem.F.type_list_clear mt_clear (pv 4)))
    (pss_cons (ps_if (pt_cmpR op_ne (pe_ix ix_tup (pv 7) pe_int (fun _ _ => rfl)) (pe_ix ix_list (pe_lst (pa_cons pe_str (pa_cons pe_str pa_nil))) (pe_callTy call_int1 (by rfl) T.g_int (by decide +kernel) (pa_cons (pe_and (pv 3) (pe_one (pe_cmpR (op_neT0 (Nat.lt_of_succ_lt hu)) (pv 6) (pe_tup pa_nil) (nomark _)))) pa_nil)) (fun _ _ => rfl)) (nomark _))
    (pss_one (ps_ret pe_bl))
    pss_nil)
    (pss_one (ps_ret (pe_or (pe_cmpR op_ne (pe_ix ix_tup (pv 7) pe_int (fun _ _ => rfl)) pe_str (nomark _)) (pe_one (pe_and (pe_cmpR (op_eqG (rcG_tup mon_id eqG_id) (hr.mono (by decide))) (pe_fld (pe_ix ix_tup (pv 7) pe_int (fun _ _ => rfl)) rfl) (pv 6) (nomark _)) (pe_one (pe_cmpR op_eq (pe_fld (pe_ix ix_tup (pv 7) pe_int (fun _ _ => rfl)) rfl) (pv 2) (nomark _)))))))))))), ?_⟩
    refine ⟨_, rfl, d, l, _, rfl, D0, by decide, by decide, fun r H1 r0 r1 D1 kp1 => ?_⟩
    refine ⟨r, rfl, by omega, by omega, fun D hD => ?_⟩
    obtain ⟨nDd, nDl⟩ := D1.free hD
    have hDH : H D = none := kp1.free D1 hD
    refine lc_range (lo := 0) (n := r.toNat) (fun i H2 => ∃ (xs : List Addr), Deal H2 d l ∧ Kept d l H H2 ∧ H2 D = some (.lst (xs.map V.ref)) ∧ xs.length = i)
      ⟨[], D1.new hD, kp1.new hDH, upd_same, rfl⟩ ?_ ?_
    · rintro i H2 hi ⟨xs, D2, kp2, hD2, hl⟩
      refine ⟨rfl, ?_⟩
      refine ⟨_, rfl, _, rfl, (by show 3 ≤ sizeLine; decide), fun kl hkl => ?_⟩
      have D3 := D2.new (o := .lst [V.str "add", V.str "half", V.str "multiply"]) hkl
      obtain ⟨k1, k2⟩ := D2.free hkl
      have kp3 : Kept d l H (upd H2 kl (.lst [V.str "add", V.str "half", V.str "multiply"])) := kp2.new (kp2.free D2 hkl)
      refine ⟨d, l, na, kl, zs, ["add", "half", "multiply"], rfl, D3, kp3.seq hS n1 n2, n1, n2, hne, hz64, hnm, SqL.of upd_same, k1, k2, by decide, by decide, by decide +kernel, fun p T H4 okT dT hT D4 kp4 => ?_⟩
      refine ⟨p, T, rfl, hT, okT, by omega, fun x H5 sm hN => ?_⟩
      have kpA := kp3.trans (kp4.trans (Kept.of sm))
      have kpB : Kept d l H2 H5 := (Kept.refl.new hkl).trans (kp4.trans (Kept.of sm))
      have hD5 := kpB _ _ hD2 nDd nDl
      exact ⟨_, hD5, by rw [List.length_map]; exact sz (by omega), xs ++ [x], (D4.same sm).other nDd nDl, kpA.new hDH, by rw [upd_same, List.map_append]; rfl, by rw [List.length_append, hl]; rfl⟩
    · rintro H2 ⟨xs, D2, kp2, hD2, hl⟩
      have hxl : (xs.map V.ref).length ≤ 100 := by rw [List.length_map]; omega
      refine ⟨_, rfl, D, _, rfl, .inl ⟨SqL.of hD2, fun t0 ht0 => ?_⟩⟩
      have sT := new_same (o := .tup (xs.map V.ref)) ht0
      have D3 := D2.same sT
      have kp3 : Kept d l H (upd H2 t0 (.tup (xs.map V.ref))) := kp2.trans (Kept.of sT)
      have hD3 := sT _ _ hD2
      have ht3 : (upd H2 t0 (.tup (xs.map V.ref))) t0 = some (.tup (xs.map V.ref)) := upd_same
      have nDt : D ≠ t0 := ne_of_none hD2 ht0
      generalize upd H2 t0 (.tup (xs.map V.ref)) = H3 at D3 kp3 hD3 ht3 ⊢
      have hv3 : Arg H3 v := hv.kept kp3 hvr
      refine ⟨_, rfl, _, rfl, 4, v, .int 0, .ref D, _, _, rfl, .n4 hv3 (SqL.of hD3) hxl, fun hok p x H4 sm hp hres => ?_, fun hok p H4 sm hp => ?_⟩
      · -- made
        obtain ⟨hb, he⟩ : nmV v = true ∧ (!(xs.map V.ref).isEmpty) = true := by
          have := hok
          rw [Bool.and_eq_true] at this
          exact this
        obtain ⟨dx, t, hx, ht⟩ := hres
        have hD4 := sm _ _ hD3
        have ht4 := sm _ _ ht3
        refine ⟨_, _, rfl, ?_⟩
        refine ⟨_, rfl, .inl ⟨rfl, _, SqL.of hD4⟩, D, _, rfl, rfl, hD4, ?_⟩
        have smT : ∀ {q : Addr} {ys : List V}, H4 q = some (.tup ys) → (upd H4 D (.lst [])) q = some (.tup ys) := fun e => by rw [upd_ne (ne_of e hD4 (by intro z; cases z))]; exact e
        have hp5 := smT hp
        have ht5 := smT ht
        have h05 := smT ht4
        have hx5 : (upd H4 D (.lst [])) x = some (.ins cC dx [("name", v), ("arguments", .ref t)]) := by rw [upd_ne (ne_of hx hD4 (by intro z; cases z))]; exact hx
        have D5 : Deal (upd H4 D (.lst [])) d l := (D3.same sm).other nDd nDl
        have kp5 : Kept d l H (upd H4 D (.lst [])) := (kp3.trans (Kept.of sm)).new hDH
        generalize upd H4 D (.lst []) = H5 at hp5 ht5 h05 hx5 D5 kp5 ⊢
        refine ⟨_, rfl, p, _, 0, .str "made", rfl, rfl, SqT.of hp5, atI_nat (j := 0) rfl, ?_⟩
        refine ⟨(by show 2 ≤ sizeLine; decide), fun L hL => ?_⟩
        have sL := new_same (o := .lst [V.str "refused", V.str "made"]) hL
        refine ⟨_, rfl, nmV v, rfl, ?_⟩
        rw [hb]
        refine ⟨_, rfl, (by show 0 ≤ sizeLine; decide), fun t1 ht1 => ?_⟩
        have s1 := new_same (o := .tup []) ht1
        refine ⟨t0, t1, _, rfl, rfl, SqT.of ((sL.trans s1) _ _ h05), SqT.of upd_same, .inr ⟨_, rfl, ?_⟩⟩
        have hat : atI [V.str "refused", V.str "made"] (if (!(xs.map V.ref).isEmpty) = true then 1 else 0) = some (V.str "made") := by
          rw [if_pos he]
          exact atI_nat (j := 1) rfl
        refine ⟨L, _, _, _, rfl, rfl, SqL.of (s1 _ _ upd_same), hat, rfl, _, rfl, ?_⟩
        refine ite2 (fun hz => absurd hz (by decide +kernel)) (fun _ => ?_)
        have s6 := sL.trans s1
        have D6 := D5.same s6
        have kp6 := kp5.trans (Kept.of s6)
        have hp6 := s6 _ _ hp5
        have ht6 := s6 _ _ ht5
        have h06 := s6 _ _ h05
        have hx6 := s6 _ _ hx5
        generalize upd (upd H5 L (.lst [V.str "refused", V.str "made"])) t1 (.tup []) = H6 at D6 kp6 hp6 ht6 h06 hx6 ⊢
        refine ⟨_, rfl, p, _, 0, .str "made", rfl, rfl, SqT.of hp6, atI_nat (j := 0) rfl, rfl, false, by decide +kernel, ?_⟩
        refine ⟨_, rfl, p, _, 1, .ref x, rfl, rfl, SqT.of hp6, atI_nat (j := 1) rfl, x, cC, dx, _, .ref t, rfl, hx6, A.call_cl, A.call_arguments, (lk_ne (by decide +kernel)).trans lk_eq, ?_⟩
        refine ⟨_, rfl, ⟨t, t0, _, _, rfl, rfl, SqT.of ht6, SqT.of h06, rfl, fun i y z hy hz => ?_⟩, fun H7 s7 => ⟨true, rfl, ?_⟩⟩
        · rw [hy] at hz
          cases hz
          obtain ⟨a, _, rfl⟩ := List.mem_map.mp (List.mem_of_getElem? hy)
          exact ⟨a, rfl, rfl⟩
        · refine ⟨_, rfl, p, _, 1, .ref x, rfl, rfl, SqT.of (s7 _ _ hp6), atI_nat (j := 1) rfl, x, cC, dx, _, v, rfl, s7 _ _ hx6, A.call_cl, A.call_name, lk_eq, _, rfl, ?_⟩
          obtain ⟨z, rfl⟩ : ∃ z, v = .str z := by
            cases v with
            | str z => exact ⟨z, rfl⟩
            | _ => cases hb
          refine ⟨rfl, ?_⟩
          have q := k H7 (D6.same s7) (kp6.trans (Kept.of s7))
          have e : decide (V.str z = V.str z) = true := decide_eq_true rfl
          rw [e]
          exact q
      · -- refused
        have hD4 := sm _ _ hD3
        have ht4 := sm _ _ ht3
        refine ⟨_, _, rfl, ?_⟩
        refine ⟨_, rfl, .inl ⟨rfl, _, SqL.of hD4⟩, D, _, rfl, rfl, hD4, ?_⟩
        have smT : ∀ {q : Addr} {ys : List V}, H4 q = some (.tup ys) → (upd H4 D (.lst [])) q = some (.tup ys) := fun e => by rw [upd_ne (ne_of e hD4 (by intro z; cases z))]; exact e
        have hp5 := smT hp
        have h05 := smT ht4
        have D5 : Deal (upd H4 D (.lst [])) d l := (D3.same sm).other nDd nDl
        have kp5 : Kept d l H (upd H4 D (.lst [])) := (kp3.trans (Kept.of sm)).new hDH
        generalize upd H4 D (.lst []) = H5 at hp5 h05 D5 kp5 ⊢
        refine ⟨_, rfl, p, _, 0, .str "refused", rfl, rfl, SqT.of hp5, atI_nat (j := 0) rfl, ?_⟩
        refine ⟨(by show 2 ≤ sizeLine; decide), fun L hL => ?_⟩
        have sL := new_same (o := .lst [V.str "refused", V.str "made"]) hL
        have fin : ∀ {H6 : Hp}, Same H5 H6 → H6 p = some (.tup [.str "refused", .non]) → Q (.bl true) H6 := fun s6 _ => k _ (D5.same s6) (kp5.trans (Kept.of s6))
        refine ⟨_, rfl, nmV v, rfl, ?_⟩
        cases hb : nmV v with
        | false =>
          refine .inr ⟨false, rfl, ?_⟩
          refine ⟨L, _, _, _, rfl, rfl, SqL.of upd_same, atI_nat (j := 0) rfl, rfl, _, rfl, ?_⟩
          refine ite2 (fun hz => absurd hz (by decide +kernel)) (fun _ => ?_)
          refine ⟨_, rfl, p, _, 0, .str "refused", rfl, rfl, SqT.of (sL _ _ hp5), atI_nat (j := 0) rfl, rfl, true, by decide +kernel, ?_⟩
          exact fin sL (sL _ _ hp5)
        | true =>
          have he : (!(xs.map V.ref).isEmpty) = false := by
            have := hok
            rw [hb, Bool.true_and] at this
            exact this
          refine ⟨_, rfl, (by show 0 ≤ sizeLine; decide), fun t1 ht1 => ?_⟩
          have s1 := new_same (o := .tup []) ht1
          refine ⟨t0, t1, _, rfl, rfl, SqT.of ((sL.trans s1) _ _ h05), SqT.of upd_same, .inr ⟨_, rfl, ?_⟩⟩
          have hat : atI [V.str "refused", V.str "made"] (if (!(xs.map V.ref).isEmpty) = true then 1 else 0) = some (V.str "refused") := by
            rw [he]
            exact atI_nat (j := 0) rfl
          refine ⟨L, _, _, _, rfl, rfl, SqL.of (s1 _ _ upd_same), hat, rfl, _, rfl, ?_⟩
          refine ite2 (fun hz => absurd hz (by decide +kernel)) (fun _ => ?_)
          refine ⟨_, rfl, p, _, 0, .str "refused", rfl, rfl, SqT.of ((sL.trans s1) _ _ hp5), atI_nat (j := 0) rfl, rfl, true, by decide +kernel, ?_⟩
          exact fin (sL.trans s1) ((sL.trans s1) _ _ hp5)
end
end My

set_option Elab.async false
set_option linter.all false
set_option maxRecDepth 100000
set_option maxHeartbeats 1000000
namespace My
open PySem L2 MyR

open RT
/-! ### what the law keeps in mind -/
theorem pe_weak {X : Cx} {e : Expr} {t t' : TE} (h : PE X e t) (i : ∀ σ H Q, t' σ H Q → t σ H Q) : PE X e t' := ⟨fun pins s σ H Q I q => h.run pins s σ H Q I (i σ H Q q)⟩
theorem pt_weak {X : Cx} {e : Expr} {t t' : TT} (h : PT X e t) (i : ∀ σ H Q, t' σ H Q → t σ H Q) : PT X e t' := ⟨fun pins s σ H Q I q => h.run pins s σ H Q I (i σ H Q q)⟩
theorem ix_tupN {X : Cx} {K : PySem.W.Frag} (h : X.K = K) : IxR X (rIxT K) := h ▸ ix_tup
theorem ix_listN {X : Cx} {K : PySem.W.Frag} (h : X.K = K) : IxR X (rIxL K) := h ▸ ix_list
def scalB : V → Bool
  | .non => true
  | .bl _ => true
  | .int _ => true
  | .str z => decide (z.length ≤ 100)
  | _ => false
theorem scal_arg {H : Hp} {v : V} (h : scalB v = true) : Arg H v := by
  cases v with
  | non => exact .non
  | bl b => exact .bl b
  | int i => exact .int i
  | str z => exact .str z (of_decide_eq_true h)
  | _ => cases h
theorem scal_ref {v : V} (h : scalB v = true) (a : Addr) : v ≠ .ref a := by
  intro e
  subst e
  cases h
theorem atI_in {xs : List V} {i : Int} (h0 : 0 ≤ i) (h1 : i < xs.length) : ∃ v, v ∈ xs ∧ atI xs i = some v := by
  obtain ⟨j, rfl⟩ : ∃ j : Nat, i = (j : Int) := ⟨i.toNat, by omega⟩
  have hj : j < xs.length := by omega
  exact ⟨xs[j], List.getElem_mem hj, atI_nat (List.getElem?_eq_getElem hj)⟩
theorem all_in {xs : List V} (h : xs.all scalB = true) {v : V} (hv : v ∈ xs) : scalB v = true := List.all_eq_true.mp h v hv
def isMd : V → Bool
  | .int i => ([2, 4, 8, 16, 32, 64] : List Int).contains i
  | _ => false
theorem md_btw {v : V} (h : isMd v = true) : ∃ i, v = .int i ∧ btw v 2 64 = true := by
  cases v with
  | int i =>
    refine ⟨i, rfl, ?_⟩
    have h' : i ∈ ([2, 4, 8, 16, 32, 64] : List Int) := List.contains_iff_mem.mp h
    simp only [List.mem_cons, List.not_mem_nil, or_false] at h'
    rcases h' with rfl | rfl | rfl | rfl | rfl | rfl <;> decide
  | _ => cases h
def TriedAt (ok : Bool) (res : Addr → Hp → Prop) (H : Hp) (p : Addr) : Prop := (ok = true → ∃ x, H p = some (.tup [.str "made", .ref x]) ∧ res x H) ∧ (ok = false → H p = some (.tup [.str "refused", .non]))
def Up (res : Addr → Hp → Prop) : Prop := ∀ x H H', Same H H' → res x H → res x H'
theorem TriedAt.same {ok : Bool} {res : Addr → Hp → Prop} (u : Up res) {H H' : Hp} {p : Addr} (s : Same H H') (t : TriedAt ok res H p) : TriedAt ok res H' p :=
  ⟨fun h => let ⟨x, a, b⟩ := t.1 h; ⟨x, s _ _ a, u x _ _ s b⟩, fun h => s _ _ (t.2 h)⟩
def spTried2 (K : PySem.W.Frag) (c : CA) (cC : Addr) : Sp := fun vs H Q _ => ∃ (n : Int) (a b d : V) (ok : Bool) (res : Addr → Hp → Prop), vs = [.int n, a, b, d] ∧ Form K c cC H n a b d ok res ∧
  ∀ (p : Addr) H', Same H H' → TriedAt ok res H' p → Q (.ref p) H'
theorem tried2 {K : PySem.W.Frag} {c : CA} {cC : Addr} : ∀ vs H Q E, spTried2 K c cC vs H Q E → spTried K c cC vs H Q E := by
  rintro vs H Q E ⟨n, a, b, d, ok, res, rfl, hF, k⟩
  exact ⟨n, a, b, d, ok, res, rfl, hF, fun h p x H' s hp hr => k p H' s ⟨fun _ => ⟨x, hp, hr⟩, fun h' => absurd (h.symm.trans h') (by simp)⟩, fun h p H' s hp => k p H' s ⟨fun h' => absurd (h.symm.trans h') (by simp), fun _ => hp⟩⟩
def r0 (c : CA) (v : V) : Addr → Hp → Prop := fun x H' => ∃ dx, H' x = some (.ins c.num dx [("value", v)])
def r1 (c : CA) (v : V) : Addr → Hp → Prop := fun x H' => ∃ dx, H' x = some (.ins c.nam dx [("name", v)])
def r2 (c : CA) (v : V) : Addr → Hp → Prop := fun x H' => ∃ dx o, H' x = some (.ins c.pow dx [("base", .ref o), ("times", v)]) ∧ NodeAt c H' (.num 1) o
def r3 (c : CA) (m r : V) : Addr → Hp → Prop := fun x H' => ∃ dx o q u, H' x = some (.ins c.cho dx [("tested", .ref o), ("modulus", m), ("rest", r), ("yes", .ref q), ("no", .ref u)])
theorem up0 {c : CA} {v : V} : Up (r0 c v) := fun x H H' s ⟨dx, h⟩ => ⟨dx, s _ _ h⟩
theorem up1 {c : CA} {v : V} : Up (r1 c v) := fun x H H' s ⟨dx, h⟩ => ⟨dx, s _ _ h⟩
theorem up2 {c : CA} {v : V} : Up (r2 c v) := fun x H H' s ⟨dx, o, h, n⟩ => ⟨dx, o, s _ _ h, n.same s⟩
theorem up3 {c : CA} {m r : V} : Up (r3 c m r) := fun x H H' s ⟨dx, o, q, u, h⟩ => ⟨dx, o, q, u, s _ _ h⟩
/-- what was tried and what is right -/
structure Told (c : CA) (H : Hp) (tl gl : Addr) (v8 v6 v9 v10 v11 : V) : Prop where
  good : H gl = some (.lst [.bl (okN v8), .bl (nmV v6), .bl (btw v9 0 64), .bl (okCh v10 v11)])
  told : ∃ p0 p1 p2 p3, H tl = some (.lst [.ref p0, .ref p1, .ref p2, .ref p3]) ∧ TriedAt (okN v8) (r0 c v8) H p0 ∧ TriedAt (nmV v6) (r1 c v6) H p1 ∧ TriedAt (btw v9 0 64) (r2 c v9) H p2 ∧ TriedAt (okCh v10 v11) (r3 c v10 v11) H p3
theorem Told.same {c : CA} {H H' : Hp} {tl gl : Addr} {v8 v6 v9 v10 v11 : V} (s : Same H H') (t : Told c H tl gl v8 v6 v9 v10 v11) : Told c H' tl gl v8 v6 v9 v10 v11 := by
  obtain ⟨g, p0, p1, p2, p3, h, a, b, d, e⟩ := t
  exact ⟨s _ _ g, p0, p1, p2, p3, s _ _ h, a.same up0 s, b.same up1 s, d.same up2 s, e.same up3 s⟩
def mr (b : Bool) : Str := if b = true then "made" else "refused"
theorem mr_lay (b : Bool) : PyData.canLay0 (.str (mr b)) = true := by cases b <;> decide +kernel
theorem mr_at {ok : Bool} {res : Addr → Hp → Prop} {H : Hp} {p : Addr} (t : TriedAt ok res H p) : ∃ y, H p = some (.tup [.str (mr ok), y]) := by
  cases ok with
  | true =>
    obtain ⟨x, h, _⟩ := t.1 rfl
    exact ⟨_, h⟩
  | false => exact ⟨_, t.2 rfl⟩
def mrD (b0 b1 b2 b3 : Bool) : PyData := .list [.str (mr b0), .str (mr b1), .str (mr b2), .str (mr b3)]
theorem mrD_shaped (b0 b1 b2 b3 : Bool) : SeqAt.shaped (mrD b0 b1 b2 b3) = true := by
  cases b0 <;> cases b1 <;> cases b2 <;> cases b3 <;> decide +kernel
theorem mrD_eqv (b0 b1 b2 b3 : Bool) : PyData.eqv (mrD b0 b1 b2 b3) (mrD b0 b1 b2 b3) = true := by
  cases b0 <;> cases b1 <;> cases b2 <;> cases b3 <;> decide +kernel
/-- slot 6 a name? -/
def tIsW : TE := fun σ H Q => ∃ v, σ[6]? = some (some v) ∧ Arg H v ∧ ∀ H', Same H H' → Q (.bl (nmV v)) H'
/-- slot 10 a modulus? -/
def tIsM : TE := fun σ H Q => ∃ v, σ[10]? = some (some v) ∧ Arg H v ∧ ∀ H', Same H H' → Q (.bl (isMd v)) H'
/-- slots 10 and 11 fit -/
def tFit : TE := fun σ H Q => ∃ m r, σ[10]? = some (some m) ∧ σ[11]? = some (some r) ∧ σ[12]? = some (some (.bl (isMd m))) ∧ Arg H r ∧ Q (.bl (okCh m r)) H
def tQ2 (c : CA) : TT := fun σ H Q => ∃ tl gl v8 v6 v9 v10 v11, σ[14]? = some (some (.ref tl)) ∧ σ[13]? = some (some (.ref gl)) ∧ σ[8]? = some (some v8) ∧ σ[6]? = some (some v6) ∧ Told c H tl gl v8 v6 v9 v10 v11 ∧ Q false H
def tQ3 (c : CA) : TT := fun σ H Q => ∃ tl gl v8 v6 v9 v10 v11, σ[14]? = some (some (.ref tl)) ∧ σ[13]? = some (some (.ref gl)) ∧ σ[9]? = some (some v9) ∧ Told c H tl gl v8 v6 v9 v10 v11 ∧ ∀ H', Same H H' → Q false H'
def ChAt (c : CA) (H : Hp) (v10 v11 u : V) : Prop := okCh v10 v11 = true → ∃ x, u = .ref x ∧ r3 c v10 v11 x H
def tCho (c : CA) : TE := fun σ H Q => ∃ tl gl v8 v6 v9 v10 v11, σ[14]? = some (some (.ref tl)) ∧ Told c H tl gl v8 v6 v9 v10 v11 ∧ ∀ u, ChAt c H v10 v11 u → Q u H
def tQ5 (c : CA) : TT := fun σ H Q => ∃ tl gl v8 v6 v9 v10 v11 u, σ[13]? = some (some (.ref gl)) ∧ σ[17]? = some (some u) ∧ σ[10]? = some (some v10) ∧ σ[11]? = some (some v11) ∧ Told c H tl gl v8 v6 v9 v10 v11 ∧ ChAt c H v10 v11 u ∧ ∀ H', Same H H' → Q false H'
def WL (zs : List (List Nat)) (tA : Addr) : List V := stL zs ++ stL zs ++ (keptL.map wd).map V.str ++ [V.str "", V.str "A", V.str "abcdefghi", V.str "a1", V.str "a b", V.str "a\n", V.int 5, V.non, V.ref tA]
theorem WL_len {zs : List (List Nat)} {tA : Addr} (h : zs.length = 4) : (WL zs tA).length = 31 := by
  unfold WL
  have hkl : ((keptL.map wd).map V.str).length = 14 := by decide +kernel
  have hsl : (stL zs).length = 4 := by unfold stL; rw [List.length_map]; exact h
  rw [List.length_append, List.length_append, List.length_append, hsl, hkl]
  rfl
theorem word_arg {H : Hp} {d l tA : Addr} {zs : List (List Nat)} (hz : ∀ z ∈ zs, isNm z = true) (ht : H tA = some (.tup [V.str "a"])) (n1 : tA ≠ d) (n2 : tA ≠ l) {v : V} (hv : v ∈ WL zs tA) : Arg H v ∧ ∀ a, v = .ref a → a ≠ d ∧ a ≠ l := by
  have sc : ∀ {v : V}, scalB v = true → Arg H v ∧ ∀ a, v = .ref a → a ≠ d ∧ a ≠ l := fun h => ⟨scal_arg h, fun a e => absurd e (scal_ref h a)⟩
  have nm : ∀ {v : V}, v ∈ stL zs → Arg H v ∧ ∀ a, v = .ref a → a ≠ d ∧ a ≠ l := by
    intro v hv
    unfold stL at hv
    obtain ⟨z, h, rfl⟩ := List.mem_map.mp hv
    refine sc (decide_eq_true ?_)
    rw [wd_len]
    have := nm_len (hz z h)
    omega
  unfold WL at hv
  rcases List.mem_append.mp hv with h | h
  · rcases List.mem_append.mp h with h | h
    · rcases List.mem_append.mp h with h | h
      · exact nm h
      · exact nm h
    · exact sc (all_in (by decide +kernel) h)
  · rcases List.mem_append.mp (show v ∈ [V.str "", V.str "A", V.str "abcdefghi", V.str "a1", V.str "a b", V.str "a\n", V.int 5, V.non] ++ [V.ref tA] from h) with h | h
    · exact sc (all_in (by decide +kernel) h)
    · obtain rfl := List.mem_singleton.mp h
      exact ⟨.tup ht, fun a e => by cases e; exact ⟨n1, n2⟩⟩
theorem ix_draw {K : PySem.W.Frag} {H : Hp} {L : Addr} {xs : List V} {r : Int} {Q : VK} (h : H L = some (.lst xs)) (h0 : 0 ≤ r) (h1 : r < xs.length) (k : ∀ v ∈ xs, Q v H) : rIxL K (.ref L) (.int r) H Q := by
  obtain ⟨v, hv, e⟩ := atI_in h0 h1
  exact ⟨L, xs, r, v, rfl, rfl, SqL.of h, e, k v hv⟩
end My

set_option Elab.async false
set_option linter.all false
set_option maxRecDepth 100000
set_option maxHeartbeats 0
namespace My
open PySem L2 MyR

open RT
def spLaw (K : PySem.W.Frag) : Sp := fun vs H Q _ => ∃ (a : Addr) (ns : List Int), vs = [.ref a] ∧ SqL K H a (ns.map V.int) ∧ ns.length ≤ 63 ∧ ∀ H', Q (.bl true) H'
section
variable {P : Program} {w : World} {K : PySem.W.Frag} {mg : Str → Option Value} {base : Heap}
abbrev s_law : Stmt := top 48
abbrev N_law : List Str := ["_law_script", "_law_deal_here", "_law_turn", "_law_names", "_law_words_here", "_law_limit", "_law_word", "_law_is_word", "_law_number_here", "_law_times", "_law_modulus", "_law_rest", "_law_is_mod", "_law_good", "_law_told", "_law_found", "_law_fine", "_law_choice"]
theorem sc_law : FnScope N_law ["_law_script"] (defScope s_law) := ⟨rfl, rfl, rfl, by decide +kernel, rfl, by decide +kernel, by decide +kernel⟩
theorem ok_law {f : Addr} {fd : FuncData} (F : Fun K "law" "law" s_law f fd) (T : Glob mg) {c : CA} {cC : Addr} (N : NodesOk P w K mg base c) (A : NoA K c cC) (M : Mks P w K mg base c) (EQ : EqOk P w K mg base c)
    (D_law_deal : Df P w K mg base 1 "_law_deal" ["_law_script", "_law_base"] (spDeal K)) (D_law_draw : Df P w K mg base 1 "_law_draw" ["_law_deal_here", "_law_many"] spDraw)
    (D_law_words : Df P w K mg base 3 "_law_words" ["_law_deal_here", "_law_many"] spWords) (D_law_number : Df P w K mg base 2 "_law_number" ["_law_deal_here"] spNum)
    (D_law_is_name : Df P w K mg base 1 "_law_is_name" ["_law_word"] spIsNm) (D_law_plain : Df P w K mg base 1 "_law_plain" ["_law_value", "_law_least", "_law_most"] spBtw)
    (D_law_tried : Df P w K mg base 5 "_law_tried" ["_law_form", "_law_a", "_law_b", "_law_c"] (spTried2 K c cC)) (D_law_call_right : Df P w K mg base 12 "_law_call_right" ["_law_deal_here", "_law_names", "_law_word", "_law_is_word"] (spCallR K))
    (D_law_pairs_right : Df P w K mg base 12 "_law_pairs_right" ["_law_deal_here", "_law_names"] (spPairs K)) : FnOk P w K mg base CX0 13 f fd ["_law_script"] (spLaw K) := by
  refine F.ok sc_law (fun vs H Q E h => ?_) (fun cdv Ar outer s H vs Q E hr h => ?_)
  · obtain ⟨sA, ns, rfl, _⟩ := h
    rfl
  · obtain ⟨sA, ns, rfl, hS, hlen, k⟩ := h
    have hu := hu_of hr
    have nd := sc_law.nd
    refine ⟨_, (pss_cons (ps_set (i := 1) nd rfl (Or.inl rfl) (pe_call D_law_deal.ok (hr.mono (by decide)) (by rfl) D_law_deal.g D_law_deal.kp D_law_deal.b .nil pass0 (pa_cons (pv 0) (pa_cons pe_int pa_nil))))
    (pss_cons (ps_for PassesOwn.never rfl (pi_range1 (by rfl) T.g_range (pa_cons pe_int pa_nil)) (pg_name (i := 2) nd rfl (Or.inl rfl))
    (pss_cons (ps_set (i := 3) nd rfl (Or.inl rfl) (pe_call D_law_words.ok (hr.mono (by decide)) (by rfl) D_law_words.g D_law_words.kp D_law_words.b .nil pass0 (pa_cons (pv 1) (pa_cons pe_int pa_nil))))
    (pss_cons (ps_set (i := 4) nd rfl (Or.inl rfl) (pe_split pe_str pe_str))
    (pss_cons (ps_set (i := 4) nd rfl (Or.inl rfl) (pe_op op_cat (pe_op op_cat (pe_op op_cat (pv 3) (pv 3)) (pv 4)) (pe_lst (pa_cons pe_str (pa_cons pe_str (pa_cons pe_str (pa_cons pe_str (pa_cons pe_str (pa_cons pe_str (pa_cons pe_int (pa_cons pe_non (pa_cons (pe_tup (pa_cons pe_str pa_nil)) pa_nil))))))))))))
    (pss_cons (ps_par (i := 5) (j := 6) rfl nd rfl rfl (by decide) rfl rfl (pa_cons (pe_op op_shl pe_int pe_int) (pa_cons (pe_ix ix_list (pv 4) (pe_call D_law_draw.ok (hr.mono (by decide)) (by rfl) D_law_draw.g D_law_draw.kp D_law_draw.b .nil pass0 (pa_cons (pv 1) (pa_cons (pe_callB call_len_seq (by rfl) T.g_len PySem.boot_len (pa_cons (pv 4) pa_nil)) pa_nil))) (fun _ _ => rfl)) pa_nil)) (by rfl))
    (pss_cons (ps_set (i := 7) nd rfl (Or.inl rfl) (pe_weak (t' := tIsW) (pe_and (pe_callB call_isi (by rfl) T.g_isinstance (by decide +kernel) (pa_cons (pv 6) (pa_cons (pe_bltn (v := .ty "str") (by rfl) T.g_str (by decide +kernel) rfl) pa_nil))) (pe_one (pe_call D_law_is_name.ok (hr.mono (by decide)) (by rfl) D_law_is_name.g D_law_is_name.kp D_law_is_name.b .nil pass0 (pa_cons (pv 6) pa_nil)))) (by
      rintro σ H Q ⟨v, hv, ha, k⟩
      obtain ⟨ty, ht, e⟩ := isi_str (K := K) ha
      refine ⟨_, hv, _, _, ty, _, bS v, rfl, .ty "str", ht, e, bS v, rfl, ?_⟩
      cases ha with
      | str z hz => exact ⟨_, hv, z, rfl, hz, fun H' sm => k H' sm⟩
      | _ => exact k H (Same.refl _))))
    (pss_cons (ps_set (i := 8) nd rfl (Or.inl rfl) (pe_ix ix_list (pe_lst (pa_cons (pe_call D_law_number.ok (hr.mono (by decide)) (by rfl) D_law_number.g D_law_number.kp D_law_number.b .nil pass0 (pa_cons (pv 1) pa_nil)) (pa_cons (pe_op op_sub (pv 5) pe_int) (pa_cons (pv 5) (pa_cons (pe_op op_sub pe_int (pv 5)) (pa_cons (pe_op op_sub pe_int (pv 5)) (pa_cons pe_bl (pa_cons pe_str (pa_cons pe_non pa_nil))))))))) (pe_call D_law_draw.ok (hr.mono (by decide)) (by rfl) D_law_draw.g D_law_draw.kp D_law_draw.b .nil pass0 (pa_cons (pv 1) (pa_cons pe_int pa_nil))) (fun _ _ => rfl)))
    (pss_cons (ps_set (i := 9) nd rfl (Or.inl rfl) (pe_ix ix_list (pe_lst (pa_cons (pe_call D_law_draw.ok (hr.mono (by decide)) (by rfl) D_law_draw.g D_law_draw.kp D_law_draw.b .nil pass0 (pa_cons (pv 1) (pa_cons pe_int pa_nil))) (pa_cons pe_int (pa_cons pe_int (pa_cons (pe_op op_sub pe_int pe_int) (pa_cons pe_bl (pa_cons pe_non (pa_cons pe_str pa_nil)))))))) (pe_call D_law_draw.ok (hr.mono (by decide)) (by rfl) D_law_draw.g D_law_draw.kp D_law_draw.b .nil pass0 (pa_cons (pv 1) (pa_cons pe_int pa_nil))) (fun _ _ => rfl)))
    (pss_cons (ps_set (i := 10) nd rfl (Or.inl rfl) (pe_ix ix_list (pe_lst (pa_cons pe_int (pa_cons pe_int (pa_cons pe_int (pa_cons pe_int (pa_cons pe_int (pa_cons pe_int (pa_cons pe_int (pa_cons pe_int (pa_cons pe_int (pa_cons pe_int (pa_cons pe_int (pa_cons (pe_op op_sub pe_int pe_int) (pa_cons pe_bl (pa_cons pe_non pa_nil))))))))))))))) (pe_call D_law_draw.ok (hr.mono (by decide)) (by rfl) D_law_draw.g D_law_draw.kp D_law_draw.b .nil pass0 (pa_cons (pv 1) (pa_cons pe_int pa_nil))) (fun _ _ => rfl)))
    (pss_cons (ps_set (i := 11) nd rfl (Or.inl rfl) (pe_ix ix_list (pe_lst (pa_cons pe_int (pa_cons pe_int (pa_cons (pe_call D_law_draw.ok (hr.mono (by decide)) (by rfl) D_law_draw.g D_law_draw.kp D_law_draw.b .nil pass0 (pa_cons (pv 1) (pa_cons pe_int pa_nil))) (pa_cons pe_int (pa_cons pe_int (pa_cons (pe_op op_sub pe_int pe_int) (pa_cons pe_bl (pa_cons pe_non pa_nil))))))))) (pe_call D_law_draw.ok (hr.mono (by decide)) (by rfl) D_law_draw.g D_law_draw.kp D_law_draw.b .nil pass0 (pa_cons (pv 1) (pa_cons pe_int pa_nil))) (fun _ _ => rfl)))
    (pss_cons (ps_set (i := 12) nd rfl (Or.inl rfl) (pe_weak (t' := tIsM) (pe_and (pe_call D_law_plain.ok (hr.mono (by decide)) (by rfl) D_law_plain.g D_law_plain.kp D_law_plain.b .nil pass0 (pa_cons (pv 10) (pa_cons pe_int (pa_cons pe_int pa_nil)))) (pe_one (pe_cmpR op_in_seq (pv 10) (pe_tup (pa_cons pe_int (pa_cons pe_int (pa_cons pe_int (pa_cons pe_int (pa_cons pe_int (pa_cons pe_int pa_nil))))))) (by rfl)))) (by
      rintro σ H Q ⟨v, hv, ha, k⟩
      refine ⟨_, hv, v, 2, 64, rfl, ha, btw v 2 64, rfl, ?_⟩
      cases hb : btw v 2 64 with
      | false =>
        have e : isMd v = false := by
          cases e : isMd v with
          | false => rfl
          | true =>
            obtain ⟨_, _, q⟩ := md_btw e
            rw [hb] at q
            cases q
        have q := k H (Same.refl _)
        rw [e] at q
        exact q
      | true =>
        obtain ⟨i, rfl⟩ : ∃ i, v = .int i := by
          cases v with
          | int i => exact ⟨i, rfl⟩
          | _ => cases hb
        refine ⟨_, hv, (by show 6 ≤ sizeLine; decide), fun t ht => ?_⟩
        refine ⟨t, _, rfl, .inr (SqT.of upd_same), rfl, by decide +kernel, ?_⟩
        have q := k _ (new_same (o := .tup [.int 2, .int 4, .int 8, .int 16, .int 32, .int 64]) ht)
        have e := in_moduli i
        have e2 : isMd (.int i) = inV (.int i) [.int 2, .int 4, .int 8, .int 16, .int 32, .int 64] := e.symm
        rw [e2] at q
        exact q)))
    (pss_cons (ps_set (i := 13) nd rfl (Or.inl rfl) (pe_lst (pa_cons (pe_call D_law_plain.ok (hr.mono (by decide)) (by rfl) D_law_plain.g D_law_plain.kp D_law_plain.b .nil pass0 (pa_cons (pv 8) (pa_cons (pe_op op_sub pe_int (pv 5)) (pa_cons (pe_op op_sub (pv 5) pe_int) pa_nil)))) (pa_cons (pv 7) (pa_cons (pe_call D_law_plain.ok (hr.mono (by decide)) (by rfl) D_law_plain.g D_law_plain.kp D_law_plain.b .nil pass0 (pa_cons (pv 9) (pa_cons pe_int (pa_cons pe_int pa_nil)))) pa_nil)))))
    (pss_cons (ps_set (i := 13) nd rfl (Or.inl rfl) (pe_op op_cat (pv 13) (pe_lst (pa_cons (pe_weak (t' := tFit) (pe_and (pv 12) (pe_one (pe_call D_law_plain.ok (hr.mono (by decide)) (by rfl) D_law_plain.g D_law_plain.kp D_law_plain.b .nil pass0 (pa_cons (pv 11) (pa_cons pe_int (pa_cons (pe_op op_sub (pv 10) pe_int) pa_nil)))))) (by
      rintro σ H Q ⟨m, r, h10, h11, h12, ha, k⟩
      refine ⟨_, h12, isMd m, rfl, ?_⟩
      cases hm : isMd m with
      | false =>
        have e : okCh m r = false := by
          cases m with
          | int i =>
            show (([2, 4, 8, 16, 32, 64] : List Int).contains i && btw r 0 (i - 1)) = false
            rw [show ([2, 4, 8, 16, 32, 64] : List Int).contains i = false from hm, Bool.false_and]
          | _ => rfl
        rw [e] at k
        exact k
      | true =>
        obtain ⟨i, rfl, _⟩ := md_btw hm
        have e : okCh (.int i) r = btw r 0 (i - 1) := by
          show (([2, 4, 8, 16, 32, 64] : List Int).contains i && btw r 0 (i - 1)) = _
          rw [show ([2, 4, 8, 16, 32, 64] : List Int).contains i = true from hm, Bool.true_and]
        rw [e] at k
        exact ⟨_, h11, _, h10, _, _, rfl, rfl, r, 0, i - 1, rfl, ha, k⟩)) pa_nil))))
    (pss_cons (ps_set (i := 14) nd rfl (Or.inl rfl) (pe_lst (pa_cons (pe_call D_law_tried.ok (hr.mono (by decide)) (by rfl) D_law_tried.g D_law_tried.kp D_law_tried.b .nil pass0 (pa_cons pe_int (pa_cons (pv 8) (pa_cons pe_int (pa_cons (pe_tup pa_nil) pa_nil))))) (pa_cons (pe_call D_law_tried.ok (hr.mono (by decide)) (by rfl) D_law_tried.g D_law_tried.kp D_law_tried.b .nil pass0 (pa_cons pe_int (pa_cons (pv 6) (pa_cons pe_int (pa_cons (pe_tup pa_nil) pa_nil))))) (pa_cons (pe_call D_law_tried.ok (hr.mono (by decide)) (by rfl) D_law_tried.g D_law_tried.kp D_law_tried.b .nil pass0 (pa_cons pe_int (pa_cons (pv 9) (pa_cons pe_int (pa_cons (pe_tup pa_nil) pa_nil))))) pa_nil)))))
    (pss_cons (ps_set (i := 14) nd rfl (Or.inl rfl) (pe_op op_cat (pv 14) (pe_lst (pa_cons (pe_call D_law_tried.ok (hr.mono (by decide)) (by rfl) D_law_tried.g D_law_tried.kp D_law_tried.b .nil pass0 (pa_cons pe_int (pa_cons (pv 10) (pa_cons (pv 11) (pa_cons (pe_tup pa_nil) pa_nil))))) pa_nil))))
    (pss_cons (ps_if (pt_cmpR (op_neD hr.units) (pe_lc (own := [("_law_found", 15)]) (g := gName 15) (tt := tYes) rfl nd (pi_list (pv 14)) (blkOk_by (N := N_law) (sc := defScope s_law) (by decide +kernel)) (fun _ _ _ _ _ => pg_name (i := 15) nd rfl (Or.inl rfl)) (fun _ _ _ _ _ => pts_nil) (fun _ _ _ _ _ => (pe_ix (ix_tupN (K := K) rfl) (pv 15) pe_int (fun _ _ => rfl)))) (pe_lc (own := [("_law_fine", 16)]) (g := gName 16) (tt := tYes) rfl nd (pi_list (pv 13)) (blkOk_by (N := N_law) (sc := defScope s_law) (by decide +kernel)) (fun _ _ _ _ _ => pg_name (i := 16) nd rfl (Or.inl rfl)) (fun _ _ _ _ _ => pts_nil) (fun _ _ _ _ _ => (pe_ix (ix_listN (K := K) rfl) (pe_lst (pa_cons pe_str (pa_cons pe_str pa_nil))) (pe_callTy call_int1 (by rfl) T.g_int (by decide +kernel) (pa_cons (pv 16) pa_nil)) (fun _ _ => rfl)))) (nomark _))
    (pss_one (ps_ret pe_bl))
    pss_nil)
    (pss_cons (ps_if (pt_weak (t' := tQ2 c) (PW.pt (pw_or (PW.pt (pw_and (pt_val (pe_ix ix_list (pv 13) pe_int (fun _ _ => rfl))) (pw_and1 (pt_cmpR op_ne (pe_fld (pe_ix ix_tup (pe_ix ix_list (pv 14) pe_int (fun _ _ => rfl)) pe_int (fun _ _ => rfl)) rfl) (pv 8) (nomark _))))) (pw_or1 (PW.pt (pw_and (pt_val (pe_ix ix_list (pv 13) pe_int (fun _ _ => rfl))) (pw_and1 (pt_cmpR op_ne (pe_fld (pe_ix ix_tup (pe_ix ix_list (pv 14) pe_int (fun _ _ => rfl)) pe_int (fun _ _ => rfl)) rfl) (pv 6) (nomark _)))))))) (by
      rintro σ H Q ⟨tl, gl, v8, v6, v9, v10, v11, h14, h13, h8, h6, ⟨g, p0, p1, p2, p3, ht, a0, a1, a2, a3⟩, k⟩
      refine ⟨_, h13, gl, _, 0, _, rfl, rfl, SqL.of g, atI_nat (j := 0) rfl, okN v8, rfl, ?_⟩
      cases hN : okN v8 with
      | false =>
        refine ⟨_, h13, gl, _, 1, _, rfl, rfl, SqL.of g, atI_nat (j := 1) rfl, nmV v6, rfl, ?_⟩
        cases hM : nmV v6 with
        | false => exact k
        | true =>
          obtain ⟨z, rfl⟩ : ∃ z, v6 = .str z := by
            cases v6 with
            | str z => exact ⟨z, rfl⟩
            | _ => cases hM
          obtain ⟨x, hx, dx, hi⟩ := a1.1 hM
          refine ⟨_, h14, tl, _, 1, _, rfl, rfl, SqL.of ht, atI_nat (j := 1) rfl, p1, _, 1, _, rfl, rfl, SqT.of hx, atI_nat (j := 1) rfl, x, c.nam, dx, _, _, rfl, hi, N.cl (.nam []), A.nam_name, lk_eq, _, h6, rfl, _, rfl, ?_⟩
          rw [decide_eq_true rfl]
          exact k
      | true =>
        obtain ⟨i, rfl⟩ : ∃ i, v8 = .int i := by
          cases v8 with
          | int i => exact ⟨i, rfl⟩
          | _ => cases hN
        obtain ⟨x, hx, dx, hi⟩ := a0.1 hN
        refine ⟨_, h14, tl, _, 0, _, rfl, rfl, SqL.of ht, atI_nat (j := 0) rfl, p0, _, 1, _, rfl, rfl, SqT.of hx, atI_nat (j := 1) rfl, x, c.num, dx, _, _, rfl, hi, N.cl (.num 0), A.num_value, lk_eq, _, h8, rfl, _, rfl, ?_⟩
        rw [decide_eq_true rfl]
        refine ⟨_, h13, gl, _, 1, _, rfl, rfl, SqL.of g, atI_nat (j := 1) rfl, nmV v6, rfl, ?_⟩
        cases hM : nmV v6 with
        | false => exact k
        | true =>
          obtain ⟨z, rfl⟩ : ∃ z, v6 = .str z := by
            cases v6 with
            | str z => exact ⟨z, rfl⟩
            | _ => cases hM
          obtain ⟨x, hx, dx, hi⟩ := a1.1 hM
          refine ⟨_, h14, tl, _, 1, _, rfl, rfl, SqL.of ht, atI_nat (j := 1) rfl, p1, _, 1, _, rfl, rfl, SqT.of hx, atI_nat (j := 1) rfl, x, c.nam, dx, _, _, rfl, hi, N.cl (.nam []), A.nam_name, lk_eq, _, h6, rfl, _, rfl, ?_⟩
          rw [decide_eq_true rfl]
          exact k))
    (pss_one (ps_ret pe_bl))
    pss_nil)
    (pss_cons (ps_if (pt_weak (t' := tQ3 c) (PW.pt (pw_and (pt_val (pe_ix ix_list (pv 13) pe_int (fun _ _ => rfl))) (pw_and1 (PW.pt (pw_or (pt_cmpR op_ne (pe_fld (pe_ix ix_tup (pe_ix ix_list (pv 14) pe_int (fun _ _ => rfl)) pe_int (fun _ _ => rfl)) rfl) (pv 9) (nomark _)) (pw_or1 (pt_cmpR (op_neM EQ rfl rfl rfl rfl rfl (hr.mono (by decide))) (pe_fld (pe_ix ix_tup (pe_ix ix_list (pv 14) pe_int (fun _ _ => rfl)) pe_int (fun _ _ => rfl)) rfl) (pe_make M.num.m M.num.ok (hr.mono (by decide)) (by rfl) M.num.g M.num.b .nil pass0 (pa_cons pe_int pa_nil)) (nomark _)))))))) (by
      rintro σ H Q ⟨tl, gl, v8, v6, v9, v10, v11, h14, h13, h9, ⟨g, p0, p1, p2, p3, ht, a0, a1, a2, a3⟩, k⟩
      refine ⟨_, h13, gl, _, 2, _, rfl, rfl, SqL.of g, atI_nat (j := 2) rfl, btw v9 0 64, rfl, ?_⟩
      cases hN : btw v9 0 64 with
      | false => exact k H (Same.refl _)
      | true =>
        obtain ⟨i, rfl⟩ : ∃ i, v9 = .int i := by
          cases v9 with
          | int i => exact ⟨i, rfl⟩
          | _ => cases hN
        obtain ⟨x, hx, dx, o, hi, hno⟩ := a2.1 hN
        refine ⟨_, h14, tl, _, 2, _, rfl, rfl, SqL.of ht, atI_nat (j := 2) rfl, p2, _, 1, _, rfl, rfl, SqT.of hx, atI_nat (j := 1) rfl, x, c.pow, dx, _, _, rfl, hi, N.cl (.pow (.num 0) 0), A.pow_times, (lk_ne (by decide +kernel)).trans lk_eq, _, h9, rfl, _, rfl, ?_⟩
        rw [decide_eq_true rfl]
        refine ⟨_, h14, tl, _, 2, _, rfl, rfl, SqL.of ht, atI_nat (j := 2) rfl, p2, _, 1, _, rfl, rfl, SqT.of hx, atI_nat (j := 1) rfl, x, c.pow, dx, _, _, rfl, hi, N.cl (.pow (.num 0) 0), A.pow_base, lk_eq, ?_⟩
        refine fun y dy hy hz _ => ⟨y, dy, [.int 1], rfl, rfl, upd_same, ⟨_, rfl, .int 1⟩, by decide +kernel, fun J1 J2 sm ini => ⟨rfl, ?_⟩⟩
        obtain ⟨t1, g1⟩ := mk_done hy hz sm ini
        exact ⟨⟨o, y, .num 1, rfl, rfl, hno.same t1, ⟨dy, g1⟩, by show (-18446744073709551616 : Int) < 1 ∧ (1 : Int) < 18446744073709551616; decide, by show 0 ≤ 6; decide⟩, fun H' sm' => ⟨false, rfl, k H' (t1.trans sm')⟩⟩))
    (pss_one (ps_ret pe_bl))
    pss_nil)
    (pss_cons (ps_set (i := 17) nd rfl (Or.inl rfl) (pe_weak (t' := tCho c) (pe_ix ix_tup (pe_ix ix_list (pv 14) pe_int (fun _ _ => rfl)) pe_int (fun _ _ => rfl)) (by
      rintro σ H Q ⟨tl, gl, v8, v6, v9, v10, v11, h14, ⟨g, p0, p1, p2, p3, ht, a0, a1, a2, a3⟩, k⟩
      cases hb : okCh v10 v11 with
      | true =>
        obtain ⟨x, hx, hr3⟩ := a3.1 hb
        exact ⟨_, h14, tl, _, 3, _, rfl, rfl, SqL.of ht, atI_nat (j := 3) rfl, p3, _, 1, _, rfl, rfl, SqT.of hx, atI_nat (j := 1) rfl, k _ fun _ => ⟨x, rfl, hr3⟩⟩
      | false =>
        have hx := a3.2 hb
        exact ⟨_, h14, tl, _, 3, _, rfl, rfl, SqL.of ht, atI_nat (j := 3) rfl, p3, _, 1, _, rfl, rfl, SqT.of hx, atI_nat (j := 1) rfl, k _ fun h => absurd (hb.symm.trans h) (by simp)⟩)))
    (pss_cons (ps_if (pt_weak (t' := tQ5 c) (PW.pt (pw_and (pt_val (pe_ix ix_list (pv 13) pe_int (fun _ _ => rfl))) (pw_and1 (pt_cmpR (op_neD hr.units) (pe_tup (pa_cons (pe_fld (pv 17) rfl) (pa_cons (pe_fld (pv 17) rfl) pa_nil))) (pe_tup (pa_cons (pv 10) (pa_cons (pv 11) pa_nil))) (nomark _))))) (by
      rintro σ H Q ⟨tl, gl, v8, v6, v9, v10, v11, u, h13, h17, h10, h11, ⟨g, p0, p1, p2, p3, ht, a0, a1, a2, a3⟩, hu5, k⟩
      refine ⟨_, h13, gl, _, 3, _, rfl, rfl, SqL.of g, atI_nat (j := 3) rfl, okCh v10 v11, rfl, ?_⟩
      cases hb : okCh v10 v11 with
      | false => exact k H (Same.refl _)
      | true =>
        obtain ⟨x, rfl, dx, o, q, w, hi⟩ := hu5 hb
        obtain ⟨i, j, rfl, rfl⟩ : ∃ i j, v10 = .int i ∧ v11 = .int j := by
          cases v10 with
          | int i =>
            cases v11 with
            | int j => exact ⟨i, j, rfl, rfl⟩
            | _ =>
              have := hb
              unfold okCh at this
              simp only [btw, Bool.and_false] at this
              cases this
          | _ => cases hb
        refine ⟨_, h17, x, c.cho, dx, _, _, rfl, hi, N.cl (.cho (.num 0) 0 0 (.num 0) (.num 0)), A.cho_modulus, (lk_ne (by decide +kernel)).trans lk_eq, ?_⟩
        refine ⟨_, h17, x, c.cho, dx, _, _, rfl, hi, N.cl (.cho (.num 0) 0 0 (.num 0) (.num 0)), A.cho_rest, (lk_ne (by decide +kernel)).trans ((lk_ne (by decide +kernel)).trans lk_eq), ?_⟩
        refine ⟨(by show 2 ≤ sizeLine; decide), fun t ht => ?_⟩
        refine ⟨_, h10, _, h11, (by show 2 ≤ sizeLine; decide), fun t2 ht2 => ?_⟩
        have s1 := new_same (o := .tup [.int i, .int j]) ht
        have s2 := new_same (o := .tup [.int i, .int j]) ht2
        refine ⟨.tuple [.int i, .int j], .tuple [.int i, .int j], .tup (SqT.of (s2 _ _ upd_same)) (.cons (.int _) (.cons (.int _) .nil)), .tup (SqT.of upd_same) (.cons (.int _) (.cons (.int _) .nil)), rfl, rfl, ?_⟩
        rw [SeqAt.eqv_refl _ (show PyData.canLay0 (.tuple [.int i, .int j]) = true from rfl)]
        exact ⟨false, rfl, k _ (s1.trans s2)⟩))
    (pss_one (ps_ret pe_bl))
    pss_nil)
    (pss_one (ps_if (pt_not (pt_val (pe_call D_law_call_right.ok (hr.mono (by decide)) (by rfl) D_law_call_right.g D_law_call_right.kp D_law_call_right.b .nil pass0 (pa_cons (pv 1) (pa_cons (pv 3) (pa_cons (pv 6) (pa_cons (pv 7) pa_nil)))))))
    (pss_one (ps_ret pe_bl))
    pss_nil))))))))))))))))))))))
    (pss_one (ps_ret (pe_call D_law_pairs_right.ok (hr.mono (by decide)) (by rfl) D_law_pairs_right.g D_law_pairs_right.kp D_law_pairs_right.b .nil pass0 (pa_cons (pv 1) (pa_cons (pv 3) pa_nil))))))), ?_⟩
    refine ⟨_, rfl, sA, ns, rfl, hS, hlen, fun d l H1 _ _ _ D1 => ?_⟩
    refine ⟨8, rfl, by decide, by decide, ?_⟩
    refine for_range (lo := 0) (n := 8) (fun i σ H2 => ∃ (a2 a3 a4 a5 a6 a7 a8 a9 a10 a11 a12 a13 a14 a15 a16 a17 : Option V), σ = [some (.ref sA), some (.ref d), a2, a3, a4, a5, a6, a7, a8, a9, a10, a11, a12, a13, a14, a15, a16, a17] ∧ Deal H2 d l ∧ (0 < i → ∃ (na : Addr) (zs : List (List Nat)), a3 = some (.ref na) ∧ SqL K H2 na (stL zs) ∧ na ≠ d ∧ na ≠ l ∧ zs ≠ [] ∧ zs.length ≤ 64 ∧ ∀ z ∈ zs, isNm z = true))
      ⟨_, _, _, _, _, _, _, _, _, _, _, _, _, _, _, _, rfl, D1, fun h => absurd h (Nat.lt_irrefl _)⟩ ?_ ?_
    · rintro i σ H2 hi ⟨a2, a3, a4, a5, a6, a7, a8, a9, a10, a11, a12, a13, a14, a15, a16, a17, rfl, D2, _⟩
      -- the names
      refine ⟨_, rfl, d, l, 4, rfl, D2, by decide, by decide, fun na zs H3 hna0 hzl hzn D3 kp3 hna => ?_⟩
      obtain ⟨nad, nal⟩ := D2.free hna0
      have hz64 : zs.length ≤ 64 := by omega
      have hzne : zs ≠ [] := by intro e; rw [e] at hzl; cases hzl
      -- the words
      refine ⟨⟨_, rfl⟩, keptT, " ", rfl, rfl, by decide +kernel, kept_len, fun p hp => ?_⟩
      rw [kept_split]
      have s1 := new_same (o := .lst ((keptL.map wd).map V.str)) hp
      have hsl : (stL zs).length = 4 := by unfold stL; rw [List.length_map]; exact hzl
      have hkl : ((keptL.map wd).map V.str).length = 14 := by decide +kernel
      refine ⟨_, rfl, _, rfl, na, na, _, _, rfl, rfl, s1 _ _ hna, s1 _ _ hna, by rw [hsl]; decide, fun p1 hp1 => ?_⟩
      have s2 := new_same (o := .lst (stL zs ++ stL zs)) hp1
      refine ⟨_, rfl, p1, p, _, _, rfl, rfl, upd_same, s2 _ _ upd_same, by rw [List.length_append, hsl, hkl]; decide, fun p2 hp2 => ?_⟩
      have s3 := new_same (o := .lst (stL zs ++ stL zs ++ (keptL.map wd).map V.str)) hp2
      refine ⟨(by show 1 ≤ sizeLine; decide), fun tA htA => ?_⟩
      have s4 := new_same (o := .tup [V.str "a"]) htA
      refine ⟨(by show 9 ≤ sizeLine; decide), fun L1 hL1 => ?_⟩
      have s5 := new_same (o := .lst [V.str "", V.str "A", V.str "abcdefghi", V.str "a1", V.str "a b", V.str "a\n", V.int 5, V.non, V.ref tA]) hL1
      refine ⟨p2, L1, _, _, rfl, rfl, (s4.trans s5) _ _ upd_same, upd_same, by rw [List.length_append, List.length_append, hsl, hkl]; exact Nat.le_of_lt (sz (by show 4 + 4 + 14 + 9 ≤ 200000; decide)), fun p3 hp3 => ?_⟩
      have s6 := new_same (o := .lst (WL zs tA)) hp3
      have sB1 := s1.trans (s2.trans (s3.trans (s4.trans s5)))
      obtain ⟨m31, m32⟩ := (D3.same sB1).free hp3
      have D4 := (D3.same sB1).same s6
      have hna4 := (sB1.trans s6) _ _ hna
      have htA4 := (s5.trans s6) tA (.tup [V.str "a"]) upd_same
      obtain ⟨nAd, nAl⟩ := D4.tup htA4
      refine ⟨1, 64, rfl, rfl, ⟨by decide, by decide, by decide⟩, ?_⟩
      refine ⟨_, rfl, _, rfl, _, rfl, p3, WL zs tA, rfl, .inl (SqL.of upd_same), d, l, _, rfl, D4, by rw [WL_len hzl]; decide, by rw [WL_len hzl]; decide, fun r5 H5 r50 r51 D5 kp5 => ?_⟩
      refine ix_draw (xs := WL zs tA) (kp5 _ _ upd_same m31 m32) r50 r51 (fun v6 hv6 => ?_)
      have hna5 := kp5 _ _ hna4 nad nal
      have htA5 := kp5 _ _ htA4 nAd nAl
      obtain ⟨ha6, hr6⟩ := word_arg hzn htA5 nAd nAl hv6
      refine ⟨V.int 18446744073709551616, v6, by show [V.int (1 * 2 ^ (64 : Int).toNat), v6] = _; rw [show ((1 : Int) * 2 ^ (64 : Int).toNat) = 18446744073709551616 from by decide +kernel], ?_⟩
      refine ⟨v6, rfl, ha6, fun H6 q6 => ?_⟩
      have D6 := D5.same q6
      have hna6 := q6 _ _ hna5
      have ha6 := ha6.same q6
      clear s1 s2 s3 s4 s5 s6 sB1 D4 hna4 htA4 kp5 hna5 htA5 D5 q6
      -- a number
      dsimp only [List.set_cons_succ, List.set_cons_zero]
      refine ⟨_, rfl, d, l, rfl, D6, fun z H7 z0 z1 D7 kp7 => ?_⟩
      refine ⟨_, rfl, _, _, rfl, rfl, _, rfl, _, rfl, _, _, rfl, rfl, _, rfl, _, _, rfl, rfl, (by show 8 ≤ sizeLine; decide), fun L8 hL8 => ?_⟩
      obtain ⟨m81, m82⟩ := D7.free hL8
      refine ⟨_, rfl, d, l, 8, rfl, D7.new hL8, by decide, by decide, fun r8 H8 r80 r81 D8 kp8 => ?_⟩
      refine ix_draw (kp8 _ _ upd_same m81 m82) r80 r81 (fun v8 hv8 => ?_)
      have sc8 : scalB v8 = true := all_in (by rfl) hv8
      have kpA : Kept d l H6 H8 := kp7.trans ((Kept.of (new_same hL8)).trans kp8)
      have hna8 := kpA _ _ hna6 nad nal
      have ha8 := ha6.kept kpA hr6
      clear kpA kp7 kp8 hna6 ha6 D6 D7 hv8
      -- times
      dsimp only [List.set_cons_succ, List.set_cons_zero]
      refine ⟨_, rfl, d, l, 65, rfl, D8, by decide, by decide, fun y9 H9 y90 y91 D9 kp9 => ?_⟩
      refine ⟨_, _, rfl, rfl, (by show 7 ≤ sizeLine; decide), fun L9 hL9 => ?_⟩
      obtain ⟨m91, m92⟩ := D9.free hL9
      refine ⟨_, rfl, d, l, 7, rfl, D9.new hL9, by decide, by decide, fun r9 H10 r90 r91 D10 kp10 => ?_⟩
      refine ix_draw (kp10 _ _ upd_same m91 m92) r90 r91 (fun v9 hv9 => ?_)
      have sc9 : scalB v9 = true := all_in (by rfl) hv9
      have kpB : Kept d l H8 H10 := kp9.trans ((Kept.of (new_same hL9)).trans kp10)
      have hna10 := kpB _ _ hna8 nad nal
      have ha10 := ha8.kept kpB hr6
      clear kpB kp9 kp10 hna8 ha8 D8 D9 hv9
      -- a modulus
      dsimp only [List.set_cons_succ, List.set_cons_zero]
      refine ⟨_, _, rfl, rfl, (by show 14 ≤ sizeLine; decide), fun La hLa => ?_⟩
      obtain ⟨ma1, ma2⟩ := D10.free hLa
      refine ⟨_, rfl, d, l, 14, rfl, D10.new hLa, by decide, by decide, fun ra Ha ra0 ra1 Da kpa => ?_⟩
      refine ix_draw (kpa _ _ upd_same ma1 ma2) ra0 ra1 (fun v10 hv10 => ?_)
      have sc10 : scalB v10 = true := all_in (by rfl) hv10
      have kpC : Kept d l H10 Ha := (Kept.of (new_same hLa)).trans kpa
      have hnaa := kpC _ _ hna10 nad nal
      have haa := ha10.kept kpC hr6
      clear kpC kpa hna10 ha10 D10 hv10
      -- a rest
      dsimp only [List.set_cons_succ, List.set_cons_zero]
      refine ⟨_, rfl, d, l, 70, rfl, Da, by decide, by decide, fun yb Hb yb0 yb1 Db kpb => ?_⟩
      refine ⟨_, _, rfl, rfl, (by show 8 ≤ sizeLine; decide), fun Lb hLb => ?_⟩
      obtain ⟨mb1, mb2⟩ := Db.free hLb
      refine ⟨_, rfl, d, l, 8, rfl, Db.new hLb, by decide, by decide, fun rb Hc rb0 rb1 Dc kpc => ?_⟩
      refine ix_draw (kpc _ _ upd_same mb1 mb2) rb0 rb1 (fun v11 hv11 => ?_)
      have sc11 : scalB v11 = true := all_in (by rfl) hv11
      have kpD : Kept d l Ha Hc := kpb.trans ((Kept.of (new_same hLb)).trans kpc)
      have hnac := kpD _ _ hnaa nad nal
      have hac := haa.kept kpD hr6
      clear kpD kpb kpc hnaa haa Da Db hv11
      refine ⟨v10, rfl, scal_arg sc10, fun Hd qd => ?_⟩
      -- what is right
      dsimp only [List.set_cons_succ, List.set_cons_zero]
      refine ⟨_, rfl, _, rfl, _, _, rfl, rfl, _, rfl, _, _, rfl, rfl, v8, -18446744073709551615, 18446744073709551615, rfl, scal_arg sc8, ?_⟩
      refine ⟨_, rfl, _, rfl, v9, 0, 64, rfl, scal_arg sc9, ?_⟩
      refine ⟨(by show 3 ≤ sizeLine; decide), fun g1 hg1 => ?_⟩
      have t1 := new_same (o := .lst [V.bl (btw v8 (-18446744073709551615) 18446744073709551615), V.bl (nmV v6), V.bl (btw v9 0 64)]) hg1
      dsimp only [List.set_cons_succ, List.set_cons_zero]
      refine ⟨_, rfl, v10, v11, rfl, rfl, rfl, scal_arg sc11, ?_⟩
      refine ⟨(by show 1 ≤ sizeLine; decide), fun g2 hg2 => ?_⟩
      have t2 := new_same (o := .lst [V.bl (okCh v10 v11)]) hg2
      refine ⟨g1, g2, _, _, rfl, rfl, t2 _ _ upd_same, upd_same, by show 3 + 1 ≤ sizeLine; decide, fun gl hgl => ?_⟩
      have t3 := new_same (o := .lst ([V.bl (btw v8 (-18446744073709551615) 18446744073709551615), V.bl (nmV v6), V.bl (btw v9 0 64)] ++ [V.bl (okCh v10 v11)])) hgl
      have tA3 := qd.trans (t1.trans (t2.trans t3))
      have De := Dc.same tA3
      have hnae := tA3 _ _ hnac
      have hae := hac.same tA3
      have hge : (upd _ gl (.lst ([V.bl (btw v8 (-18446744073709551615) 18446744073709551615), V.bl (nmV v6), V.bl (btw v9 0 64)] ++ [V.bl (okCh v10 v11)]))) gl = some (.lst [.bl (okN v8), .bl (nmV v6), .bl (btw v9 0 64), .bl (okCh v10 v11)]) := upd_same (H := upd (upd Hd g1 (.lst [V.bl (btw v8 (-18446744073709551615) 18446744073709551615), V.bl (nmV v6), V.bl (btw v9 0 64)])) g2 (.lst [V.bl (okCh v10 v11)]))
      generalize upd (upd (upd Hd g1 (.lst [V.bl (btw v8 (-18446744073709551615) 18446744073709551615), V.bl (nmV v6), V.bl (btw v9 0 64)])) g2 (.lst [V.bl (okCh v10 v11)])) gl (.lst ([V.bl (btw v8 (-18446744073709551615) 18446744073709551615), V.bl (nmV v6), V.bl (btw v9 0 64)] ++ [V.bl (okCh v10 v11)])) = He at De hnae hae hge ⊢
      clear t1 t2 t3 tA3 hnac hac Dc
      -- what is tried
      dsimp only [List.set_cons_succ, List.set_cons_zero]
      refine ⟨_, rfl, (by show 0 ≤ sizeLine; decide), fun e0 he0 => ?_⟩
      have u0 := new_same (o := .tup []) he0
      refine ⟨0, v8, .int 0, .ref e0, _, _, rfl, .n0 (scal_arg sc8), fun p0 I0 i0 tr0 => ?_⟩
      refine ⟨_, rfl, (by show 0 ≤ sizeLine; decide), fun e1 he1 => ?_⟩
      have u1 := new_same (o := .tup []) he1
      have uA := u0.trans (i0.trans u1)
      refine ⟨1, v6, .int 0, .ref e1, _, _, rfl, .n1 (hae.same uA), fun p1 I1 i1 tr1 => ?_⟩
      refine ⟨_, rfl, (by show 0 ≤ sizeLine; decide), fun e2 he2 => ?_⟩
      have u2 := new_same (o := .tup []) he2
      refine ⟨2, v9, .int 0, .ref e2, _, _, rfl, .n2 (scal_arg sc9), fun p2 I2 i2 tr2 => ?_⟩
      refine ⟨(by show 3 ≤ sizeLine; decide), fun l1 hl1 => ?_⟩
      have u3 := new_same (o := .lst [V.ref p0, V.ref p1, V.ref p2]) hl1
      dsimp only [List.set_cons_succ, List.set_cons_zero]
      refine ⟨_, rfl, _, rfl, _, rfl, (by show 0 ≤ sizeLine; decide), fun e3 he3 => ?_⟩
      have u4 := new_same (o := .tup []) he3
      refine ⟨3, v10, v11, .ref e3, _, _, rfl, .n3 (scal_arg sc10) (scal_arg sc11), fun p3 I3 i3 tr3 => ?_⟩
      refine ⟨(by show 1 ≤ sizeLine; decide), fun l2 hl2 => ?_⟩
      have u5 := new_same (o := .lst [V.ref p3]) hl2
      refine ⟨l1, l2, _, _, rfl, rfl, (u4.trans (i3.trans u5)) _ _ upd_same, upd_same, by show 3 + 1 ≤ sizeLine; decide, fun tl htl => ?_⟩
      have u6 := new_same (o := .lst ([V.ref p0, V.ref p1, V.ref p2] ++ [V.ref p3])) htl
      have w3 := u5.trans u6
      have w2 := u3.trans (u4.trans (i3.trans w3))
      have w1 := u2.trans (i2.trans w2)
      have w0 := u1.trans (i1.trans w1)
      have wA := u0.trans (i0.trans w0)
      have hTl : (upd (upd I3 l2 (.lst [V.ref p3])) tl (.lst ([V.ref p0, V.ref p1, V.ref p2] ++ [V.ref p3]))) tl = some (.lst [V.ref p0, V.ref p1, V.ref p2, V.ref p3]) := upd_same
      have k0 := tr0.same up0 w0
      have k1 := tr1.same up1 w1
      have k2 := tr2.same up2 w2
      have k3 := tr3.same up3 w3
      have hgT := wA _ _ hge
      have DT := De.same wA
      have hnaT := wA _ _ hnae
      have haT := hae.same wA
      clear w0 w1 w2 w3 wA u6 u5 u4 u3 u2 u1 u0 uA i0 i1 i2 i3 tr0 tr1 tr2 tr3 hge De hnae hae
      generalize upd (upd I3 l2 (.lst [V.ref p3])) tl (.lst ([V.ref p0, V.ref p1, V.ref p2] ++ [V.ref p3])) = HT at hTl k0 k1 k2 k3 hgT DT hnaT haT ⊢
      have TD : Told c HT tl gl v8 v6 v9 v10 v11 := ⟨hgT, p0, p1, p2, p3, hTl, k0, k1, k2, k3⟩
      -- made or refused
      dsimp only [List.set_cons_succ, List.set_cons_zero]
      refine ⟨_, rfl, tl, rfl, ⟨_, SqL.of hTl⟩, fun Dm hDm => ?_⟩
      refine lc_list (K := K) (a := tl) (xs := [V.ref p0, V.ref p1, V.ref p2, V.ref p3]) (fun i H1 => Same HT H1 ∧ H1 Dm = some (.lst ([V.str (mr (okN v8)), V.str (mr (nmV v6)), V.str (mr (btw v9 0 64)), V.str (mr (okCh v10 v11))].take i)))
        ⟨new_same hDm, upd_same⟩ (fun i H1 _ ⟨sm, _⟩ => SqL.of (sm _ _ hTl)) ?_ ?_
      · rintro j x H1 hx ⟨sm, h1⟩
        have fd4 : ∃ (q : Addr) (b : Bool) (y : V), x = .ref q ∧ HT q = some (.tup [.str (mr b), y]) ∧ [V.str (mr (okN v8)), V.str (mr (nmV v6)), V.str (mr (btw v9 0 64)), V.str (mr (okCh v10 v11))][j]? = some (.str (mr b)) := by
          match j, hx with
          | 0, hx => obtain ⟨y, e⟩ := mr_at k0; exact ⟨p0, _, y, (Option.some.inj hx).symm, e, rfl⟩
          | 1, hx => obtain ⟨y, e⟩ := mr_at k1; exact ⟨p1, _, y, (Option.some.inj hx).symm, e, rfl⟩
          | 2, hx => obtain ⟨y, e⟩ := mr_at k2; exact ⟨p2, _, y, (Option.some.inj hx).symm, e, rfl⟩
          | 3, hx => obtain ⟨y, e⟩ := mr_at k3; exact ⟨p3, _, y, (Option.some.inj hx).symm, e, rfl⟩
          | n + 4, hx => simp at hx
        obtain ⟨q, b, y, rfl, hq, hb⟩ := fd4
        refine ⟨rfl, ?_⟩
        refine ⟨_, rfl, q, _, 0, _, rfl, rfl, SqT.of (sm _ _ hq), atI_nat (j := 0) rfl, ?_⟩
        refine ⟨_, h1, sz (by rw [List.length_take]; exact Nat.le_trans (Nat.min_le_right _ _) (by show 4 ≤ 200000; decide)), fun a o e => ?_, ?_⟩
        · rw [upd_ne (ne_of_none e hDm)]
          exact sm _ _ e
        · rw [upd_same, List.take_add_one, hb]
          rfl
      rintro H1 ⟨sm1, h1⟩
      have h1' : H1 Dm = some (.lst [V.str (mr (okN v8)), V.str (mr (nmV v6)), V.str (mr (btw v9 0 64)), V.str (mr (okCh v10 v11))]) := h1
      have hg1 := sm1 _ _ hgT
      refine ⟨_, rfl, gl, rfl, ⟨_, SqL.of hg1⟩, fun Dg hDg => ?_⟩
      have nmg : Dm ≠ Dg := ne_of_none h1' hDg
      refine lc_list (K := K) (a := gl) (xs := [V.bl (okN v8), V.bl (nmV v6), V.bl (btw v9 0 64), V.bl (okCh v10 v11)]) (fun i H2 => Same H1 H2 ∧ H2 Dg = some (.lst ([V.str (mr (okN v8)), V.str (mr (nmV v6)), V.str (mr (btw v9 0 64)), V.str (mr (okCh v10 v11))].take i)))
        ⟨new_same hDg, upd_same⟩ (fun i H2 _ ⟨sm, _⟩ => SqL.of (sm _ _ hg1)) ?_ ?_
      · rintro j x H2 hx ⟨sm, h2⟩
        have fd4 : ∃ (b : Bool), x = .bl b ∧ [V.str (mr (okN v8)), V.str (mr (nmV v6)), V.str (mr (btw v9 0 64)), V.str (mr (okCh v10 v11))][j]? = some (.str (mr b)) := by
          match j, hx with
          | 0, hx => exact ⟨_, (Option.some.inj hx).symm, rfl⟩
          | 1, hx => exact ⟨_, (Option.some.inj hx).symm, rfl⟩
          | 2, hx => exact ⟨_, (Option.some.inj hx).symm, rfl⟩
          | 3, hx => exact ⟨_, (Option.some.inj hx).symm, rfl⟩
          | n + 4, hx => simp at hx
        obtain ⟨b, rfl, hb⟩ := fd4
        refine ⟨rfl, ?_⟩
        refine ⟨(by show 2 ≤ sizeLine; decide), fun L hL => ?_⟩
        have hat : atI [V.str "refused", V.str "made"] (if b = true then 1 else 0) = some (V.str (mr b)) := by
          cases b with
          | true => exact atI_nat (j := 1) rfl
          | false => exact atI_nat (j := 0) rfl
        refine ⟨_, rfl, .inr ⟨b, rfl, ?_⟩⟩
        refine ⟨L, _, _, _, rfl, rfl, SqL.of upd_same, hat, ?_⟩
        have sL := new_same (o := .lst [V.str "refused", V.str "made"]) hL
        refine ⟨_, sL _ _ h2, sz (by rw [List.length_take]; exact Nat.le_trans (Nat.min_le_right _ _) (by show 4 ≤ 200000; decide)), fun a o e => ?_, ?_⟩
        · rw [upd_ne (ne_of_none e hDg)]
          exact sL _ _ (sm _ _ e)
        · rw [upd_same, List.take_add_one, hb]
          rfl
      rintro H2 ⟨sm2, h2⟩
      have h2' : H2 Dg = some (.lst [V.str (mr (okN v8)), V.str (mr (nmV v6)), V.str (mr (btw v9 0 64)), V.str (mr (okCh v10 v11))]) := h2
      refine ⟨mrD _ _ _ _, mrD _ _ _ _, .lst (SqL.of (sm2 _ _ h1')) (.cons (.str _) (.cons (.str _) (.cons (.str _) (.cons (.str _) .nil)))), .lst (SqL.of h2') (.cons (.str _) (.cons (.str _) (.cons (.str _) (.cons (.str _) .nil)))), mrD_shaped _ _ _ _, mrD_shaped _ _ _ _, ?_⟩
      rw [mrD_eqv]
      refine ⟨_, rfl, ?_⟩
      refine ite2 (fun hz => absurd hz (by decide)) (fun _ => ?_)
      have smS := sm1.trans sm2
      dsimp only [List.set_cons_succ, List.set_cons_zero]
      have TD2 := TD.same smS
      refine ⟨tl, gl, v8, v6, v9, v10, v11, rfl, rfl, rfl, rfl, TD2, ?_⟩
      refine ite2 (fun hz => absurd hz (by decide)) (fun _ => ?_)
      refine ⟨tl, gl, v8, v6, v9, v10, v11, rfl, rfl, rfl, TD2, fun H5 sm5 => ?_⟩
      refine ite2 (fun hz => absurd hz (by decide)) (fun _ => ?_)
      have TD5 := TD2.same sm5
      refine ⟨tl, gl, v8, v6, v9, v10, v11, rfl, TD5, fun u hu5 => ?_⟩
      refine ⟨tl, gl, v8, v6, v9, v10, v11, u, rfl, rfl, rfl, rfl, TD5, hu5, fun H6 sm6 => ?_⟩
      refine ite2 (fun hz => absurd hz (by decide)) (fun _ => ?_)
      have smE := smS.trans (sm5.trans sm6)
      refine ⟨_, rfl, _, rfl, _, rfl, _, rfl, d, l, na, zs, v6, rfl, DT.same smE, SqL.of (smE _ _ hnaT), nad, nal, hzne, hz64, hzn, haT.same smE, hr6, fun Hz Dz kpz => ⟨true, rfl, ?_⟩⟩
      refine ite2 (fun hz => absurd hz (by decide)) (fun _ => ?_)
      exact ⟨_, _, _, _, _, _, _, _, _, _, _, _, _, _, _, _, rfl, Dz, fun _ => ⟨na, zs, rfl, SqL.of (kpz _ _ (smE _ _ hnaT) nad nal), nad, nal, hzne, hz64, hzn⟩⟩
    · rintro σ H2 ⟨a2, a3, a4, a5, a6, a7, a8, a9, a10, a11, a12, a13, a14, a15, a16, a17, rfl, D2, hn⟩
      obtain ⟨na, zs, rfl, hna, q1, q2, q3, q4, q5⟩ := hn (by decide)
      exact ⟨_, rfl, _, rfl, d, l, na, zs, rfl, D2, hna, q1, q2, q3, q4, q5, fun H' => k H'⟩
end
end My

set_option Elab.async false
set_option linter.all false
set_option maxRecDepth 100000
set_option maxHeartbeats 0
namespace My
open PySem L2 MyR RT

def strsAre : List Value → List Str → Bool
  | [], [] => true
  | .str x _ :: r, y :: s => x == y && strsAre r s
  | _, _ => false
theorem strs_vals : ∀ {us : List Value} {zs : List Str}, strsAre us zs = true → Vals (zs.map V.str) us
  | [], zs, h => by
    cases zs with
    | nil => exact .nil
    | cons z s => cases h
  | v :: r, zs, h => by
    cases v with
    | str x t =>
      cases zs with
      | nil => cases h
      | cons y s =>
        have h' : (x == y && strsAre r s) = true := h
        rw [Bool.and_eq_true] at h'
        obtain rfl := beq_iff_eq.mp h'.1
        exact .cons ⟨t, rfl⟩ (strs_vals h'.2)
    | _ => cases zs <;> cases h
def intsAre : List Value → List Int → Bool
  | [], [] => true
  | .int x _ :: r, y :: s => x == y && intsAre r s
  | _, _ => false
theorem ints_vals : ∀ {us : List Value} {zs : List Int}, intsAre us zs = true → Vals (zs.map V.int) us
  | [], zs, h => by
    cases zs with
    | nil => exact .nil
    | cons z s => cases h
  | v :: r, zs, h => by
    cases v with
    | int x t =>
      cases zs with
      | nil => cases h
      | cons y s =>
        have h' : (x == y && intsAre r s) = true := h
        rw [Bool.and_eq_true] at h'
        obtain rfl := beq_iff_eq.mp h'.1
        exact .cons ⟨t, rfl⟩ (ints_vals h'.2)
    | _ => cases zs <;> cases h
theorem ble_size {n : Nat} (h : Nat.ble n 1000 = true) : n ≤ sizeLine := Nat.le_of_lt (small1000 (Nat.le_of_ble_eq_true h))
theorem kit_own {K : PySem.W.Frag} {C D : Addr} (h1 : PySem.W.isClsIn K D = true) (h2 : PySem.W.typeIn K (.ref D) = some (.type "type")) (h3 : PySem.W.subIn K (.ref C) (.ref D) = some true) : PySem.W.kitOne K (.ref C) (.ref D) = some true := by
  unfold PySem.W.kitOne
  by_cases e : ((Value.ref C) == (Value.ref D)) = true
  · rw [if_pos e]
  · rw [if_neg e]
    have h1' : (PySem.W.clsIn K D).isSome = true := h1
    show (if ((PySem.W.clsIn K D).isSome && PySem.W.typeIn K (.ref D) == some (.type "type")) = true then PySem.W.subIn K (.ref C) (.ref D) else none) = some true
    rw [h1', h2, if_pos (by rfl)]
    exact h3
theorem all_mk {P : Program} {w : World} {K : PySem.W.Frag} {h : Heap} {mg : Str → Option Value} {fa : Addr} (X : K.In h) (G : h.Ns mainGlobals mg) (hfa : mg "law" = some (.ref fa))
    {f_is_integer f_is_between f_is_small f_is_name f_flat f_outline f_law_deal f_law_draw f_law_mixed f_law_any_word f_law_words f_law_number f_law_leaf f_law_term f_law_held f_law_node f_law_is_name f_law_tried f_law_plain f_law_pairs_right f_law_call_right f_law f_Node_nodes f_Node_plain f_Number_plain f_Name_plain f_Pair_nodes f_Half_nodes f_Over_nodes f_Power_nodes f_Power_plain f_Raised_nodes f_Choose_nodes f_Choose_plain f_Node_eq f_Number_init f_Name_init f_Add_init f_Subtract_init f_Multiply_init f_Half_init f_Over_init f_Power_init f_Raised_init f_Choose_init f_Call_init C_Number C_Name C_Add C_Subtract C_Multiply C_Half C_Over C_Power C_Raised C_Choose C_Call C_Node C_InvalidNode C_LowError aW aM : Addr}
    {od_is_integer an_is_integer : Option Addr} {sl_is_integer : Array (Option Value)} {oc_is_integer kV_is_integer dc_is_integer pm_is_integer cd_is_integer ct_is_integer : Value}
    {od_is_between an_is_between : Option Addr} {sl_is_between : Array (Option Value)} {oc_is_between kV_is_between dc_is_between pm_is_between cd_is_between ct_is_between : Value}
    {od_is_small an_is_small : Option Addr} {sl_is_small : Array (Option Value)} {oc_is_small kV_is_small dc_is_small pm_is_small cd_is_small ct_is_small : Value}
    {od_is_name an_is_name : Option Addr} {sl_is_name : Array (Option Value)} {oc_is_name kV_is_name dc_is_name pm_is_name cd_is_name ct_is_name : Value}
    {od_flat an_flat : Option Addr} {sl_flat : Array (Option Value)} {oc_flat kV_flat dc_flat pm_flat cd_flat ct_flat : Value}
    {od_outline an_outline : Option Addr} {sl_outline : Array (Option Value)} {oc_outline kV_outline dc_outline pm_outline cd_outline ct_outline : Value}
    {od_law_deal an_law_deal : Option Addr} {sl_law_deal : Array (Option Value)} {oc_law_deal kV_law_deal dc_law_deal pm_law_deal cd_law_deal ct_law_deal : Value}
    {od_law_draw an_law_draw : Option Addr} {sl_law_draw : Array (Option Value)} {oc_law_draw kV_law_draw dc_law_draw pm_law_draw cd_law_draw ct_law_draw : Value}
    {od_law_mixed an_law_mixed : Option Addr} {sl_law_mixed : Array (Option Value)} {oc_law_mixed kV_law_mixed dc_law_mixed pm_law_mixed cd_law_mixed ct_law_mixed : Value}
    {od_law_any_word an_law_any_word : Option Addr} {sl_law_any_word : Array (Option Value)} {oc_law_any_word kV_law_any_word dc_law_any_word pm_law_any_word cd_law_any_word ct_law_any_word : Value}
    {od_law_words an_law_words : Option Addr} {sl_law_words : Array (Option Value)} {oc_law_words kV_law_words dc_law_words pm_law_words cd_law_words ct_law_words : Value}
    {od_law_number an_law_number : Option Addr} {sl_law_number : Array (Option Value)} {oc_law_number kV_law_number dc_law_number pm_law_number cd_law_number ct_law_number : Value}
    {od_law_leaf an_law_leaf : Option Addr} {sl_law_leaf : Array (Option Value)} {oc_law_leaf kV_law_leaf dc_law_leaf pm_law_leaf cd_law_leaf ct_law_leaf : Value}
    {od_law_term an_law_term : Option Addr} {sl_law_term : Array (Option Value)} {oc_law_term kV_law_term dc_law_term pm_law_term cd_law_term ct_law_term : Value}
    {od_law_held an_law_held : Option Addr} {sl_law_held : Array (Option Value)} {oc_law_held kV_law_held dc_law_held pm_law_held cd_law_held ct_law_held : Value}
    {od_law_node an_law_node : Option Addr} {sl_law_node : Array (Option Value)} {oc_law_node kV_law_node dc_law_node pm_law_node cd_law_node ct_law_node : Value}
    {od_law_is_name an_law_is_name : Option Addr} {sl_law_is_name : Array (Option Value)} {oc_law_is_name kV_law_is_name dc_law_is_name pm_law_is_name cd_law_is_name ct_law_is_name : Value}
    {od_law_tried an_law_tried : Option Addr} {sl_law_tried : Array (Option Value)} {oc_law_tried kV_law_tried dc_law_tried pm_law_tried cd_law_tried ct_law_tried : Value}
    {od_law_plain an_law_plain : Option Addr} {sl_law_plain : Array (Option Value)} {oc_law_plain kV_law_plain dc_law_plain pm_law_plain cd_law_plain ct_law_plain : Value}
    {od_law_pairs_right an_law_pairs_right : Option Addr} {sl_law_pairs_right : Array (Option Value)} {oc_law_pairs_right kV_law_pairs_right dc_law_pairs_right pm_law_pairs_right cd_law_pairs_right ct_law_pairs_right : Value}
    {od_law_call_right an_law_call_right : Option Addr} {sl_law_call_right : Array (Option Value)} {oc_law_call_right kV_law_call_right dc_law_call_right pm_law_call_right cd_law_call_right ct_law_call_right : Value}
    {od_law an_law : Option Addr} {sl_law : Array (Option Value)} {oc_law kV_law dc_law pm_law cd_law ct_law : Value}
    {od_Node_nodes an_Node_nodes : Option Addr} {sl_Node_nodes : Array (Option Value)} {oc_Node_nodes kV_Node_nodes dc_Node_nodes pm_Node_nodes cd_Node_nodes ct_Node_nodes : Value}
    {od_Number_plain an_Number_plain : Option Addr} {sl_Number_plain : Array (Option Value)} {oc_Number_plain kV_Number_plain dc_Number_plain pm_Number_plain cd_Number_plain ct_Number_plain : Value}
    {od_Node_eq an_Node_eq : Option Addr} {sl_Node_eq : Array (Option Value)} {oc_Node_eq kV_Node_eq dc_Node_eq pm_Node_eq cd_Node_eq ct_Node_eq : Value}
    {od_Number_init an_Number_init : Option Addr} {sl_Number_init : Array (Option Value)} {oc_Number_init kV_Number_init dc_Number_init pm_Number_init cd_Number_init ct_Number_init : Value}
    {od_Name_plain an_Name_plain : Option Addr} {sl_Name_plain : Array (Option Value)} {oc_Name_plain kV_Name_plain dc_Name_plain pm_Name_plain cd_Name_plain ct_Name_plain : Value}
    {od_Name_init an_Name_init : Option Addr} {sl_Name_init : Array (Option Value)} {oc_Name_init kV_Name_init dc_Name_init pm_Name_init cd_Name_init ct_Name_init : Value}
    {od_Pair_nodes an_Pair_nodes : Option Addr} {sl_Pair_nodes : Array (Option Value)} {oc_Pair_nodes kV_Pair_nodes dc_Pair_nodes pm_Pair_nodes cd_Pair_nodes ct_Pair_nodes : Value}
    {od_Node_plain an_Node_plain : Option Addr} {sl_Node_plain : Array (Option Value)} {oc_Node_plain kV_Node_plain dc_Node_plain pm_Node_plain cd_Node_plain ct_Node_plain : Value}
    {od_Add_init an_Add_init : Option Addr} {sl_Add_init : Array (Option Value)} {oc_Add_init kV_Add_init dc_Add_init pm_Add_init cd_Add_init ct_Add_init : Value}
    {od_Subtract_init an_Subtract_init : Option Addr} {sl_Subtract_init : Array (Option Value)} {oc_Subtract_init kV_Subtract_init dc_Subtract_init pm_Subtract_init cd_Subtract_init ct_Subtract_init : Value}
    {od_Multiply_init an_Multiply_init : Option Addr} {sl_Multiply_init : Array (Option Value)} {oc_Multiply_init kV_Multiply_init dc_Multiply_init pm_Multiply_init cd_Multiply_init ct_Multiply_init : Value}
    {od_Half_nodes an_Half_nodes : Option Addr} {sl_Half_nodes : Array (Option Value)} {oc_Half_nodes kV_Half_nodes dc_Half_nodes pm_Half_nodes cd_Half_nodes ct_Half_nodes : Value}
    {od_Half_init an_Half_init : Option Addr} {sl_Half_init : Array (Option Value)} {oc_Half_init kV_Half_init dc_Half_init pm_Half_init cd_Half_init ct_Half_init : Value}
    {od_Over_nodes an_Over_nodes : Option Addr} {sl_Over_nodes : Array (Option Value)} {oc_Over_nodes kV_Over_nodes dc_Over_nodes pm_Over_nodes cd_Over_nodes ct_Over_nodes : Value}
    {od_Over_init an_Over_init : Option Addr} {sl_Over_init : Array (Option Value)} {oc_Over_init kV_Over_init dc_Over_init pm_Over_init cd_Over_init ct_Over_init : Value}
    {od_Power_nodes an_Power_nodes : Option Addr} {sl_Power_nodes : Array (Option Value)} {oc_Power_nodes kV_Power_nodes dc_Power_nodes pm_Power_nodes cd_Power_nodes ct_Power_nodes : Value}
    {od_Power_plain an_Power_plain : Option Addr} {sl_Power_plain : Array (Option Value)} {oc_Power_plain kV_Power_plain dc_Power_plain pm_Power_plain cd_Power_plain ct_Power_plain : Value}
    {od_Power_init an_Power_init : Option Addr} {sl_Power_init : Array (Option Value)} {oc_Power_init kV_Power_init dc_Power_init pm_Power_init cd_Power_init ct_Power_init : Value}
    {od_Raised_nodes an_Raised_nodes : Option Addr} {sl_Raised_nodes : Array (Option Value)} {oc_Raised_nodes kV_Raised_nodes dc_Raised_nodes pm_Raised_nodes cd_Raised_nodes ct_Raised_nodes : Value}
    {od_Raised_init an_Raised_init : Option Addr} {sl_Raised_init : Array (Option Value)} {oc_Raised_init kV_Raised_init dc_Raised_init pm_Raised_init cd_Raised_init ct_Raised_init : Value}
    {od_Choose_nodes an_Choose_nodes : Option Addr} {sl_Choose_nodes : Array (Option Value)} {oc_Choose_nodes kV_Choose_nodes dc_Choose_nodes pm_Choose_nodes cd_Choose_nodes ct_Choose_nodes : Value}
    {od_Choose_plain an_Choose_plain : Option Addr} {sl_Choose_plain : Array (Option Value)} {oc_Choose_plain kV_Choose_plain dc_Choose_plain pm_Choose_plain cd_Choose_plain ct_Choose_plain : Value}
    {od_Choose_init an_Choose_init : Option Addr} {sl_Choose_init : Array (Option Value)} {oc_Choose_init kV_Choose_init dc_Choose_init pm_Choose_init cd_Choose_init ct_Choose_init : Value}
    {od_Call_init an_Call_init : Option Addr} {sl_Call_init : Array (Option Value)} {oc_Call_init kV_Call_init dc_Call_init pm_Call_init cd_Call_init ct_Call_init : Value}
    {oo_Number : Obj} {tt_Number : Tok}
    {oo_Name : Obj} {tt_Name : Tok}
    {oo_Add : Obj} {tt_Add : Tok}
    {oo_Subtract : Obj} {tt_Subtract : Tok}
    {oo_Multiply : Obj} {tt_Multiply : Tok}
    {oo_Half : Obj} {tt_Half : Tok}
    {oo_Over : Obj} {tt_Over : Tok}
    {oo_Power : Obj} {tt_Power : Tok}
    {oo_Raised : Obj} {tt_Raised : Tok}
    {oo_Choose : Obj} {tt_Choose : Tok}
    {t1 t2 t3 : Tok}
    {odW odM : Option Addr} {itsW itsM : Array Value} {nW nM : Nat} {slW slM : Array (Option Value)}
    (a_is_integer : PySem.W.nsIn K mainGlobals "is_integer" = some (some (.ref f_is_integer)))
    (l_is_integer : K.lookup f_is_integer = some ⟨oc_is_integer, od_is_integer, .func (PySem.W.fnOf "is_integer" "is_integer" (defArgs s_is_integer) (defBody s_is_integer) (defScope s_is_integer) .none kV_is_integer dc_is_integer pm_is_integer an_is_integer cd_is_integer ct_is_integer), sl_is_integer⟩)
    (c_is_integer : PySem.W.codeIn K cd_is_integer "is_integer" = true)
    (k_is_integer : PySem.W.keepIn K (.ref f_is_integer) = true)
    (a_is_between : PySem.W.nsIn K mainGlobals "is_between" = some (some (.ref f_is_between)))
    (l_is_between : K.lookup f_is_between = some ⟨oc_is_between, od_is_between, .func (PySem.W.fnOf "is_between" "is_between" (defArgs s_is_between) (defBody s_is_between) (defScope s_is_between) .none kV_is_between dc_is_between pm_is_between an_is_between cd_is_between ct_is_between), sl_is_between⟩)
    (c_is_between : PySem.W.codeIn K cd_is_between "is_between" = true)
    (k_is_between : PySem.W.keepIn K (.ref f_is_between) = true)
    (a_is_small : PySem.W.nsIn K mainGlobals "is_small" = some (some (.ref f_is_small)))
    (l_is_small : K.lookup f_is_small = some ⟨oc_is_small, od_is_small, .func (PySem.W.fnOf "is_small" "is_small" (defArgs s_is_small) (defBody s_is_small) (defScope s_is_small) .none kV_is_small dc_is_small pm_is_small an_is_small cd_is_small ct_is_small), sl_is_small⟩)
    (c_is_small : PySem.W.codeIn K cd_is_small "is_small" = true)
    (k_is_small : PySem.W.keepIn K (.ref f_is_small) = true)
    (a_is_name : PySem.W.nsIn K mainGlobals "is_name" = some (some (.ref f_is_name)))
    (l_is_name : K.lookup f_is_name = some ⟨oc_is_name, od_is_name, .func (PySem.W.fnOf "is_name" "is_name" (defArgs s_is_name) (defBody s_is_name) (defScope s_is_name) .none kV_is_name dc_is_name pm_is_name an_is_name cd_is_name ct_is_name), sl_is_name⟩)
    (c_is_name : PySem.W.codeIn K cd_is_name "is_name" = true)
    (k_is_name : PySem.W.keepIn K (.ref f_is_name) = true)
    (a_flat : PySem.W.nsIn K mainGlobals "flat" = some (some (.ref f_flat)))
    (l_flat : K.lookup f_flat = some ⟨oc_flat, od_flat, .func (PySem.W.fnOf "flat" "flat" (defArgs s_flat) (defBody s_flat) (defScope s_flat) .none kV_flat dc_flat pm_flat an_flat cd_flat ct_flat), sl_flat⟩)
    (c_flat : PySem.W.codeIn K cd_flat "flat" = true)
    (k_flat : PySem.W.keepIn K (.ref f_flat) = true)
    (a_outline : PySem.W.nsIn K mainGlobals "outline" = some (some (.ref f_outline)))
    (l_outline : K.lookup f_outline = some ⟨oc_outline, od_outline, .func (PySem.W.fnOf "outline" "outline" (defArgs s_outline) (defBody s_outline) (defScope s_outline) .none kV_outline dc_outline pm_outline an_outline cd_outline ct_outline), sl_outline⟩)
    (c_outline : PySem.W.codeIn K cd_outline "outline" = true)
    (k_outline : PySem.W.keepIn K (.ref f_outline) = true)
    (a_law_deal : PySem.W.nsIn K mainGlobals "_law_deal" = some (some (.ref f_law_deal)))
    (l_law_deal : K.lookup f_law_deal = some ⟨oc_law_deal, od_law_deal, .func (PySem.W.fnOf "_law_deal" "_law_deal" (defArgs s_law_deal) (defBody s_law_deal) (defScope s_law_deal) .none kV_law_deal dc_law_deal pm_law_deal an_law_deal cd_law_deal ct_law_deal), sl_law_deal⟩)
    (c_law_deal : PySem.W.codeIn K cd_law_deal "_law_deal" = true)
    (k_law_deal : PySem.W.keepIn K (.ref f_law_deal) = true)
    (a_law_draw : PySem.W.nsIn K mainGlobals "_law_draw" = some (some (.ref f_law_draw)))
    (l_law_draw : K.lookup f_law_draw = some ⟨oc_law_draw, od_law_draw, .func (PySem.W.fnOf "_law_draw" "_law_draw" (defArgs s_law_draw) (defBody s_law_draw) (defScope s_law_draw) .none kV_law_draw dc_law_draw pm_law_draw an_law_draw cd_law_draw ct_law_draw), sl_law_draw⟩)
    (c_law_draw : PySem.W.codeIn K cd_law_draw "_law_draw" = true)
    (k_law_draw : PySem.W.keepIn K (.ref f_law_draw) = true)
    (a_law_mixed : PySem.W.nsIn K mainGlobals "_law_mixed" = some (some (.ref f_law_mixed)))
    (l_law_mixed : K.lookup f_law_mixed = some ⟨oc_law_mixed, od_law_mixed, .func (PySem.W.fnOf "_law_mixed" "_law_mixed" (defArgs s_law_mixed) (defBody s_law_mixed) (defScope s_law_mixed) .none kV_law_mixed dc_law_mixed pm_law_mixed an_law_mixed cd_law_mixed ct_law_mixed), sl_law_mixed⟩)
    (c_law_mixed : PySem.W.codeIn K cd_law_mixed "_law_mixed" = true)
    (k_law_mixed : PySem.W.keepIn K (.ref f_law_mixed) = true)
    (a_law_any_word : PySem.W.nsIn K mainGlobals "_law_any_word" = some (some (.ref f_law_any_word)))
    (l_law_any_word : K.lookup f_law_any_word = some ⟨oc_law_any_word, od_law_any_word, .func (PySem.W.fnOf "_law_any_word" "_law_any_word" (defArgs s_law_any_word) (defBody s_law_any_word) (defScope s_law_any_word) .none kV_law_any_word dc_law_any_word pm_law_any_word an_law_any_word cd_law_any_word ct_law_any_word), sl_law_any_word⟩)
    (c_law_any_word : PySem.W.codeIn K cd_law_any_word "_law_any_word" = true)
    (k_law_any_word : PySem.W.keepIn K (.ref f_law_any_word) = true)
    (a_law_words : PySem.W.nsIn K mainGlobals "_law_words" = some (some (.ref f_law_words)))
    (l_law_words : K.lookup f_law_words = some ⟨oc_law_words, od_law_words, .func (PySem.W.fnOf "_law_words" "_law_words" (defArgs s_law_words) (defBody s_law_words) (defScope s_law_words) .none kV_law_words dc_law_words pm_law_words an_law_words cd_law_words ct_law_words), sl_law_words⟩)
    (c_law_words : PySem.W.codeIn K cd_law_words "_law_words" = true)
    (k_law_words : PySem.W.keepIn K (.ref f_law_words) = true)
    (a_law_number : PySem.W.nsIn K mainGlobals "_law_number" = some (some (.ref f_law_number)))
    (l_law_number : K.lookup f_law_number = some ⟨oc_law_number, od_law_number, .func (PySem.W.fnOf "_law_number" "_law_number" (defArgs s_law_number) (defBody s_law_number) (defScope s_law_number) .none kV_law_number dc_law_number pm_law_number an_law_number cd_law_number ct_law_number), sl_law_number⟩)
    (c_law_number : PySem.W.codeIn K cd_law_number "_law_number" = true)
    (k_law_number : PySem.W.keepIn K (.ref f_law_number) = true)
    (a_law_leaf : PySem.W.nsIn K mainGlobals "_law_leaf" = some (some (.ref f_law_leaf)))
    (l_law_leaf : K.lookup f_law_leaf = some ⟨oc_law_leaf, od_law_leaf, .func (PySem.W.fnOf "_law_leaf" "_law_leaf" (defArgs s_law_leaf) (defBody s_law_leaf) (defScope s_law_leaf) .none kV_law_leaf dc_law_leaf pm_law_leaf an_law_leaf cd_law_leaf ct_law_leaf), sl_law_leaf⟩)
    (c_law_leaf : PySem.W.codeIn K cd_law_leaf "_law_leaf" = true)
    (k_law_leaf : PySem.W.keepIn K (.ref f_law_leaf) = true)
    (a_law_term : PySem.W.nsIn K mainGlobals "_law_term" = some (some (.ref f_law_term)))
    (l_law_term : K.lookup f_law_term = some ⟨oc_law_term, od_law_term, .func (PySem.W.fnOf "_law_term" "_law_term" (defArgs s_law_term) (defBody s_law_term) (defScope s_law_term) .none kV_law_term dc_law_term pm_law_term an_law_term cd_law_term ct_law_term), sl_law_term⟩)
    (c_law_term : PySem.W.codeIn K cd_law_term "_law_term" = true)
    (k_law_term : PySem.W.keepIn K (.ref f_law_term) = true)
    (a_law_held : PySem.W.nsIn K mainGlobals "_law_held" = some (some (.ref f_law_held)))
    (l_law_held : K.lookup f_law_held = some ⟨oc_law_held, od_law_held, .func (PySem.W.fnOf "_law_held" "_law_held" (defArgs s_law_held) (defBody s_law_held) (defScope s_law_held) .none kV_law_held dc_law_held pm_law_held an_law_held cd_law_held ct_law_held), sl_law_held⟩)
    (c_law_held : PySem.W.codeIn K cd_law_held "_law_held" = true)
    (k_law_held : PySem.W.keepIn K (.ref f_law_held) = true)
    (a_law_node : PySem.W.nsIn K mainGlobals "_law_node" = some (some (.ref f_law_node)))
    (l_law_node : K.lookup f_law_node = some ⟨oc_law_node, od_law_node, .func (PySem.W.fnOf "_law_node" "_law_node" (defArgs s_law_node) (defBody s_law_node) (defScope s_law_node) .none kV_law_node dc_law_node pm_law_node an_law_node cd_law_node ct_law_node), sl_law_node⟩)
    (c_law_node : PySem.W.codeIn K cd_law_node "_law_node" = true)
    (k_law_node : PySem.W.keepIn K (.ref f_law_node) = true)
    (a_law_is_name : PySem.W.nsIn K mainGlobals "_law_is_name" = some (some (.ref f_law_is_name)))
    (l_law_is_name : K.lookup f_law_is_name = some ⟨oc_law_is_name, od_law_is_name, .func (PySem.W.fnOf "_law_is_name" "_law_is_name" (defArgs s_law_is_name) (defBody s_law_is_name) (defScope s_law_is_name) .none kV_law_is_name dc_law_is_name pm_law_is_name an_law_is_name cd_law_is_name ct_law_is_name), sl_law_is_name⟩)
    (c_law_is_name : PySem.W.codeIn K cd_law_is_name "_law_is_name" = true)
    (k_law_is_name : PySem.W.keepIn K (.ref f_law_is_name) = true)
    (a_law_tried : PySem.W.nsIn K mainGlobals "_law_tried" = some (some (.ref f_law_tried)))
    (l_law_tried : K.lookup f_law_tried = some ⟨oc_law_tried, od_law_tried, .func (PySem.W.fnOf "_law_tried" "_law_tried" (defArgs s_law_tried) (defBody s_law_tried) (defScope s_law_tried) .none kV_law_tried dc_law_tried pm_law_tried an_law_tried cd_law_tried ct_law_tried), sl_law_tried⟩)
    (c_law_tried : PySem.W.codeIn K cd_law_tried "_law_tried" = true)
    (k_law_tried : PySem.W.keepIn K (.ref f_law_tried) = true)
    (a_law_plain : PySem.W.nsIn K mainGlobals "_law_plain" = some (some (.ref f_law_plain)))
    (l_law_plain : K.lookup f_law_plain = some ⟨oc_law_plain, od_law_plain, .func (PySem.W.fnOf "_law_plain" "_law_plain" (defArgs s_law_plain) (defBody s_law_plain) (defScope s_law_plain) .none kV_law_plain dc_law_plain pm_law_plain an_law_plain cd_law_plain ct_law_plain), sl_law_plain⟩)
    (c_law_plain : PySem.W.codeIn K cd_law_plain "_law_plain" = true)
    (k_law_plain : PySem.W.keepIn K (.ref f_law_plain) = true)
    (a_law_pairs_right : PySem.W.nsIn K mainGlobals "_law_pairs_right" = some (some (.ref f_law_pairs_right)))
    (l_law_pairs_right : K.lookup f_law_pairs_right = some ⟨oc_law_pairs_right, od_law_pairs_right, .func (PySem.W.fnOf "_law_pairs_right" "_law_pairs_right" (defArgs s_law_pairs_right) (defBody s_law_pairs_right) (defScope s_law_pairs_right) .none kV_law_pairs_right dc_law_pairs_right pm_law_pairs_right an_law_pairs_right cd_law_pairs_right ct_law_pairs_right), sl_law_pairs_right⟩)
    (c_law_pairs_right : PySem.W.codeIn K cd_law_pairs_right "_law_pairs_right" = true)
    (k_law_pairs_right : PySem.W.keepIn K (.ref f_law_pairs_right) = true)
    (a_law_call_right : PySem.W.nsIn K mainGlobals "_law_call_right" = some (some (.ref f_law_call_right)))
    (l_law_call_right : K.lookup f_law_call_right = some ⟨oc_law_call_right, od_law_call_right, .func (PySem.W.fnOf "_law_call_right" "_law_call_right" (defArgs s_law_call_right) (defBody s_law_call_right) (defScope s_law_call_right) .none kV_law_call_right dc_law_call_right pm_law_call_right an_law_call_right cd_law_call_right ct_law_call_right), sl_law_call_right⟩)
    (c_law_call_right : PySem.W.codeIn K cd_law_call_right "_law_call_right" = true)
    (k_law_call_right : PySem.W.keepIn K (.ref f_law_call_right) = true)
    (a_law : PySem.W.nsIn K mainGlobals "law" = some (some (.ref f_law)))
    (l_law : K.lookup f_law = some ⟨oc_law, od_law, .func (PySem.W.fnOf "law" "law" (defArgs s_law) (defBody s_law) (defScope s_law) .none kV_law dc_law pm_law an_law cd_law ct_law), sl_law⟩)
    (c_law : PySem.W.codeIn K cd_law "law" = true)
    (k_law : PySem.W.keepIn K (.ref f_law) = true)
    (a_Number : PySem.W.nsIn K mainGlobals "Number" = some (some (.ref C_Number)))
    (a_Name : PySem.W.nsIn K mainGlobals "Name" = some (some (.ref C_Name)))
    (a_Add : PySem.W.nsIn K mainGlobals "Add" = some (some (.ref C_Add)))
    (a_Subtract : PySem.W.nsIn K mainGlobals "Subtract" = some (some (.ref C_Subtract)))
    (a_Multiply : PySem.W.nsIn K mainGlobals "Multiply" = some (some (.ref C_Multiply)))
    (a_Half : PySem.W.nsIn K mainGlobals "Half" = some (some (.ref C_Half)))
    (a_Over : PySem.W.nsIn K mainGlobals "Over" = some (some (.ref C_Over)))
    (a_Power : PySem.W.nsIn K mainGlobals "Power" = some (some (.ref C_Power)))
    (a_Raised : PySem.W.nsIn K mainGlobals "Raised" = some (some (.ref C_Raised)))
    (a_Choose : PySem.W.nsIn K mainGlobals "Choose" = some (some (.ref C_Choose)))
    (a_Call : PySem.W.nsIn K mainGlobals "Call" = some (some (.ref C_Call)))
    (a_Node : PySem.W.nsIn K mainGlobals "Node" = some (some (.ref C_Node)))
    (a_InvalidNode : PySem.W.nsIn K mainGlobals "InvalidNode" = some (some (.ref C_InvalidNode)))
    (a_LowError : PySem.W.nsIn K mainGlobals "LowError" = some (some (.ref C_LowError)))
    (m_nodes_Number : PySem.W.findIn K (.ref C_Number) "_nodes" = some (some (.ref f_Node_nodes)))
    (l_Node_nodes : K.lookup f_Node_nodes = some ⟨oc_Node_nodes, od_Node_nodes, .func (PySem.W.fnOf "_nodes" "Node._nodes" (defArgs s_Node_nodes) (defBody s_Node_nodes) (defScope s_Node_nodes) .none kV_Node_nodes dc_Node_nodes pm_Node_nodes an_Node_nodes cd_Node_nodes ct_Node_nodes), sl_Node_nodes⟩)
    (c_Node_nodes : PySem.W.codeIn K cd_Node_nodes "Node._nodes" = true)
    (k_Node_nodes : PySem.W.keepIn K (.ref f_Node_nodes) = true)
    (i_Node_nodes : PySem.W.isFn K (.ref f_Node_nodes) = true)
    (m_plain_Number : PySem.W.findIn K (.ref C_Number) "_plain" = some (some (.ref f_Number_plain)))
    (l_Number_plain : K.lookup f_Number_plain = some ⟨oc_Number_plain, od_Number_plain, .func (PySem.W.fnOf "_plain" "Number._plain" (defArgs s_Number_plain) (defBody s_Number_plain) (defScope s_Number_plain) .none kV_Number_plain dc_Number_plain pm_Number_plain an_Number_plain cd_Number_plain ct_Number_plain), sl_Number_plain⟩)
    (c_Number_plain : PySem.W.codeIn K cd_Number_plain "Number._plain" = true)
    (k_Number_plain : PySem.W.keepIn K (.ref f_Number_plain) = true)
    (i_Number_plain : PySem.W.isFn K (.ref f_Number_plain) = true)
    (meq_Number : PySem.W.findIn K (.ref C_Number) "__eq__" = some (some (.ref f_Node_eq)))
    (l_Node_eq : K.lookup f_Node_eq = some ⟨oc_Node_eq, od_Node_eq, .func (PySem.W.fnOf "__eq__" "Node.__eq__" (defArgs s_Node_eq) (defBody s_Node_eq) (defScope s_Node_eq) .none kV_Node_eq dc_Node_eq pm_Node_eq an_Node_eq cd_Node_eq ct_Node_eq), sl_Node_eq⟩)
    (c_Node_eq : PySem.W.codeIn K cd_Node_eq "Node.__eq__" = true)
    (k_Node_eq : PySem.W.keepIn K (.ref f_Node_eq) = true)
    (i_Node_eq : PySem.W.isFn K (.ref f_Node_eq) = true)
    (minit_Number : PySem.W.findIn K (.ref C_Number) "__init__" = some (some (.ref f_Number_init)))
    (l_Number_init : K.lookup f_Number_init = some ⟨oc_Number_init, od_Number_init, .func (PySem.W.fnOf "__init__" "Number.__init__" (defArgs s_Number_init) (defBody s_Number_init) (defScope s_Number_init) .none kV_Number_init dc_Number_init pm_Number_init an_Number_init cd_Number_init ct_Number_init), sl_Number_init⟩)
    (c_Number_init : PySem.W.codeIn K cd_Number_init "Number.__init__" = true)
    (k_Number_init : PySem.W.keepIn K (.ref f_Number_init) = true)
    (i_Number_init : PySem.W.isFn K (.ref f_Number_init) = true)
    (m_nodes_Name : PySem.W.findIn K (.ref C_Name) "_nodes" = some (some (.ref f_Node_nodes)))
    (m_plain_Name : PySem.W.findIn K (.ref C_Name) "_plain" = some (some (.ref f_Name_plain)))
    (l_Name_plain : K.lookup f_Name_plain = some ⟨oc_Name_plain, od_Name_plain, .func (PySem.W.fnOf "_plain" "Name._plain" (defArgs s_Name_plain) (defBody s_Name_plain) (defScope s_Name_plain) .none kV_Name_plain dc_Name_plain pm_Name_plain an_Name_plain cd_Name_plain ct_Name_plain), sl_Name_plain⟩)
    (c_Name_plain : PySem.W.codeIn K cd_Name_plain "Name._plain" = true)
    (k_Name_plain : PySem.W.keepIn K (.ref f_Name_plain) = true)
    (i_Name_plain : PySem.W.isFn K (.ref f_Name_plain) = true)
    (meq_Name : PySem.W.findIn K (.ref C_Name) "__eq__" = some (some (.ref f_Node_eq)))
    (minit_Name : PySem.W.findIn K (.ref C_Name) "__init__" = some (some (.ref f_Name_init)))
    (l_Name_init : K.lookup f_Name_init = some ⟨oc_Name_init, od_Name_init, .func (PySem.W.fnOf "__init__" "Name.__init__" (defArgs s_Name_init) (defBody s_Name_init) (defScope s_Name_init) .none kV_Name_init dc_Name_init pm_Name_init an_Name_init cd_Name_init ct_Name_init), sl_Name_init⟩)
    (c_Name_init : PySem.W.codeIn K cd_Name_init "Name.__init__" = true)
    (k_Name_init : PySem.W.keepIn K (.ref f_Name_init) = true)
    (i_Name_init : PySem.W.isFn K (.ref f_Name_init) = true)
    (m_nodes_Add : PySem.W.findIn K (.ref C_Add) "_nodes" = some (some (.ref f_Pair_nodes)))
    (l_Pair_nodes : K.lookup f_Pair_nodes = some ⟨oc_Pair_nodes, od_Pair_nodes, .func (PySem.W.fnOf "_nodes" "Pair._nodes" (defArgs s_Pair_nodes) (defBody s_Pair_nodes) (defScope s_Pair_nodes) .none kV_Pair_nodes dc_Pair_nodes pm_Pair_nodes an_Pair_nodes cd_Pair_nodes ct_Pair_nodes), sl_Pair_nodes⟩)
    (c_Pair_nodes : PySem.W.codeIn K cd_Pair_nodes "Pair._nodes" = true)
    (k_Pair_nodes : PySem.W.keepIn K (.ref f_Pair_nodes) = true)
    (i_Pair_nodes : PySem.W.isFn K (.ref f_Pair_nodes) = true)
    (m_plain_Add : PySem.W.findIn K (.ref C_Add) "_plain" = some (some (.ref f_Node_plain)))
    (l_Node_plain : K.lookup f_Node_plain = some ⟨oc_Node_plain, od_Node_plain, .func (PySem.W.fnOf "_plain" "Node._plain" (defArgs s_Node_plain) (defBody s_Node_plain) (defScope s_Node_plain) .none kV_Node_plain dc_Node_plain pm_Node_plain an_Node_plain cd_Node_plain ct_Node_plain), sl_Node_plain⟩)
    (c_Node_plain : PySem.W.codeIn K cd_Node_plain "Node._plain" = true)
    (k_Node_plain : PySem.W.keepIn K (.ref f_Node_plain) = true)
    (i_Node_plain : PySem.W.isFn K (.ref f_Node_plain) = true)
    (meq_Add : PySem.W.findIn K (.ref C_Add) "__eq__" = some (some (.ref f_Node_eq)))
    (minit_Add : PySem.W.findIn K (.ref C_Add) "__init__" = some (some (.ref f_Add_init)))
    (l_Add_init : K.lookup f_Add_init = some ⟨oc_Add_init, od_Add_init, .func (PySem.W.fnOf "__init__" "Add.__init__" (defArgs s_Add_init) (defBody s_Add_init) (defScope s_Add_init) .none kV_Add_init dc_Add_init pm_Add_init an_Add_init cd_Add_init ct_Add_init), sl_Add_init⟩)
    (c_Add_init : PySem.W.codeIn K cd_Add_init "Add.__init__" = true)
    (k_Add_init : PySem.W.keepIn K (.ref f_Add_init) = true)
    (i_Add_init : PySem.W.isFn K (.ref f_Add_init) = true)
    (m_nodes_Subtract : PySem.W.findIn K (.ref C_Subtract) "_nodes" = some (some (.ref f_Pair_nodes)))
    (m_plain_Subtract : PySem.W.findIn K (.ref C_Subtract) "_plain" = some (some (.ref f_Node_plain)))
    (meq_Subtract : PySem.W.findIn K (.ref C_Subtract) "__eq__" = some (some (.ref f_Node_eq)))
    (minit_Subtract : PySem.W.findIn K (.ref C_Subtract) "__init__" = some (some (.ref f_Subtract_init)))
    (l_Subtract_init : K.lookup f_Subtract_init = some ⟨oc_Subtract_init, od_Subtract_init, .func (PySem.W.fnOf "__init__" "Subtract.__init__" (defArgs s_Subtract_init) (defBody s_Subtract_init) (defScope s_Subtract_init) .none kV_Subtract_init dc_Subtract_init pm_Subtract_init an_Subtract_init cd_Subtract_init ct_Subtract_init), sl_Subtract_init⟩)
    (c_Subtract_init : PySem.W.codeIn K cd_Subtract_init "Subtract.__init__" = true)
    (k_Subtract_init : PySem.W.keepIn K (.ref f_Subtract_init) = true)
    (i_Subtract_init : PySem.W.isFn K (.ref f_Subtract_init) = true)
    (m_nodes_Multiply : PySem.W.findIn K (.ref C_Multiply) "_nodes" = some (some (.ref f_Pair_nodes)))
    (m_plain_Multiply : PySem.W.findIn K (.ref C_Multiply) "_plain" = some (some (.ref f_Node_plain)))
    (meq_Multiply : PySem.W.findIn K (.ref C_Multiply) "__eq__" = some (some (.ref f_Node_eq)))
    (minit_Multiply : PySem.W.findIn K (.ref C_Multiply) "__init__" = some (some (.ref f_Multiply_init)))
    (l_Multiply_init : K.lookup f_Multiply_init = some ⟨oc_Multiply_init, od_Multiply_init, .func (PySem.W.fnOf "__init__" "Multiply.__init__" (defArgs s_Multiply_init) (defBody s_Multiply_init) (defScope s_Multiply_init) .none kV_Multiply_init dc_Multiply_init pm_Multiply_init an_Multiply_init cd_Multiply_init ct_Multiply_init), sl_Multiply_init⟩)
    (c_Multiply_init : PySem.W.codeIn K cd_Multiply_init "Multiply.__init__" = true)
    (k_Multiply_init : PySem.W.keepIn K (.ref f_Multiply_init) = true)
    (i_Multiply_init : PySem.W.isFn K (.ref f_Multiply_init) = true)
    (m_nodes_Half : PySem.W.findIn K (.ref C_Half) "_nodes" = some (some (.ref f_Half_nodes)))
    (l_Half_nodes : K.lookup f_Half_nodes = some ⟨oc_Half_nodes, od_Half_nodes, .func (PySem.W.fnOf "_nodes" "Half._nodes" (defArgs s_Half_nodes) (defBody s_Half_nodes) (defScope s_Half_nodes) .none kV_Half_nodes dc_Half_nodes pm_Half_nodes an_Half_nodes cd_Half_nodes ct_Half_nodes), sl_Half_nodes⟩)
    (c_Half_nodes : PySem.W.codeIn K cd_Half_nodes "Half._nodes" = true)
    (k_Half_nodes : PySem.W.keepIn K (.ref f_Half_nodes) = true)
    (i_Half_nodes : PySem.W.isFn K (.ref f_Half_nodes) = true)
    (m_plain_Half : PySem.W.findIn K (.ref C_Half) "_plain" = some (some (.ref f_Node_plain)))
    (meq_Half : PySem.W.findIn K (.ref C_Half) "__eq__" = some (some (.ref f_Node_eq)))
    (minit_Half : PySem.W.findIn K (.ref C_Half) "__init__" = some (some (.ref f_Half_init)))
    (l_Half_init : K.lookup f_Half_init = some ⟨oc_Half_init, od_Half_init, .func (PySem.W.fnOf "__init__" "Half.__init__" (defArgs s_Half_init) (defBody s_Half_init) (defScope s_Half_init) .none kV_Half_init dc_Half_init pm_Half_init an_Half_init cd_Half_init ct_Half_init), sl_Half_init⟩)
    (c_Half_init : PySem.W.codeIn K cd_Half_init "Half.__init__" = true)
    (k_Half_init : PySem.W.keepIn K (.ref f_Half_init) = true)
    (i_Half_init : PySem.W.isFn K (.ref f_Half_init) = true)
    (m_nodes_Over : PySem.W.findIn K (.ref C_Over) "_nodes" = some (some (.ref f_Over_nodes)))
    (l_Over_nodes : K.lookup f_Over_nodes = some ⟨oc_Over_nodes, od_Over_nodes, .func (PySem.W.fnOf "_nodes" "Over._nodes" (defArgs s_Over_nodes) (defBody s_Over_nodes) (defScope s_Over_nodes) .none kV_Over_nodes dc_Over_nodes pm_Over_nodes an_Over_nodes cd_Over_nodes ct_Over_nodes), sl_Over_nodes⟩)
    (c_Over_nodes : PySem.W.codeIn K cd_Over_nodes "Over._nodes" = true)
    (k_Over_nodes : PySem.W.keepIn K (.ref f_Over_nodes) = true)
    (i_Over_nodes : PySem.W.isFn K (.ref f_Over_nodes) = true)
    (m_plain_Over : PySem.W.findIn K (.ref C_Over) "_plain" = some (some (.ref f_Node_plain)))
    (meq_Over : PySem.W.findIn K (.ref C_Over) "__eq__" = some (some (.ref f_Node_eq)))
    (minit_Over : PySem.W.findIn K (.ref C_Over) "__init__" = some (some (.ref f_Over_init)))
    (l_Over_init : K.lookup f_Over_init = some ⟨oc_Over_init, od_Over_init, .func (PySem.W.fnOf "__init__" "Over.__init__" (defArgs s_Over_init) (defBody s_Over_init) (defScope s_Over_init) .none kV_Over_init dc_Over_init pm_Over_init an_Over_init cd_Over_init ct_Over_init), sl_Over_init⟩)
    (c_Over_init : PySem.W.codeIn K cd_Over_init "Over.__init__" = true)
    (k_Over_init : PySem.W.keepIn K (.ref f_Over_init) = true)
    (i_Over_init : PySem.W.isFn K (.ref f_Over_init) = true)
    (m_nodes_Power : PySem.W.findIn K (.ref C_Power) "_nodes" = some (some (.ref f_Power_nodes)))
    (l_Power_nodes : K.lookup f_Power_nodes = some ⟨oc_Power_nodes, od_Power_nodes, .func (PySem.W.fnOf "_nodes" "Power._nodes" (defArgs s_Power_nodes) (defBody s_Power_nodes) (defScope s_Power_nodes) .none kV_Power_nodes dc_Power_nodes pm_Power_nodes an_Power_nodes cd_Power_nodes ct_Power_nodes), sl_Power_nodes⟩)
    (c_Power_nodes : PySem.W.codeIn K cd_Power_nodes "Power._nodes" = true)
    (k_Power_nodes : PySem.W.keepIn K (.ref f_Power_nodes) = true)
    (i_Power_nodes : PySem.W.isFn K (.ref f_Power_nodes) = true)
    (m_plain_Power : PySem.W.findIn K (.ref C_Power) "_plain" = some (some (.ref f_Power_plain)))
    (l_Power_plain : K.lookup f_Power_plain = some ⟨oc_Power_plain, od_Power_plain, .func (PySem.W.fnOf "_plain" "Power._plain" (defArgs s_Power_plain) (defBody s_Power_plain) (defScope s_Power_plain) .none kV_Power_plain dc_Power_plain pm_Power_plain an_Power_plain cd_Power_plain ct_Power_plain), sl_Power_plain⟩)
    (c_Power_plain : PySem.W.codeIn K cd_Power_plain "Power._plain" = true)
    (k_Power_plain : PySem.W.keepIn K (.ref f_Power_plain) = true)
    (i_Power_plain : PySem.W.isFn K (.ref f_Power_plain) = true)
    (meq_Power : PySem.W.findIn K (.ref C_Power) "__eq__" = some (some (.ref f_Node_eq)))
    (minit_Power : PySem.W.findIn K (.ref C_Power) "__init__" = some (some (.ref f_Power_init)))
    (l_Power_init : K.lookup f_Power_init = some ⟨oc_Power_init, od_Power_init, .func (PySem.W.fnOf "__init__" "Power.__init__" (defArgs s_Power_init) (defBody s_Power_init) (defScope s_Power_init) .none kV_Power_init dc_Power_init pm_Power_init an_Power_init cd_Power_init ct_Power_init), sl_Power_init⟩)
    (c_Power_init : PySem.W.codeIn K cd_Power_init "Power.__init__" = true)
    (k_Power_init : PySem.W.keepIn K (.ref f_Power_init) = true)
    (i_Power_init : PySem.W.isFn K (.ref f_Power_init) = true)
    (m_nodes_Raised : PySem.W.findIn K (.ref C_Raised) "_nodes" = some (some (.ref f_Raised_nodes)))
    (l_Raised_nodes : K.lookup f_Raised_nodes = some ⟨oc_Raised_nodes, od_Raised_nodes, .func (PySem.W.fnOf "_nodes" "Raised._nodes" (defArgs s_Raised_nodes) (defBody s_Raised_nodes) (defScope s_Raised_nodes) .none kV_Raised_nodes dc_Raised_nodes pm_Raised_nodes an_Raised_nodes cd_Raised_nodes ct_Raised_nodes), sl_Raised_nodes⟩)
    (c_Raised_nodes : PySem.W.codeIn K cd_Raised_nodes "Raised._nodes" = true)
    (k_Raised_nodes : PySem.W.keepIn K (.ref f_Raised_nodes) = true)
    (i_Raised_nodes : PySem.W.isFn K (.ref f_Raised_nodes) = true)
    (m_plain_Raised : PySem.W.findIn K (.ref C_Raised) "_plain" = some (some (.ref f_Node_plain)))
    (meq_Raised : PySem.W.findIn K (.ref C_Raised) "__eq__" = some (some (.ref f_Node_eq)))
    (minit_Raised : PySem.W.findIn K (.ref C_Raised) "__init__" = some (some (.ref f_Raised_init)))
    (l_Raised_init : K.lookup f_Raised_init = some ⟨oc_Raised_init, od_Raised_init, .func (PySem.W.fnOf "__init__" "Raised.__init__" (defArgs s_Raised_init) (defBody s_Raised_init) (defScope s_Raised_init) .none kV_Raised_init dc_Raised_init pm_Raised_init an_Raised_init cd_Raised_init ct_Raised_init), sl_Raised_init⟩)
    (c_Raised_init : PySem.W.codeIn K cd_Raised_init "Raised.__init__" = true)
    (k_Raised_init : PySem.W.keepIn K (.ref f_Raised_init) = true)
    (i_Raised_init : PySem.W.isFn K (.ref f_Raised_init) = true)
    (m_nodes_Choose : PySem.W.findIn K (.ref C_Choose) "_nodes" = some (some (.ref f_Choose_nodes)))
    (l_Choose_nodes : K.lookup f_Choose_nodes = some ⟨oc_Choose_nodes, od_Choose_nodes, .func (PySem.W.fnOf "_nodes" "Choose._nodes" (defArgs s_Choose_nodes) (defBody s_Choose_nodes) (defScope s_Choose_nodes) .none kV_Choose_nodes dc_Choose_nodes pm_Choose_nodes an_Choose_nodes cd_Choose_nodes ct_Choose_nodes), sl_Choose_nodes⟩)
    (c_Choose_nodes : PySem.W.codeIn K cd_Choose_nodes "Choose._nodes" = true)
    (k_Choose_nodes : PySem.W.keepIn K (.ref f_Choose_nodes) = true)
    (i_Choose_nodes : PySem.W.isFn K (.ref f_Choose_nodes) = true)
    (m_plain_Choose : PySem.W.findIn K (.ref C_Choose) "_plain" = some (some (.ref f_Choose_plain)))
    (l_Choose_plain : K.lookup f_Choose_plain = some ⟨oc_Choose_plain, od_Choose_plain, .func (PySem.W.fnOf "_plain" "Choose._plain" (defArgs s_Choose_plain) (defBody s_Choose_plain) (defScope s_Choose_plain) .none kV_Choose_plain dc_Choose_plain pm_Choose_plain an_Choose_plain cd_Choose_plain ct_Choose_plain), sl_Choose_plain⟩)
    (c_Choose_plain : PySem.W.codeIn K cd_Choose_plain "Choose._plain" = true)
    (k_Choose_plain : PySem.W.keepIn K (.ref f_Choose_plain) = true)
    (i_Choose_plain : PySem.W.isFn K (.ref f_Choose_plain) = true)
    (meq_Choose : PySem.W.findIn K (.ref C_Choose) "__eq__" = some (some (.ref f_Node_eq)))
    (minit_Choose : PySem.W.findIn K (.ref C_Choose) "__init__" = some (some (.ref f_Choose_init)))
    (l_Choose_init : K.lookup f_Choose_init = some ⟨oc_Choose_init, od_Choose_init, .func (PySem.W.fnOf "__init__" "Choose.__init__" (defArgs s_Choose_init) (defBody s_Choose_init) (defScope s_Choose_init) .none kV_Choose_init dc_Choose_init pm_Choose_init an_Choose_init cd_Choose_init ct_Choose_init), sl_Choose_init⟩)
    (c_Choose_init : PySem.W.codeIn K cd_Choose_init "Choose.__init__" = true)
    (k_Choose_init : PySem.W.keepIn K (.ref f_Choose_init) = true)
    (i_Choose_init : PySem.W.isFn K (.ref f_Choose_init) = true)
    (minit_Call : PySem.W.findIn K (.ref C_Call) "__init__" = some (some (.ref f_Call_init)))
    (l_Call_init : K.lookup f_Call_init = some ⟨oc_Call_init, od_Call_init, .func (PySem.W.fnOf "__init__" "Call.__init__" (defArgs s_Call_init) (defBody s_Call_init) (defScope s_Call_init) .none kV_Call_init dc_Call_init pm_Call_init an_Call_init cd_Call_init ct_Call_init), sl_Call_init⟩)
    (c_Call_init : PySem.W.codeIn K cd_Call_init "Call.__init__" = true)
    (k_Call_init : PySem.W.keepIn K (.ref f_Call_init) = true)
    (i_Call_init : PySem.W.isFn K (.ref f_Call_init) = true)
    (pg_Number : PySem.W.plainGet K C_Number Str.empty = true)
    (hd_Number : PySem.W.hasDictIn K C_Number = true)
    (po_Number : PySem.W.plainOver K C_Number = true)
    (sa_Number : PySem.W.findIn K (.ref C_Number) "__setattr__" = some (some (.builtin "object.__setattr__")))
    (mk_Number : PySem.W.makesIn K C_Number = true)
    (kc_Number : PySem.W.keepIn K (.ref C_Number) = true)
    (n_Number_value : PySem.W.findIn K (.ref C_Number) "value" = some none)
    (pg_Name : PySem.W.plainGet K C_Name Str.empty = true)
    (hd_Name : PySem.W.hasDictIn K C_Name = true)
    (po_Name : PySem.W.plainOver K C_Name = true)
    (sa_Name : PySem.W.findIn K (.ref C_Name) "__setattr__" = some (some (.builtin "object.__setattr__")))
    (mk_Name : PySem.W.makesIn K C_Name = true)
    (kc_Name : PySem.W.keepIn K (.ref C_Name) = true)
    (n_Name_name : PySem.W.findIn K (.ref C_Name) "name" = some none)
    (pg_Add : PySem.W.plainGet K C_Add Str.empty = true)
    (hd_Add : PySem.W.hasDictIn K C_Add = true)
    (po_Add : PySem.W.plainOver K C_Add = true)
    (sa_Add : PySem.W.findIn K (.ref C_Add) "__setattr__" = some (some (.builtin "object.__setattr__")))
    (mk_Add : PySem.W.makesIn K C_Add = true)
    (kc_Add : PySem.W.keepIn K (.ref C_Add) = true)
    (n_Add_one : PySem.W.findIn K (.ref C_Add) "one" = some none)
    (n_Add_other : PySem.W.findIn K (.ref C_Add) "other" = some none)
    (pg_Subtract : PySem.W.plainGet K C_Subtract Str.empty = true)
    (hd_Subtract : PySem.W.hasDictIn K C_Subtract = true)
    (po_Subtract : PySem.W.plainOver K C_Subtract = true)
    (sa_Subtract : PySem.W.findIn K (.ref C_Subtract) "__setattr__" = some (some (.builtin "object.__setattr__")))
    (mk_Subtract : PySem.W.makesIn K C_Subtract = true)
    (kc_Subtract : PySem.W.keepIn K (.ref C_Subtract) = true)
    (n_Subtract_one : PySem.W.findIn K (.ref C_Subtract) "one" = some none)
    (n_Subtract_other : PySem.W.findIn K (.ref C_Subtract) "other" = some none)
    (pg_Multiply : PySem.W.plainGet K C_Multiply Str.empty = true)
    (hd_Multiply : PySem.W.hasDictIn K C_Multiply = true)
    (po_Multiply : PySem.W.plainOver K C_Multiply = true)
    (sa_Multiply : PySem.W.findIn K (.ref C_Multiply) "__setattr__" = some (some (.builtin "object.__setattr__")))
    (mk_Multiply : PySem.W.makesIn K C_Multiply = true)
    (kc_Multiply : PySem.W.keepIn K (.ref C_Multiply) = true)
    (n_Multiply_one : PySem.W.findIn K (.ref C_Multiply) "one" = some none)
    (n_Multiply_other : PySem.W.findIn K (.ref C_Multiply) "other" = some none)
    (pg_Half : PySem.W.plainGet K C_Half Str.empty = true)
    (hd_Half : PySem.W.hasDictIn K C_Half = true)
    (po_Half : PySem.W.plainOver K C_Half = true)
    (sa_Half : PySem.W.findIn K (.ref C_Half) "__setattr__" = some (some (.builtin "object.__setattr__")))
    (mk_Half : PySem.W.makesIn K C_Half = true)
    (kc_Half : PySem.W.keepIn K (.ref C_Half) = true)
    (n_Half_inner : PySem.W.findIn K (.ref C_Half) "inner" = some none)
    (pg_Over : PySem.W.plainGet K C_Over Str.empty = true)
    (hd_Over : PySem.W.hasDictIn K C_Over = true)
    (po_Over : PySem.W.plainOver K C_Over = true)
    (sa_Over : PySem.W.findIn K (.ref C_Over) "__setattr__" = some (some (.builtin "object.__setattr__")))
    (mk_Over : PySem.W.makesIn K C_Over = true)
    (kc_Over : PySem.W.keepIn K (.ref C_Over) = true)
    (n_Over_top : PySem.W.findIn K (.ref C_Over) "top" = some none)
    (n_Over_bottom : PySem.W.findIn K (.ref C_Over) "bottom" = some none)
    (pg_Power : PySem.W.plainGet K C_Power Str.empty = true)
    (hd_Power : PySem.W.hasDictIn K C_Power = true)
    (po_Power : PySem.W.plainOver K C_Power = true)
    (sa_Power : PySem.W.findIn K (.ref C_Power) "__setattr__" = some (some (.builtin "object.__setattr__")))
    (mk_Power : PySem.W.makesIn K C_Power = true)
    (kc_Power : PySem.W.keepIn K (.ref C_Power) = true)
    (n_Power_base : PySem.W.findIn K (.ref C_Power) "base" = some none)
    (n_Power_times : PySem.W.findIn K (.ref C_Power) "times" = some none)
    (pg_Raised : PySem.W.plainGet K C_Raised Str.empty = true)
    (hd_Raised : PySem.W.hasDictIn K C_Raised = true)
    (po_Raised : PySem.W.plainOver K C_Raised = true)
    (sa_Raised : PySem.W.findIn K (.ref C_Raised) "__setattr__" = some (some (.builtin "object.__setattr__")))
    (mk_Raised : PySem.W.makesIn K C_Raised = true)
    (kc_Raised : PySem.W.keepIn K (.ref C_Raised) = true)
    (n_Raised_base : PySem.W.findIn K (.ref C_Raised) "base" = some none)
    (n_Raised_exponent : PySem.W.findIn K (.ref C_Raised) "exponent" = some none)
    (pg_Choose : PySem.W.plainGet K C_Choose Str.empty = true)
    (hd_Choose : PySem.W.hasDictIn K C_Choose = true)
    (po_Choose : PySem.W.plainOver K C_Choose = true)
    (sa_Choose : PySem.W.findIn K (.ref C_Choose) "__setattr__" = some (some (.builtin "object.__setattr__")))
    (mk_Choose : PySem.W.makesIn K C_Choose = true)
    (kc_Choose : PySem.W.keepIn K (.ref C_Choose) = true)
    (n_Choose_tested : PySem.W.findIn K (.ref C_Choose) "tested" = some none)
    (n_Choose_modulus : PySem.W.findIn K (.ref C_Choose) "modulus" = some none)
    (n_Choose_rest : PySem.W.findIn K (.ref C_Choose) "rest" = some none)
    (n_Choose_yes : PySem.W.findIn K (.ref C_Choose) "yes" = some none)
    (n_Choose_no : PySem.W.findIn K (.ref C_Choose) "no" = some none)
    (pg_Call : PySem.W.plainGet K C_Call Str.empty = true)
    (hd_Call : PySem.W.hasDictIn K C_Call = true)
    (po_Call : PySem.W.plainOver K C_Call = true)
    (sa_Call : PySem.W.findIn K (.ref C_Call) "__setattr__" = some (some (.builtin "object.__setattr__")))
    (mk_Call : PySem.W.makesIn K C_Call = true)
    (kc_Call : PySem.W.keepIn K (.ref C_Call) = true)
    (n_Call_name : PySem.W.findIn K (.ref C_Call) "name" = some none)
    (n_Call_arguments : PySem.W.findIn K (.ref C_Call) "arguments" = some none)
    (ca_Number : PySem.W.findIn K (.ref C_Number) "__class__" = some (some (.builtin "object.__class__")))
    (cm_Number : PySem.W.mroIn K C_Number (.type "object") = some true)
    (ty_Number : PySem.W.typeIn K (.ref C_Number) = some (.type "type"))
    (rd_Number : PySem.W.readsIn K C_Number (.type "type") = true)
    (fc_Number : PySem.W.findCls K (.ref C_Number) (.type "type") "__name__" = some (.get (.builtin "getset_descriptor.__get__") (.builtin "type.__name__") (.ref C_Number) (.type "type")))
    (lk_Number : K.lookup C_Number = some oo_Number)
    (nz_Number : (oo_Number.slots[2]?).join = some (.str "Number" tt_Number))
    (ne_Number : PySem.W.findIn K (.ref C_Number) "__ne__" = some (some (.builtin "object.__ne__")))
    (sb_Number : PySem.W.subIn K (.ref C_Number) (.ref C_Node) = some true)
    (ca_Name : PySem.W.findIn K (.ref C_Name) "__class__" = some (some (.builtin "object.__class__")))
    (cm_Name : PySem.W.mroIn K C_Name (.type "object") = some true)
    (ty_Name : PySem.W.typeIn K (.ref C_Name) = some (.type "type"))
    (rd_Name : PySem.W.readsIn K C_Name (.type "type") = true)
    (fc_Name : PySem.W.findCls K (.ref C_Name) (.type "type") "__name__" = some (.get (.builtin "getset_descriptor.__get__") (.builtin "type.__name__") (.ref C_Name) (.type "type")))
    (lk_Name : K.lookup C_Name = some oo_Name)
    (nz_Name : (oo_Name.slots[2]?).join = some (.str "Name" tt_Name))
    (ne_Name : PySem.W.findIn K (.ref C_Name) "__ne__" = some (some (.builtin "object.__ne__")))
    (sb_Name : PySem.W.subIn K (.ref C_Name) (.ref C_Node) = some true)
    (ca_Add : PySem.W.findIn K (.ref C_Add) "__class__" = some (some (.builtin "object.__class__")))
    (cm_Add : PySem.W.mroIn K C_Add (.type "object") = some true)
    (ty_Add : PySem.W.typeIn K (.ref C_Add) = some (.type "type"))
    (rd_Add : PySem.W.readsIn K C_Add (.type "type") = true)
    (fc_Add : PySem.W.findCls K (.ref C_Add) (.type "type") "__name__" = some (.get (.builtin "getset_descriptor.__get__") (.builtin "type.__name__") (.ref C_Add) (.type "type")))
    (lk_Add : K.lookup C_Add = some oo_Add)
    (nz_Add : (oo_Add.slots[2]?).join = some (.str "Add" tt_Add))
    (ne_Add : PySem.W.findIn K (.ref C_Add) "__ne__" = some (some (.builtin "object.__ne__")))
    (sb_Add : PySem.W.subIn K (.ref C_Add) (.ref C_Node) = some true)
    (ca_Subtract : PySem.W.findIn K (.ref C_Subtract) "__class__" = some (some (.builtin "object.__class__")))
    (cm_Subtract : PySem.W.mroIn K C_Subtract (.type "object") = some true)
    (ty_Subtract : PySem.W.typeIn K (.ref C_Subtract) = some (.type "type"))
    (rd_Subtract : PySem.W.readsIn K C_Subtract (.type "type") = true)
    (fc_Subtract : PySem.W.findCls K (.ref C_Subtract) (.type "type") "__name__" = some (.get (.builtin "getset_descriptor.__get__") (.builtin "type.__name__") (.ref C_Subtract) (.type "type")))
    (lk_Subtract : K.lookup C_Subtract = some oo_Subtract)
    (nz_Subtract : (oo_Subtract.slots[2]?).join = some (.str "Subtract" tt_Subtract))
    (ne_Subtract : PySem.W.findIn K (.ref C_Subtract) "__ne__" = some (some (.builtin "object.__ne__")))
    (sb_Subtract : PySem.W.subIn K (.ref C_Subtract) (.ref C_Node) = some true)
    (ca_Multiply : PySem.W.findIn K (.ref C_Multiply) "__class__" = some (some (.builtin "object.__class__")))
    (cm_Multiply : PySem.W.mroIn K C_Multiply (.type "object") = some true)
    (ty_Multiply : PySem.W.typeIn K (.ref C_Multiply) = some (.type "type"))
    (rd_Multiply : PySem.W.readsIn K C_Multiply (.type "type") = true)
    (fc_Multiply : PySem.W.findCls K (.ref C_Multiply) (.type "type") "__name__" = some (.get (.builtin "getset_descriptor.__get__") (.builtin "type.__name__") (.ref C_Multiply) (.type "type")))
    (lk_Multiply : K.lookup C_Multiply = some oo_Multiply)
    (nz_Multiply : (oo_Multiply.slots[2]?).join = some (.str "Multiply" tt_Multiply))
    (ne_Multiply : PySem.W.findIn K (.ref C_Multiply) "__ne__" = some (some (.builtin "object.__ne__")))
    (sb_Multiply : PySem.W.subIn K (.ref C_Multiply) (.ref C_Node) = some true)
    (ca_Half : PySem.W.findIn K (.ref C_Half) "__class__" = some (some (.builtin "object.__class__")))
    (cm_Half : PySem.W.mroIn K C_Half (.type "object") = some true)
    (ty_Half : PySem.W.typeIn K (.ref C_Half) = some (.type "type"))
    (rd_Half : PySem.W.readsIn K C_Half (.type "type") = true)
    (fc_Half : PySem.W.findCls K (.ref C_Half) (.type "type") "__name__" = some (.get (.builtin "getset_descriptor.__get__") (.builtin "type.__name__") (.ref C_Half) (.type "type")))
    (lk_Half : K.lookup C_Half = some oo_Half)
    (nz_Half : (oo_Half.slots[2]?).join = some (.str "Half" tt_Half))
    (ne_Half : PySem.W.findIn K (.ref C_Half) "__ne__" = some (some (.builtin "object.__ne__")))
    (sb_Half : PySem.W.subIn K (.ref C_Half) (.ref C_Node) = some true)
    (ca_Over : PySem.W.findIn K (.ref C_Over) "__class__" = some (some (.builtin "object.__class__")))
    (cm_Over : PySem.W.mroIn K C_Over (.type "object") = some true)
    (ty_Over : PySem.W.typeIn K (.ref C_Over) = some (.type "type"))
    (rd_Over : PySem.W.readsIn K C_Over (.type "type") = true)
    (fc_Over : PySem.W.findCls K (.ref C_Over) (.type "type") "__name__" = some (.get (.builtin "getset_descriptor.__get__") (.builtin "type.__name__") (.ref C_Over) (.type "type")))
    (lk_Over : K.lookup C_Over = some oo_Over)
    (nz_Over : (oo_Over.slots[2]?).join = some (.str "Over" tt_Over))
    (ne_Over : PySem.W.findIn K (.ref C_Over) "__ne__" = some (some (.builtin "object.__ne__")))
    (sb_Over : PySem.W.subIn K (.ref C_Over) (.ref C_Node) = some true)
    (ca_Power : PySem.W.findIn K (.ref C_Power) "__class__" = some (some (.builtin "object.__class__")))
    (cm_Power : PySem.W.mroIn K C_Power (.type "object") = some true)
    (ty_Power : PySem.W.typeIn K (.ref C_Power) = some (.type "type"))
    (rd_Power : PySem.W.readsIn K C_Power (.type "type") = true)
    (fc_Power : PySem.W.findCls K (.ref C_Power) (.type "type") "__name__" = some (.get (.builtin "getset_descriptor.__get__") (.builtin "type.__name__") (.ref C_Power) (.type "type")))
    (lk_Power : K.lookup C_Power = some oo_Power)
    (nz_Power : (oo_Power.slots[2]?).join = some (.str "Power" tt_Power))
    (ne_Power : PySem.W.findIn K (.ref C_Power) "__ne__" = some (some (.builtin "object.__ne__")))
    (sb_Power : PySem.W.subIn K (.ref C_Power) (.ref C_Node) = some true)
    (ca_Raised : PySem.W.findIn K (.ref C_Raised) "__class__" = some (some (.builtin "object.__class__")))
    (cm_Raised : PySem.W.mroIn K C_Raised (.type "object") = some true)
    (ty_Raised : PySem.W.typeIn K (.ref C_Raised) = some (.type "type"))
    (rd_Raised : PySem.W.readsIn K C_Raised (.type "type") = true)
    (fc_Raised : PySem.W.findCls K (.ref C_Raised) (.type "type") "__name__" = some (.get (.builtin "getset_descriptor.__get__") (.builtin "type.__name__") (.ref C_Raised) (.type "type")))
    (lk_Raised : K.lookup C_Raised = some oo_Raised)
    (nz_Raised : (oo_Raised.slots[2]?).join = some (.str "Raised" tt_Raised))
    (ne_Raised : PySem.W.findIn K (.ref C_Raised) "__ne__" = some (some (.builtin "object.__ne__")))
    (sb_Raised : PySem.W.subIn K (.ref C_Raised) (.ref C_Node) = some true)
    (ca_Choose : PySem.W.findIn K (.ref C_Choose) "__class__" = some (some (.builtin "object.__class__")))
    (cm_Choose : PySem.W.mroIn K C_Choose (.type "object") = some true)
    (ty_Choose : PySem.W.typeIn K (.ref C_Choose) = some (.type "type"))
    (rd_Choose : PySem.W.readsIn K C_Choose (.type "type") = true)
    (fc_Choose : PySem.W.findCls K (.ref C_Choose) (.type "type") "__name__" = some (.get (.builtin "getset_descriptor.__get__") (.builtin "type.__name__") (.ref C_Choose) (.type "type")))
    (lk_Choose : K.lookup C_Choose = some oo_Choose)
    (nz_Choose : (oo_Choose.slots[2]?).join = some (.str "Choose" tt_Choose))
    (ne_Choose : PySem.W.findIn K (.ref C_Choose) "__ne__" = some (some (.builtin "object.__ne__")))
    (sb_Choose : PySem.W.subIn K (.ref C_Choose) (.ref C_Node) = some true)
    (cn : PySem.W.specialIn K (.builtin "object.__class__") "__get__" = some (some (.builtin "getset_descriptor.__get__")))
    (ct : PySem.W.takesIn K (.builtin "object.__class__") = some true)
    (cls_Node : PySem.W.isClsIn K C_Node = true)
    (ty_Node : PySem.W.typeIn K (.ref C_Node) = some (.type "type"))
    (xI : PySem.W.excIn K C_InvalidNode [.type "ValueError", .type "Exception", .type "BaseException", .type "object"] "ValueError.__new__" = true)
    (kI : PySem.W.keepIn K (.ref C_InvalidNode) = true)
    (bI : PySem.W.subIn K (.ref C_InvalidNode) (.type "BaseException") = some true)
    (tI : PySem.W.typeIn K (.ref C_InvalidNode) = some (.type "type"))
    (gI : PySem.W.findIn K (.ref C_InvalidNode) "__getattribute__" = some (some (.builtin "BaseException.__getattribute__")))
    (hI : PySem.W.findIn K (.ref C_InvalidNode) "__getattr__" = some none)
    (dI : PySem.W.hasDictIn K C_InvalidNode = true)
    (caI : PySem.W.findIn K (.ref C_InvalidNode) "__class__" = some (some (.builtin "object.__class__")))
    (cmI : PySem.W.mroIn K C_InvalidNode (.type "object") = some true)
    (bL : PySem.W.subIn K (.ref C_LowError) (.type "BaseException") = some true)
    (dL : PySem.W.hasDictIn K C_LowError = true)
    (tL : PySem.W.typeIn K (.ref C_LowError) = some (.type "type"))
    (sIL : PySem.W.subIn K (.ref C_InvalidNode) (.ref C_LowError) = some true)
    (gl_LIMIT : PySem.W.nsIn K mainGlobals "LIMIT" = some (some (.int 18446744073709551616 t1)))
    (gl_LONG : PySem.W.nsIn K mainGlobals "LONGEST_NAME" = some (some (.int 8 t2)))
    (gl_TIMES : PySem.W.nsIn K mainGlobals "MOST_TIMES" = some (some (.int 64 t3)))
    (gl_WORDS : PySem.W.nsIn K mainGlobals "WORDS" = some (some (.ref aW)))
    (gl_MODULI : PySem.W.nsIn K mainGlobals "MODULI" = some (some (.ref aM)))
    (lW : K.lookup aW = some ⟨.type "tuple", odW, .seq itsW nW, slW⟩)
    (lM : K.lookup aM = some ⟨.type "tuple", odM, .seq itsM nM, slM⟩)
    (sW : strsAre itsW.toList (keptL.map wd) = true)
    (sM : intsAre itsM.toList [2, 4, 8, 16, 32, 64] = true)
    (zW : Nat.ble itsW.size 1000 = true)
    (zM : Nat.ble itsM.size 1000 = true)
    (z_len : PySem.W.nsIn K mainGlobals "len" = some none)
    (z_max : PySem.W.nsIn K mainGlobals "max" = some none)
    (z_list : PySem.W.nsIn K mainGlobals "list" = some none)
    (z_tuple : PySem.W.nsIn K mainGlobals "tuple" = some none)
    (z_reversed : PySem.W.nsIn K mainGlobals "reversed" = some none)
    (z_range : PySem.W.nsIn K mainGlobals "range" = some none)
    (z_int : PySem.W.nsIn K mainGlobals "int" = some none)
    (z_str : PySem.W.nsIn K mainGlobals "str" = some none)
    (z_bool : PySem.W.nsIn K mainGlobals "bool" = some none)
    (z_isinstance : PySem.W.nsIn K mainGlobals "isinstance" = some none)
    (z_all : PySem.W.nsIn K mainGlobals "all" = some none) :
    ∃ fd : FuncData, (∀ (s : Shared) (v : Value), BindsTo s fd ⟨[v], []⟩ [("_law_script", v)]) ∧ ∀ base : Heap, K.In base → base.Ns mainGlobals mg → FnOk P w K mg base CX0 13 fa fd ["_law_script"] (spLaw K) := by
  have e := hfa.symm.trans (PySem.W.mg_of X G a_law)
  cases e
  refine ⟨PySem.W.fnOf "law" "law" (defArgs s_law) (defBody s_law) (defScope s_law) .none kV_law dc_law pm_law an_law cd_law ct_law, fun s v => .of_eq rfl, fun base _ _ => ?_⟩
  have F_is_integer := fun_mk (st := s_is_integer) l_is_integer c_is_integer k_is_integer
  have F_is_between := fun_mk (st := s_is_between) l_is_between c_is_between k_is_between
  have F_is_small := fun_mk (st := s_is_small) l_is_small c_is_small k_is_small
  have F_is_name := fun_mk (st := s_is_name) l_is_name c_is_name k_is_name
  have F_flat := fun_mk (st := s_flat) l_flat c_flat k_flat
  have F_outline := fun_mk (st := s_outline) l_outline c_outline k_outline
  have F_law_deal := fun_mk (st := s_law_deal) l_law_deal c_law_deal k_law_deal
  have F_law_draw := fun_mk (st := s_law_draw) l_law_draw c_law_draw k_law_draw
  have F_law_mixed := fun_mk (st := s_law_mixed) l_law_mixed c_law_mixed k_law_mixed
  have F_law_any_word := fun_mk (st := s_law_any_word) l_law_any_word c_law_any_word k_law_any_word
  have F_law_words := fun_mk (st := s_law_words) l_law_words c_law_words k_law_words
  have F_law_number := fun_mk (st := s_law_number) l_law_number c_law_number k_law_number
  have F_law_leaf := fun_mk (st := s_law_leaf) l_law_leaf c_law_leaf k_law_leaf
  have F_law_term := fun_mk (st := s_law_term) l_law_term c_law_term k_law_term
  have F_law_held := fun_mk (st := s_law_held) l_law_held c_law_held k_law_held
  have F_law_node := fun_mk (st := s_law_node) l_law_node c_law_node k_law_node
  have F_law_is_name := fun_mk (st := s_law_is_name) l_law_is_name c_law_is_name k_law_is_name
  have F_law_tried := fun_mk (st := s_law_tried) l_law_tried c_law_tried k_law_tried
  have F_law_plain := fun_mk (st := s_law_plain) l_law_plain c_law_plain k_law_plain
  have F_law_pairs_right := fun_mk (st := s_law_pairs_right) l_law_pairs_right c_law_pairs_right k_law_pairs_right
  have F_law_call_right := fun_mk (st := s_law_call_right) l_law_call_right c_law_call_right k_law_call_right
  have F_law := fun_mk (st := s_law) l_law c_law k_law
  have F_Node_nodes := fun_mk (st := s_Node_nodes) l_Node_nodes c_Node_nodes k_Node_nodes
  have F_Node_plain := fun_mk (st := s_Node_plain) l_Node_plain c_Node_plain k_Node_plain
  have F_Number_plain := fun_mk (st := s_Number_plain) l_Number_plain c_Number_plain k_Number_plain
  have F_Name_plain := fun_mk (st := s_Name_plain) l_Name_plain c_Name_plain k_Name_plain
  have F_Pair_nodes := fun_mk (st := s_Pair_nodes) l_Pair_nodes c_Pair_nodes k_Pair_nodes
  have F_Half_nodes := fun_mk (st := s_Half_nodes) l_Half_nodes c_Half_nodes k_Half_nodes
  have F_Over_nodes := fun_mk (st := s_Over_nodes) l_Over_nodes c_Over_nodes k_Over_nodes
  have F_Power_nodes := fun_mk (st := s_Power_nodes) l_Power_nodes c_Power_nodes k_Power_nodes
  have F_Power_plain := fun_mk (st := s_Power_plain) l_Power_plain c_Power_plain k_Power_plain
  have F_Raised_nodes := fun_mk (st := s_Raised_nodes) l_Raised_nodes c_Raised_nodes k_Raised_nodes
  have F_Choose_nodes := fun_mk (st := s_Choose_nodes) l_Choose_nodes c_Choose_nodes k_Choose_nodes
  have F_Choose_plain := fun_mk (st := s_Choose_plain) l_Choose_plain c_Choose_plain k_Choose_plain
  have F_Node_eq := fun_mk (st := s_Node_eq) l_Node_eq c_Node_eq k_Node_eq
  have F_Number_init := fun_mk (st := s_Number_init) l_Number_init c_Number_init k_Number_init
  have F_Name_init := fun_mk (st := s_Name_init) l_Name_init c_Name_init k_Name_init
  have F_Add_init := fun_mk (st := s_Add_init) l_Add_init c_Add_init k_Add_init
  have F_Subtract_init := fun_mk (st := s_Subtract_init) l_Subtract_init c_Subtract_init k_Subtract_init
  have F_Multiply_init := fun_mk (st := s_Multiply_init) l_Multiply_init c_Multiply_init k_Multiply_init
  have F_Half_init := fun_mk (st := s_Half_init) l_Half_init c_Half_init k_Half_init
  have F_Over_init := fun_mk (st := s_Over_init) l_Over_init c_Over_init k_Over_init
  have F_Power_init := fun_mk (st := s_Power_init) l_Power_init c_Power_init k_Power_init
  have F_Raised_init := fun_mk (st := s_Raised_init) l_Raised_init c_Raised_init k_Raised_init
  have F_Choose_init := fun_mk (st := s_Choose_init) l_Choose_init c_Choose_init k_Choose_init
  have F_Call_init := fun_mk (st := s_Call_init) l_Call_init c_Call_init k_Call_init
  have b_is_integer := F_is_integer.binds (ps := ["value"]) fun _ _ _ _ _ _ us hl => match us, hl with | [_], _ => rfl
  have b_is_between := F_is_between.binds (ps := ["value", "least", "most"]) fun _ _ _ _ _ _ us hl => match us, hl with | [_, _, _], _ => rfl
  have b_is_small := F_is_small.binds (ps := ["value"]) fun _ _ _ _ _ _ us hl => match us, hl with | [_], _ => rfl
  have b_is_name := F_is_name.binds (ps := ["value"]) fun _ _ _ _ _ _ us hl => match us, hl with | [_], _ => rfl
  have b_flat := F_flat.binds (ps := ["node"]) fun _ _ _ _ _ _ us hl => match us, hl with | [_], _ => rfl
  have b_outline := F_outline.binds (ps := ["node"]) fun _ _ _ _ _ _ us hl => match us, hl with | [_], _ => rfl
  have b_law_deal := F_law_deal.binds (ps := ["_law_script", "_law_base"]) fun _ _ _ _ _ _ us hl => match us, hl with | [_, _], _ => rfl
  have b_law_draw := F_law_draw.binds (ps := ["_law_deal_here", "_law_many"]) fun _ _ _ _ _ _ us hl => match us, hl with | [_, _], _ => rfl
  have b_law_mixed := F_law_mixed.binds (ps := ["_law_deal_here", "_law_items"]) fun _ _ _ _ _ _ us hl => match us, hl with | [_, _], _ => rfl
  have b_law_any_word := F_law_any_word.binds (ps := ["_law_deal_here", "_law_last"]) fun _ _ _ _ _ _ us hl => match us, hl with | [_, _], _ => rfl
  have b_law_words := F_law_words.binds (ps := ["_law_deal_here", "_law_many"]) fun _ _ _ _ _ _ us hl => match us, hl with | [_, _], _ => rfl
  have b_law_number := F_law_number.binds (ps := ["_law_deal_here"]) fun _ _ _ _ _ _ us hl => match us, hl with | [_], _ => rfl
  have b_law_leaf := F_law_leaf.binds (ps := ["_law_deal_here", "_law_names"]) fun _ _ _ _ _ _ us hl => match us, hl with | [_, _], _ => rfl
  have b_law_term := F_law_term.binds (ps := ["_law_deal_here", "_law_names", "_law_deep", "_law_kinds"]) fun _ _ _ _ _ _ us hl => match us, hl with | [_, _, _, _], _ => rfl
  have b_law_held := F_law_held.binds (ps := ["_law_term_here"]) fun _ _ _ _ _ _ us hl => match us, hl with | [_], _ => rfl
  have b_law_node := F_law_node.binds (ps := ["_law_term_here"]) fun _ _ _ _ _ _ us hl => match us, hl with | [_], _ => rfl
  have b_law_is_name := F_law_is_name.binds (ps := ["_law_word"]) fun _ _ _ _ _ _ us hl => match us, hl with | [_], _ => rfl
  have b_law_tried := F_law_tried.binds (ps := ["_law_form", "_law_a", "_law_b", "_law_c"]) fun _ _ _ _ _ _ us hl => match us, hl with | [_, _, _, _], _ => rfl
  have b_law_plain := F_law_plain.binds (ps := ["_law_value", "_law_least", "_law_most"]) fun _ _ _ _ _ _ us hl => match us, hl with | [_, _, _], _ => rfl
  have b_law_pairs_right := F_law_pairs_right.binds (ps := ["_law_deal_here", "_law_names"]) fun _ _ _ _ _ _ us hl => match us, hl with | [_, _], _ => rfl
  have b_law_call_right := F_law_call_right.binds (ps := ["_law_deal_here", "_law_names", "_law_word", "_law_is_word"]) fun _ _ _ _ _ _ us hl => match us, hl with | [_, _, _, _], _ => rfl
  have b_law := F_law.binds (ps := ["_law_script"]) fun _ _ _ _ _ _ us hl => match us, hl with | [_], _ => rfl
  have b_Node_nodes := F_Node_nodes.binds (ps := ["self"]) fun _ _ _ _ _ _ us hl => match us, hl with | [_], _ => rfl
  have b_Node_plain := F_Node_plain.binds (ps := ["self"]) fun _ _ _ _ _ _ us hl => match us, hl with | [_], _ => rfl
  have b_Number_plain := F_Number_plain.binds (ps := ["self"]) fun _ _ _ _ _ _ us hl => match us, hl with | [_], _ => rfl
  have b_Name_plain := F_Name_plain.binds (ps := ["self"]) fun _ _ _ _ _ _ us hl => match us, hl with | [_], _ => rfl
  have b_Pair_nodes := F_Pair_nodes.binds (ps := ["self"]) fun _ _ _ _ _ _ us hl => match us, hl with | [_], _ => rfl
  have b_Half_nodes := F_Half_nodes.binds (ps := ["self"]) fun _ _ _ _ _ _ us hl => match us, hl with | [_], _ => rfl
  have b_Over_nodes := F_Over_nodes.binds (ps := ["self"]) fun _ _ _ _ _ _ us hl => match us, hl with | [_], _ => rfl
  have b_Power_nodes := F_Power_nodes.binds (ps := ["self"]) fun _ _ _ _ _ _ us hl => match us, hl with | [_], _ => rfl
  have b_Power_plain := F_Power_plain.binds (ps := ["self"]) fun _ _ _ _ _ _ us hl => match us, hl with | [_], _ => rfl
  have b_Raised_nodes := F_Raised_nodes.binds (ps := ["self"]) fun _ _ _ _ _ _ us hl => match us, hl with | [_], _ => rfl
  have b_Choose_nodes := F_Choose_nodes.binds (ps := ["self"]) fun _ _ _ _ _ _ us hl => match us, hl with | [_], _ => rfl
  have b_Choose_plain := F_Choose_plain.binds (ps := ["self"]) fun _ _ _ _ _ _ us hl => match us, hl with | [_], _ => rfl
  have b_Node_eq := F_Node_eq.binds (ps := ["self", "other"]) fun _ _ _ _ _ _ us hl => match us, hl with | [_, _], _ => rfl
  have b_Number_init := F_Number_init.binds (ps := ["self", "value"]) fun _ _ _ _ _ _ us hl => match us, hl with | [_, _], _ => rfl
  have b_Name_init := F_Name_init.binds (ps := ["self", "name"]) fun _ _ _ _ _ _ us hl => match us, hl with | [_, _], _ => rfl
  have b_Add_init := F_Add_init.binds (ps := ["self", "one", "other"]) fun _ _ _ _ _ _ us hl => match us, hl with | [_, _, _], _ => rfl
  have b_Subtract_init := F_Subtract_init.binds (ps := ["self", "one", "other"]) fun _ _ _ _ _ _ us hl => match us, hl with | [_, _, _], _ => rfl
  have b_Multiply_init := F_Multiply_init.binds (ps := ["self", "one", "other"]) fun _ _ _ _ _ _ us hl => match us, hl with | [_, _, _], _ => rfl
  have b_Half_init := F_Half_init.binds (ps := ["self", "inner"]) fun _ _ _ _ _ _ us hl => match us, hl with | [_, _], _ => rfl
  have b_Over_init := F_Over_init.binds (ps := ["self", "top", "bottom"]) fun _ _ _ _ _ _ us hl => match us, hl with | [_, _, _], _ => rfl
  have b_Power_init := F_Power_init.binds (ps := ["self", "base", "times"]) fun _ _ _ _ _ _ us hl => match us, hl with | [_, _, _], _ => rfl
  have b_Raised_init := F_Raised_init.binds (ps := ["self", "base", "exponent"]) fun _ _ _ _ _ _ us hl => match us, hl with | [_, _, _], _ => rfl
  have b_Choose_init := F_Choose_init.binds (ps := ["self", "tested", "modulus", "rest", "yes", "no"]) fun _ _ _ _ _ _ us hl => match us, hl with | [_, _, _, _, _, _], _ => rfl
  have b_Call_init := F_Call_init.binds (ps := ["self", "name", "arguments"]) fun _ _ _ _ _ _ us hl => match us, hl with | [_, _, _], _ => rfl
  have T : Glob mg := ⟨PySem.W.mg_none_of X G z_len, PySem.W.mg_none_of X G z_max, PySem.W.mg_none_of X G z_list, PySem.W.mg_none_of X G z_tuple, PySem.W.mg_none_of X G z_reversed, PySem.W.mg_none_of X G z_range, PySem.W.mg_none_of X G z_int, PySem.W.mg_none_of X G z_str, PySem.W.mg_none_of X G z_bool, PySem.W.mg_none_of X G z_isinstance, PySem.W.mg_none_of X G z_all⟩
  have T2 : Tabs K mg := ⟨⟨t1, PySem.W.mg_of X G gl_LIMIT⟩, ⟨t2, PySem.W.mg_of X G gl_LONG⟩, ⟨t3, PySem.W.mg_of X G gl_TIMES⟩, ⟨aW, PySem.W.mg_of X G gl_WORDS, fun H => .inr ⟨_, itsW, nW, lW, rfl, rfl, ble_size zW, strs_vals sW⟩⟩, ⟨aM, PySem.W.mg_of X G gl_MODULI, fun H => .inr ⟨_, itsM, nM, lM, rfl, rfl, ble_size zM, ints_vals sM⟩⟩⟩
  have IV : InvN K mg C_InvalidNode := ⟨PySem.W.mg_of X G a_InvalidNode, xI, kI, bI, tI⟩
  have EC : ExcC K C_InvalidNode := ⟨gI, hI, bI, dI, caI, cn, ct, cmI⟩
  have hex : PySem.W.exmOne K (.ref C_InvalidNode) (.ref C_LowError) = some true := PySem.W.exm_ref bL dL tL sIL
  have cl_Number : Cls K C_Number := ⟨pg_Number, hd_Number, po_Number, sa_Number⟩
  have cl_Name : Cls K C_Name := ⟨pg_Name, hd_Name, po_Name, sa_Name⟩
  have cl_Add : Cls K C_Add := ⟨pg_Add, hd_Add, po_Add, sa_Add⟩
  have cl_Subtract : Cls K C_Subtract := ⟨pg_Subtract, hd_Subtract, po_Subtract, sa_Subtract⟩
  have cl_Multiply : Cls K C_Multiply := ⟨pg_Multiply, hd_Multiply, po_Multiply, sa_Multiply⟩
  have cl_Half : Cls K C_Half := ⟨pg_Half, hd_Half, po_Half, sa_Half⟩
  have cl_Over : Cls K C_Over := ⟨pg_Over, hd_Over, po_Over, sa_Over⟩
  have cl_Power : Cls K C_Power := ⟨pg_Power, hd_Power, po_Power, sa_Power⟩
  have cl_Raised : Cls K C_Raised := ⟨pg_Raised, hd_Raised, po_Raised, sa_Raised⟩
  have cl_Choose : Cls K C_Choose := ⟨pg_Choose, hd_Choose, po_Choose, sa_Choose⟩
  have cl_Call : Cls K C_Call := ⟨pg_Call, hd_Call, po_Call, sa_Call⟩
  obtain ⟨c, hc⟩ : ∃ c : CA, c = ⟨C_Number, C_Name, C_Add, C_Subtract, C_Multiply, C_Half, C_Over, C_Power, C_Raised, C_Choose⟩ := ⟨_, rfl⟩
  subst hc
  have N : NodesOk P w K mg base ⟨C_Number, C_Name, C_Add, C_Subtract, C_Multiply, C_Half, C_Over, C_Power, C_Raised, C_Choose⟩ := { cl := (fun T => match T with | .num _ => cl_Number | .nam _ => cl_Name | .two .add _ _ => cl_Add | .two .sub _ _ => cl_Subtract | .two .mul _ _ => cl_Multiply | .two .over _ _ => cl_Over | .two .rai _ _ => cl_Raised | .half _ => cl_Half | .pow _ _ => cl_Power | .cho _ _ _ _ _ => cl_Choose), nm := (fun T => match T with | .num _ => ⟨ca_Number, cn, ct, cm_Number, ty_Number, rd_Number, fc_Number, ⟨_, lk_Number, _, nz_Number⟩⟩ | .nam _ => ⟨ca_Name, cn, ct, cm_Name, ty_Name, rd_Name, fc_Name, ⟨_, lk_Name, _, nz_Name⟩⟩ | .two .add _ _ => ⟨ca_Add, cn, ct, cm_Add, ty_Add, rd_Add, fc_Add, ⟨_, lk_Add, _, nz_Add⟩⟩ | .two .sub _ _ => ⟨ca_Subtract, cn, ct, cm_Subtract, ty_Subtract, rd_Subtract, fc_Subtract, ⟨_, lk_Subtract, _, nz_Subtract⟩⟩ | .two .mul _ _ => ⟨ca_Multiply, cn, ct, cm_Multiply, ty_Multiply, rd_Multiply, fc_Multiply, ⟨_, lk_Multiply, _, nz_Multiply⟩⟩ | .two .over _ _ => ⟨ca_Over, cn, ct, cm_Over, ty_Over, rd_Over, fc_Over, ⟨_, lk_Over, _, nz_Over⟩⟩ | .two .rai _ _ => ⟨ca_Raised, cn, ct, cm_Raised, ty_Raised, rd_Raised, fc_Raised, ⟨_, lk_Raised, _, nz_Raised⟩⟩ | .half _ => ⟨ca_Half, cn, ct, cm_Half, ty_Half, rd_Half, fc_Half, ⟨_, lk_Half, _, nz_Half⟩⟩ | .pow _ _ => ⟨ca_Power, cn, ct, cm_Power, ty_Power, rd_Power, fc_Power, ⟨_, lk_Power, _, nz_Power⟩⟩ | .cho _ _ _ _ _ => ⟨ca_Choose, cn, ct, cm_Choose, ty_Choose, rd_Choose, fc_Choose, ⟨_, lk_Choose, _, nz_Choose⟩⟩), nd := (fun T => match T with | .num _ => ⟨_, _, ⟨m_nodes_Number, i_Node_nodes, k_Node_nodes⟩, ok_Node_nodes F_Node_nodes, b_Node_nodes⟩ | .nam _ => ⟨_, _, ⟨m_nodes_Name, i_Node_nodes, k_Node_nodes⟩, ok_Node_nodes F_Node_nodes, b_Node_nodes⟩ | .two .add _ _ => ⟨_, _, ⟨m_nodes_Add, i_Pair_nodes, k_Pair_nodes⟩, ok_Pair_nodes F_Pair_nodes cl_Add n_Add_one n_Add_other, b_Pair_nodes⟩ | .two .sub _ _ => ⟨_, _, ⟨m_nodes_Subtract, i_Pair_nodes, k_Pair_nodes⟩, ok_Pair_nodes F_Pair_nodes cl_Subtract n_Subtract_one n_Subtract_other, b_Pair_nodes⟩ | .two .mul _ _ => ⟨_, _, ⟨m_nodes_Multiply, i_Pair_nodes, k_Pair_nodes⟩, ok_Pair_nodes F_Pair_nodes cl_Multiply n_Multiply_one n_Multiply_other, b_Pair_nodes⟩ | .two .over _ _ => ⟨_, _, ⟨m_nodes_Over, i_Over_nodes, k_Over_nodes⟩, ok_Over_nodes F_Over_nodes cl_Over n_Over_top n_Over_bottom, b_Over_nodes⟩ | .two .rai _ _ => ⟨_, _, ⟨m_nodes_Raised, i_Raised_nodes, k_Raised_nodes⟩, ok_Raised_nodes F_Raised_nodes cl_Raised n_Raised_base n_Raised_exponent, b_Raised_nodes⟩ | .half _ => ⟨_, _, ⟨m_nodes_Half, i_Half_nodes, k_Half_nodes⟩, ok_Half_nodes F_Half_nodes cl_Half n_Half_inner, b_Half_nodes⟩ | .pow _ _ => ⟨_, _, ⟨m_nodes_Power, i_Power_nodes, k_Power_nodes⟩, ok_Power_nodes F_Power_nodes cl_Power n_Power_base, b_Power_nodes⟩ | .cho _ _ _ _ _ => ⟨_, _, ⟨m_nodes_Choose, i_Choose_nodes, k_Choose_nodes⟩, ok_Choose_nodes F_Choose_nodes cl_Choose n_Choose_tested n_Choose_yes n_Choose_no, b_Choose_nodes⟩), pl := (fun T => match T with | .num _ => ⟨_, _, ⟨m_plain_Number, i_Number_plain, k_Number_plain⟩, ok_Number_plain F_Number_plain cl_Number n_Number_value, b_Number_plain⟩ | .nam _ => ⟨_, _, ⟨m_plain_Name, i_Name_plain, k_Name_plain⟩, ok_Name_plain F_Name_plain cl_Name n_Name_name, b_Name_plain⟩ | .two .add _ _ => ⟨_, _, ⟨m_plain_Add, i_Node_plain, k_Node_plain⟩, ok_Node_plain F_Node_plain, b_Node_plain⟩ | .two .sub _ _ => ⟨_, _, ⟨m_plain_Subtract, i_Node_plain, k_Node_plain⟩, ok_Node_plain F_Node_plain, b_Node_plain⟩ | .two .mul _ _ => ⟨_, _, ⟨m_plain_Multiply, i_Node_plain, k_Node_plain⟩, ok_Node_plain F_Node_plain, b_Node_plain⟩ | .two .over _ _ => ⟨_, _, ⟨m_plain_Over, i_Node_plain, k_Node_plain⟩, ok_Node_plain F_Node_plain, b_Node_plain⟩ | .two .rai _ _ => ⟨_, _, ⟨m_plain_Raised, i_Node_plain, k_Node_plain⟩, ok_Node_plain F_Node_plain, b_Node_plain⟩ | .half _ => ⟨_, _, ⟨m_plain_Half, i_Node_plain, k_Node_plain⟩, ok_Node_plain F_Node_plain, b_Node_plain⟩ | .pow _ _ => ⟨_, _, ⟨m_plain_Power, i_Power_plain, k_Power_plain⟩, ok_Power_plain F_Power_plain cl_Power n_Power_times, b_Power_plain⟩ | .cho _ _ _ _ _ => ⟨_, _, ⟨m_plain_Choose, i_Choose_plain, k_Choose_plain⟩, ok_Choose_plain F_Choose_plain cl_Choose n_Choose_modulus n_Choose_rest, b_Choose_plain⟩) }
  have D_is_integer : Df P w K mg base 1 "is_integer" ["value"] spIsInt := ⟨f_is_integer, _, ok_is_integer F_is_integer T, PySem.W.mg_of X G a_is_integer, k_is_integer, b_is_integer⟩
  have D_is_between : Df P w K mg base 2 "is_between" ["value", "least", "most"] spBtw := ⟨f_is_between, _, ok_is_between F_is_between D_is_integer, PySem.W.mg_of X G a_is_between, k_is_between, b_is_between⟩
  have D_is_small : Df P w K mg base 2 "is_small" ["value"] spSmall := ⟨f_is_small, _, ok_is_small F_is_small T2 D_is_integer, PySem.W.mg_of X G a_is_small, k_is_small, b_is_small⟩
  have D_is_name : Df P w K mg base 1 "is_name" ["value"] spIsName := ⟨f_is_name, _, ok_is_name F_is_name T T2, PySem.W.mg_of X G a_is_name, k_is_name, b_is_name⟩
  have D_flat : Df P w K mg base 2 "flat" ["node"] (spFlat ⟨C_Number, C_Name, C_Add, C_Subtract, C_Multiply, C_Half, C_Over, C_Power, C_Raised, C_Choose⟩) := ⟨f_flat, _, ok_flat F_flat T N, PySem.W.mg_of X G a_flat, k_flat, b_flat⟩
  have D_outline : Df P w K mg base 3 "outline" ["node"] (spOut ⟨C_Number, C_Name, C_Add, C_Subtract, C_Multiply, C_Half, C_Over, C_Power, C_Raised, C_Choose⟩) := ⟨f_outline, _, ok_outline F_outline T N D_flat, PySem.W.mg_of X G a_outline, k_outline, b_outline⟩
  have M : Mks P w K mg base ⟨C_Number, C_Name, C_Add, C_Subtract, C_Multiply, C_Half, C_Over, C_Power, C_Raised, C_Choose⟩ := { num := ⟨f_Number_init, _, ⟨mk_Number, minit_Number, i_Number_init, kc_Number⟩, ok_Number_init (cI := C_InvalidNode) F_Number_init T T2 cl_Number n_Number_value D_is_small, PySem.W.mg_of X G a_Number, b_Number_init⟩, nam := ⟨f_Name_init, _, ⟨mk_Name, minit_Name, i_Name_init, kc_Name⟩, ok_Name_init (cI := C_InvalidNode) F_Name_init T T2 cl_Name n_Name_name D_is_name, PySem.W.mg_of X G a_Name, b_Name_init⟩, add := ⟨f_Add_init, _, ⟨mk_Add, minit_Add, i_Add_init, kc_Add⟩, ok_Add_init F_Add_init cl_Add n_Add_one n_Add_other, PySem.W.mg_of X G a_Add, b_Add_init⟩, sub := ⟨f_Subtract_init, _, ⟨mk_Subtract, minit_Subtract, i_Subtract_init, kc_Subtract⟩, ok_Subtract_init F_Subtract_init cl_Subtract n_Subtract_one n_Subtract_other, PySem.W.mg_of X G a_Subtract, b_Subtract_init⟩, mul := ⟨f_Multiply_init, _, ⟨mk_Multiply, minit_Multiply, i_Multiply_init, kc_Multiply⟩, ok_Multiply_init F_Multiply_init cl_Multiply n_Multiply_one n_Multiply_other, PySem.W.mg_of X G a_Multiply, b_Multiply_init⟩, half := ⟨f_Half_init, _, ⟨mk_Half, minit_Half, i_Half_init, kc_Half⟩, ok_Half_init F_Half_init cl_Half n_Half_inner, PySem.W.mg_of X G a_Half, b_Half_init⟩, over := ⟨f_Over_init, _, ⟨mk_Over, minit_Over, i_Over_init, kc_Over⟩, ok_Over_init F_Over_init cl_Over n_Over_top n_Over_bottom, PySem.W.mg_of X G a_Over, b_Over_init⟩, pow := ⟨f_Power_init, _, ⟨mk_Power, minit_Power, i_Power_init, kc_Power⟩, ok_Power_init (cI := C_InvalidNode) F_Power_init T T2 cl_Power n_Power_base n_Power_times D_is_between, PySem.W.mg_of X G a_Power, b_Power_init⟩, rai := ⟨f_Raised_init, _, ⟨mk_Raised, minit_Raised, i_Raised_init, kc_Raised⟩, ok_Raised_init F_Raised_init cl_Raised n_Raised_base n_Raised_exponent, PySem.W.mg_of X G a_Raised, b_Raised_init⟩, cho := ⟨f_Choose_init, _, ⟨mk_Choose, minit_Choose, i_Choose_init, kc_Choose⟩, ok_Choose_init (cI := C_InvalidNode) F_Choose_init T T2 cl_Choose n_Choose_tested n_Choose_modulus n_Choose_rest n_Choose_yes n_Choose_no D_is_integer D_is_between, PySem.W.mg_of X G a_Choose, b_Choose_init⟩ }
  have MX : MksX P w K mg base ⟨C_Number, C_Name, C_Add, C_Subtract, C_Multiply, C_Half, C_Over, C_Power, C_Raised, C_Choose⟩ C_InvalidNode C_Call := { num := ⟨f_Number_init, _, ⟨mk_Number, minit_Number, i_Number_init, kc_Number⟩, okX_Number_init F_Number_init T T2 IV cl_Number n_Number_value D_is_small, PySem.W.mg_of X G a_Number, b_Number_init⟩, nam := ⟨f_Name_init, _, ⟨mk_Name, minit_Name, i_Name_init, kc_Name⟩, okX_Name_init F_Name_init T T2 IV cl_Name n_Name_name D_is_name, PySem.W.mg_of X G a_Name, b_Name_init⟩, pow := ⟨f_Power_init, _, ⟨mk_Power, minit_Power, i_Power_init, kc_Power⟩, okX_Power_init F_Power_init T T2 IV cl_Power n_Power_base n_Power_times D_is_between, PySem.W.mg_of X G a_Power, b_Power_init⟩, cho := ⟨f_Choose_init, _, ⟨mk_Choose, minit_Choose, i_Choose_init, kc_Choose⟩, okX_Choose_init F_Choose_init T T2 IV cl_Choose n_Choose_tested n_Choose_modulus n_Choose_rest n_Choose_yes n_Choose_no D_is_integer D_is_between, PySem.W.mg_of X G a_Choose, b_Choose_init⟩, call := ⟨f_Call_init, _, ⟨mk_Call, minit_Call, i_Call_init, kc_Call⟩, okX_Call_init F_Call_init T IV cl_Call n_Call_name n_Call_arguments D_is_name, PySem.W.mg_of X G a_Call, b_Call_init⟩ }
  have A : NoA K ⟨C_Number, C_Name, C_Add, C_Subtract, C_Multiply, C_Half, C_Over, C_Power, C_Raised, C_Choose⟩ C_Call := { num_value := n_Number_value, nam_name := n_Name_name, add_one := n_Add_one, add_other := n_Add_other, sub_one := n_Subtract_one, sub_other := n_Subtract_other, mul_one := n_Multiply_one, mul_other := n_Multiply_other, half_inner := n_Half_inner, over_top := n_Over_top, over_bottom := n_Over_bottom, pow_base := n_Power_base, pow_times := n_Power_times, rai_base := n_Raised_base, rai_exponent := n_Raised_exponent, cho_tested := n_Choose_tested, cho_modulus := n_Choose_modulus, cho_rest := n_Choose_rest, cho_yes := n_Choose_yes, cho_no := n_Choose_no, call_name := n_Call_name, call_arguments := n_Call_arguments, call_cl := cl_Call }
  have hkit : ∀ T, PySem.W.kitOne K (.ref ((⟨C_Number, C_Name, C_Add, C_Subtract, C_Multiply, C_Half, C_Over, C_Power, C_Raised, C_Choose⟩ : CA).of T)) (.ref C_Node) = some true := (fun T => match T with | .num _ => kit_own cls_Node ty_Node sb_Number | .nam _ => kit_own cls_Node ty_Node sb_Name | .two .add _ _ => kit_own cls_Node ty_Node sb_Add | .two .sub _ _ => kit_own cls_Node ty_Node sb_Subtract | .two .mul _ _ => kit_own cls_Node ty_Node sb_Multiply | .two .over _ _ => kit_own cls_Node ty_Node sb_Over | .two .rai _ _ => kit_own cls_Node ty_Node sb_Raised | .half _ => kit_own cls_Node ty_Node sb_Half | .pow _ _ => kit_own cls_Node ty_Node sb_Power | .cho _ _ _ _ _ => kit_own cls_Node ty_Node sb_Choose)
  have EQ : EqOk P w K mg base ⟨C_Number, C_Name, C_Add, C_Subtract, C_Multiply, C_Half, C_Over, C_Power, C_Raised, C_Choose⟩ := ⟨f_Node_eq, _, (fun T => match T with | .num _ => ⟨meq_Number, ne_Number, i_Node_eq, cm_Number⟩ | .nam _ => ⟨meq_Name, ne_Name, i_Node_eq, cm_Name⟩ | .two .add _ _ => ⟨meq_Add, ne_Add, i_Node_eq, cm_Add⟩ | .two .sub _ _ => ⟨meq_Subtract, ne_Subtract, i_Node_eq, cm_Subtract⟩ | .two .mul _ _ => ⟨meq_Multiply, ne_Multiply, i_Node_eq, cm_Multiply⟩ | .two .over _ _ => ⟨meq_Over, ne_Over, i_Node_eq, cm_Over⟩ | .two .rai _ _ => ⟨meq_Raised, ne_Raised, i_Node_eq, cm_Raised⟩ | .half _ => ⟨meq_Half, ne_Half, i_Node_eq, cm_Half⟩ | .pow _ _ => ⟨meq_Power, ne_Power, i_Node_eq, cm_Power⟩ | .cho _ _ _ _ _ => ⟨meq_Choose, ne_Choose, i_Node_eq, cm_Choose⟩), ok_Node_eq F_Node_eq T N D_outline (PySem.W.mg_none_of X G z_isinstance) (PySem.W.mg_of X G a_Node) hkit, b_Node_eq⟩
  have D_law_deal : Df P w K mg base 1 "_law_deal" ["_law_script", "_law_base"] (spDeal K) := ⟨f_law_deal, _, ok_law_deal F_law_deal T, PySem.W.mg_of X G a_law_deal, k_law_deal, b_law_deal⟩
  have D_law_draw : Df P w K mg base 1 "_law_draw" ["_law_deal_here", "_law_many"] spDraw := ⟨f_law_draw, _, ok_law_draw F_law_draw T, PySem.W.mg_of X G a_law_draw, k_law_draw, b_law_draw⟩
  have D_law_mixed : Df P w K mg base 2 "_law_mixed" ["_law_deal_here", "_law_items"] (spMixed K) := ⟨f_law_mixed, _, ok_law_mixed F_law_mixed T D_law_draw, PySem.W.mg_of X G a_law_mixed, k_law_mixed, b_law_mixed⟩
  have D_law_any_word : Df P w K mg base 2 "_law_any_word" ["_law_deal_here", "_law_last"] spAny := ⟨f_law_any_word, _, ok_law_any_word F_law_any_word T D_law_draw, PySem.W.mg_of X G a_law_any_word, k_law_any_word, b_law_any_word⟩
  have D_law_words : Df P w K mg base 3 "_law_words" ["_law_deal_here", "_law_many"] spWords := ⟨f_law_words, _, ok_law_words F_law_words T D_law_draw D_law_any_word D_law_mixed, PySem.W.mg_of X G a_law_words, k_law_words, b_law_words⟩
  have D_law_number : Df P w K mg base 2 "_law_number" ["_law_deal_here"] spNum := ⟨f_law_number, _, ok_law_number F_law_number T D_law_draw, PySem.W.mg_of X G a_law_number, k_law_number, b_law_number⟩
  have D_law_leaf : Df P w K mg base 3 "_law_leaf" ["_law_deal_here", "_law_names"] (spLeaf K) := ⟨f_law_leaf, _, ok_law_leaf F_law_leaf T D_law_draw D_law_number, PySem.W.mg_of X G a_law_leaf, k_law_leaf, b_law_leaf⟩
  have D_law_term : Df P w K mg base 6 "_law_term" ["_law_deal_here", "_law_names", "_law_deep", "_law_kinds"] (spTerm K 2) := ⟨f_law_term, _, ok_law_term F_law_term T D_law_draw D_law_leaf (PySem.W.mg_of X G a_law_term) b_law_term 2, PySem.W.mg_of X G a_law_term, k_law_term, b_law_term⟩
  have D_law_held : Df P w K mg base 1 "_law_held" ["_law_term_here"] spHeld := ⟨f_law_held, _, ok_law_held F_law_held (PySem.W.mg_none_of X G z_isinstance) (PySem.W.mg_none_of X G z_tuple), PySem.W.mg_of X G a_law_held, k_law_held, b_law_held⟩
  have D_law_node : Df P w K mg base 11 "_law_node" ["_law_term_here"] (spNode ⟨C_Number, C_Name, C_Add, C_Subtract, C_Multiply, C_Half, C_Over, C_Power, C_Raised, C_Choose⟩ 7) := ⟨f_law_node, _, ok_law_node F_law_node M D_law_held (PySem.W.mg_of X G a_law_node) b_law_node 7, PySem.W.mg_of X G a_law_node, k_law_node, b_law_node⟩
  have D_law_is_name : Df P w K mg base 1 "_law_is_name" ["_law_word"] spIsNm := ⟨f_law_is_name, _, ok_law_is_name F_law_is_name T, PySem.W.mg_of X G a_law_is_name, k_law_is_name, b_law_is_name⟩
  have D_law_plain : Df P w K mg base 1 "_law_plain" ["_law_value", "_law_least", "_law_most"] spBtw := ⟨f_law_plain, _, ok_law_plain F_law_plain T, PySem.W.mg_of X G a_law_plain, k_law_plain, b_law_plain⟩
  have D_law_tried : Df P w K mg base 5 "_law_tried" ["_law_form", "_law_a", "_law_b", "_law_c"] (spTried K ⟨C_Number, C_Name, C_Add, C_Subtract, C_Multiply, C_Half, C_Over, C_Power, C_Raised, C_Choose⟩ C_Call) := ⟨f_law_tried, _, ok_law_tried F_law_tried M MX IV EC (PySem.W.mg_of X G a_LowError) (PySem.W.mg_none_of X G z_isinstance) hex, PySem.W.mg_of X G a_law_tried, k_law_tried, b_law_tried⟩
  have D_tried2 : Df P w K mg base 5 "_law_tried" ["_law_form", "_law_a", "_law_b", "_law_c"] (spTried2 K ⟨C_Number, C_Name, C_Add, C_Subtract, C_Multiply, C_Half, C_Over, C_Power, C_Raised, C_Choose⟩ C_Call) := ⟨D_law_tried.f, D_law_tried.fd, D_law_tried.ok.imp tried2, D_law_tried.g, D_law_tried.kp, D_law_tried.b⟩
  have D_law_pairs_right : Df P w K mg base 12 "_law_pairs_right" ["_law_deal_here", "_law_names"] (spPairs K) := ⟨f_law_pairs_right, _, ok_law_pairs_right F_law_pairs_right T N A M EQ D_law_term D_law_node, PySem.W.mg_of X G a_law_pairs_right, k_law_pairs_right, b_law_pairs_right⟩
  have D_law_call_right : Df P w K mg base 12 "_law_call_right" ["_law_deal_here", "_law_names", "_law_word", "_law_is_word"] (spCallR K) := ⟨f_law_call_right, _, ok_law_call_right F_law_call_right T A D_law_draw D_law_term D_law_node D_law_tried, PySem.W.mg_of X G a_law_call_right, k_law_call_right, b_law_call_right⟩
  exact ok_law F_law T N A M EQ D_law_deal D_law_draw D_law_words D_law_number D_law_is_name D_law_plain D_tried2 D_law_call_right D_law_pairs_right
end My

set_option Elab.async false
set_option linter.all false
set_option maxRecDepth 100000
set_option maxHeartbeats 1000000
namespace My
open PySem L2 MyR RT
theorem walk {l : PySem.W.OpenLaw} {q : Program} {loose : List Str} {XP : (Str → Option Value) → Heap → Prop} {YP : World → Heap → Prop} {d : DefRec} {K : Params → PySem.W.Frag} (hn : l.most = some 63) (hdf : d.params.defaults = [])
    (hY : ∀ (w : World) (h : Heap), YP w h → (K w.params).In h)
    (F : ∀ (w : World) (mg : Str → Option Value) (fa : Addr) (h : Heap), (K w.params).In h → h.Ns mainGlobals mg → mg d.name = some (.ref fa) →
      ∃ fd : FuncData, (∀ (s : Shared) (u : Value), BindsTo s fd ⟨[u], []⟩ [("_law_script", u)]) ∧ ∀ base : Heap, (K w.params).In base → base.Ns mainGlobals mg → FnOk l.prog w (K w.params) mg base CX0 13 fa fd ["_law_script"] (spLaw (K w.params))) :
    PySem.W.WalkO q loose XP YP l.row.toRowW d [] (fun f vs => PySem.call f vs) :=
  L2.walk_of (n := 63) (k := 13) (x := "_law_script") (CX := fun _ => CX0) (sp := fun w => spLaw (K w.params)) hn (by decide) hdf ⟨rfl, by decide, by decide⟩ hY F (fun _ _ a ns hl _ hS => ⟨a, ns, rfl, hS, hl, fun _ => rfl⟩) fun _ _ _ _ _ z => z
end My
open PySem PySem.W PyProof.Rows
set_option maxRecDepth 100000 in
set_option maxHeartbeats 0 in
theorem PySem.Challenge.cw_lowsure_k02_nodes_keep_their_arguments_holds : PySem.Challenge.rw_lowsure_k02_nodes_keep_their_arguments.Holds := by
  w_on; o_law; k_head; (case hw => w_witness2)
  k_fill
  refine My.walk (l := PySem.Challenge.rw_lowsure_k02_nodes_keep_their_arguments) rfl rfl (fun w h Y => PySem.W.kIn_of Y) ?F
  case F =>
    intro w mg fa h KX G hmg
    refine' My.all_mk KX G hmg ?a_is_integer ?l_is_integer ?c_is_integer ?k_is_integer ?a_is_between ?l_is_between ?c_is_between ?k_is_between ?a_is_small ?l_is_small ?c_is_small ?k_is_small ?a_is_name ?l_is_name ?c_is_name ?k_is_name ?a_flat ?l_flat ?c_flat ?k_flat ?a_outline ?l_outline ?c_outline ?k_outline ?a_law_deal ?l_law_deal ?c_law_deal ?k_law_deal ?a_law_draw ?l_law_draw ?c_law_draw ?k_law_draw ?a_law_mixed ?l_law_mixed ?c_law_mixed ?k_law_mixed ?a_law_any_word ?l_law_any_word ?c_law_any_word ?k_law_any_word ?a_law_words ?l_law_words ?c_law_words ?k_law_words ?a_law_number ?l_law_number ?c_law_number ?k_law_number ?a_law_leaf ?l_law_leaf ?c_law_leaf ?k_law_leaf ?a_law_term ?l_law_term ?c_law_term ?k_law_term ?a_law_held ?l_law_held ?c_law_held ?k_law_held ?a_law_node ?l_law_node ?c_law_node ?k_law_node ?a_law_is_name ?l_law_is_name ?c_law_is_name ?k_law_is_name ?a_law_tried ?l_law_tried ?c_law_tried ?k_law_tried ?a_law_plain ?l_law_plain ?c_law_plain ?k_law_plain ?a_law_pairs_right ?l_law_pairs_right ?c_law_pairs_right ?k_law_pairs_right ?a_law_call_right ?l_law_call_right ?c_law_call_right ?k_law_call_right ?a_law ?l_law ?c_law ?k_law ?a_Number ?a_Name ?a_Add ?a_Subtract ?a_Multiply ?a_Half ?a_Over ?a_Power ?a_Raised ?a_Choose ?a_Call ?a_Node ?a_InvalidNode ?a_LowError ?m_nodes_Number ?l_Node_nodes ?c_Node_nodes ?k_Node_nodes ?i_Node_nodes ?m_plain_Number ?l_Number_plain ?c_Number_plain ?k_Number_plain ?i_Number_plain ?meq_Number ?l_Node_eq ?c_Node_eq ?k_Node_eq ?i_Node_eq ?minit_Number ?l_Number_init ?c_Number_init ?k_Number_init ?i_Number_init ?m_nodes_Name ?m_plain_Name ?l_Name_plain ?c_Name_plain ?k_Name_plain ?i_Name_plain ?meq_Name ?minit_Name ?l_Name_init ?c_Name_init ?k_Name_init ?i_Name_init ?m_nodes_Add ?l_Pair_nodes ?c_Pair_nodes ?k_Pair_nodes ?i_Pair_nodes ?m_plain_Add ?l_Node_plain ?c_Node_plain ?k_Node_plain ?i_Node_plain ?meq_Add ?minit_Add ?l_Add_init ?c_Add_init ?k_Add_init ?i_Add_init ?m_nodes_Subtract ?m_plain_Subtract ?meq_Subtract ?minit_Subtract ?l_Subtract_init ?c_Subtract_init ?k_Subtract_init ?i_Subtract_init ?m_nodes_Multiply ?m_plain_Multiply ?meq_Multiply ?minit_Multiply ?l_Multiply_init ?c_Multiply_init ?k_Multiply_init ?i_Multiply_init ?m_nodes_Half ?l_Half_nodes ?c_Half_nodes ?k_Half_nodes ?i_Half_nodes ?m_plain_Half ?meq_Half ?minit_Half ?l_Half_init ?c_Half_init ?k_Half_init ?i_Half_init ?m_nodes_Over ?l_Over_nodes ?c_Over_nodes ?k_Over_nodes ?i_Over_nodes ?m_plain_Over ?meq_Over ?minit_Over ?l_Over_init ?c_Over_init ?k_Over_init ?i_Over_init ?m_nodes_Power ?l_Power_nodes ?c_Power_nodes ?k_Power_nodes ?i_Power_nodes ?m_plain_Power ?l_Power_plain ?c_Power_plain ?k_Power_plain ?i_Power_plain ?meq_Power ?minit_Power ?l_Power_init ?c_Power_init ?k_Power_init ?i_Power_init ?m_nodes_Raised ?l_Raised_nodes ?c_Raised_nodes ?k_Raised_nodes ?i_Raised_nodes ?m_plain_Raised ?meq_Raised ?minit_Raised ?l_Raised_init ?c_Raised_init ?k_Raised_init ?i_Raised_init ?m_nodes_Choose ?l_Choose_nodes ?c_Choose_nodes ?k_Choose_nodes ?i_Choose_nodes ?m_plain_Choose ?l_Choose_plain ?c_Choose_plain ?k_Choose_plain ?i_Choose_plain ?meq_Choose ?minit_Choose ?l_Choose_init ?c_Choose_init ?k_Choose_init ?i_Choose_init ?minit_Call ?l_Call_init ?c_Call_init ?k_Call_init ?i_Call_init ?pg_Number ?hd_Number ?po_Number ?sa_Number ?mk_Number ?kc_Number ?n_Number_value ?pg_Name ?hd_Name ?po_Name ?sa_Name ?mk_Name ?kc_Name ?n_Name_name ?pg_Add ?hd_Add ?po_Add ?sa_Add ?mk_Add ?kc_Add ?n_Add_one ?n_Add_other ?pg_Subtract ?hd_Subtract ?po_Subtract ?sa_Subtract ?mk_Subtract ?kc_Subtract ?n_Subtract_one ?n_Subtract_other ?pg_Multiply ?hd_Multiply ?po_Multiply ?sa_Multiply ?mk_Multiply ?kc_Multiply ?n_Multiply_one ?n_Multiply_other ?pg_Half ?hd_Half ?po_Half ?sa_Half ?mk_Half ?kc_Half ?n_Half_inner ?pg_Over ?hd_Over ?po_Over ?sa_Over ?mk_Over ?kc_Over ?n_Over_top ?n_Over_bottom ?pg_Power ?hd_Power ?po_Power ?sa_Power ?mk_Power ?kc_Power ?n_Power_base ?n_Power_times ?pg_Raised ?hd_Raised ?po_Raised ?sa_Raised ?mk_Raised ?kc_Raised ?n_Raised_base ?n_Raised_exponent ?pg_Choose ?hd_Choose ?po_Choose ?sa_Choose ?mk_Choose ?kc_Choose ?n_Choose_tested ?n_Choose_modulus ?n_Choose_rest ?n_Choose_yes ?n_Choose_no ?pg_Call ?hd_Call ?po_Call ?sa_Call ?mk_Call ?kc_Call ?n_Call_name ?n_Call_arguments ?ca_Number ?cm_Number ?ty_Number ?rd_Number ?fc_Number ?lk_Number ?nz_Number ?ne_Number ?sb_Number ?ca_Name ?cm_Name ?ty_Name ?rd_Name ?fc_Name ?lk_Name ?nz_Name ?ne_Name ?sb_Name ?ca_Add ?cm_Add ?ty_Add ?rd_Add ?fc_Add ?lk_Add ?nz_Add ?ne_Add ?sb_Add ?ca_Subtract ?cm_Subtract ?ty_Subtract ?rd_Subtract ?fc_Subtract ?lk_Subtract ?nz_Subtract ?ne_Subtract ?sb_Subtract ?ca_Multiply ?cm_Multiply ?ty_Multiply ?rd_Multiply ?fc_Multiply ?lk_Multiply ?nz_Multiply ?ne_Multiply ?sb_Multiply ?ca_Half ?cm_Half ?ty_Half ?rd_Half ?fc_Half ?lk_Half ?nz_Half ?ne_Half ?sb_Half ?ca_Over ?cm_Over ?ty_Over ?rd_Over ?fc_Over ?lk_Over ?nz_Over ?ne_Over ?sb_Over ?ca_Power ?cm_Power ?ty_Power ?rd_Power ?fc_Power ?lk_Power ?nz_Power ?ne_Power ?sb_Power ?ca_Raised ?cm_Raised ?ty_Raised ?rd_Raised ?fc_Raised ?lk_Raised ?nz_Raised ?ne_Raised ?sb_Raised ?ca_Choose ?cm_Choose ?ty_Choose ?rd_Choose ?fc_Choose ?lk_Choose ?nz_Choose ?ne_Choose ?sb_Choose ?cn ?ct ?cls_Node ?ty_Node ?xI ?kI ?bI ?tI ?gI ?hI ?dI ?caI ?cmI ?bL ?dL ?tL ?sIL ?gl_LIMIT ?gl_LONG ?gl_TIMES ?gl_WORDS ?gl_MODULI ?lW ?lM ?sW ?sM ?zW ?zM ?z_len ?z_max ?z_list ?z_tuple ?z_reversed ?z_range ?z_int ?z_str ?z_bool ?z_isinstance ?z_all
    (case a_is_integer => k_is)
    (case l_is_integer => k_is)
    (case c_is_integer => k_is)
    (case k_is_integer => k_is)
    (case a_is_between => k_is)
    (case l_is_between => k_is)
    (case c_is_between => k_is)
    (case k_is_between => k_is)
    (case a_is_small => k_is)
    (case l_is_small => k_is)
    (case c_is_small => k_is)
    (case k_is_small => k_is)
    (case a_is_name => k_is)
    (case l_is_name => k_is)
    (case c_is_name => k_is)
    (case k_is_name => k_is)
    (case a_flat => k_is)
    (case l_flat => k_is)
    (case c_flat => k_is)
    (case k_flat => k_is)
    (case a_outline => k_is)
    (case l_outline => k_is)
    (case c_outline => k_is)
    (case k_outline => k_is)
    (case a_law_deal => k_is)
    (case l_law_deal => k_is)
    (case c_law_deal => k_is)
    (case k_law_deal => k_is)
    (case a_law_draw => k_is)
    (case l_law_draw => k_is)
    (case c_law_draw => k_is)
    (case k_law_draw => k_is)
    (case a_law_mixed => k_is)
    (case l_law_mixed => k_is)
    (case c_law_mixed => k_is)
    (case k_law_mixed => k_is)
    (case a_law_any_word => k_is)
    (case l_law_any_word => k_is)
    (case c_law_any_word => k_is)
    (case k_law_any_word => k_is)
    (case a_law_words => k_is)
    (case l_law_words => k_is)
    (case c_law_words => k_is)
    (case k_law_words => k_is)
    (case a_law_number => k_is)
    (case l_law_number => k_is)
    (case c_law_number => k_is)
    (case k_law_number => k_is)
    (case a_law_leaf => k_is)
    (case l_law_leaf => k_is)
    (case c_law_leaf => k_is)
    (case k_law_leaf => k_is)
    (case a_law_term => k_is)
    (case l_law_term => k_is)
    (case c_law_term => k_is)
    (case k_law_term => k_is)
    (case a_law_held => k_is)
    (case l_law_held => k_is)
    (case c_law_held => k_is)
    (case k_law_held => k_is)
    (case a_law_node => k_is)
    (case l_law_node => k_is)
    (case c_law_node => k_is)
    (case k_law_node => k_is)
    (case a_law_is_name => k_is)
    (case l_law_is_name => k_is)
    (case c_law_is_name => k_is)
    (case k_law_is_name => k_is)
    (case a_law_tried => k_is)
    (case l_law_tried => k_is)
    (case c_law_tried => k_is)
    (case k_law_tried => k_is)
    (case a_law_plain => k_is)
    (case l_law_plain => k_is)
    (case c_law_plain => k_is)
    (case k_law_plain => k_is)
    (case a_law_pairs_right => k_is)
    (case l_law_pairs_right => k_is)
    (case c_law_pairs_right => k_is)
    (case k_law_pairs_right => k_is)
    (case a_law_call_right => k_is)
    (case l_law_call_right => k_is)
    (case c_law_call_right => k_is)
    (case k_law_call_right => k_is)
    (case a_law => k_is)
    (case l_law => k_is)
    (case c_law => k_is)
    (case k_law => k_is)
    (case a_Number => k_is)
    (case a_Name => k_is)
    (case a_Add => k_is)
    (case a_Subtract => k_is)
    (case a_Multiply => k_is)
    (case a_Half => k_is)
    (case a_Over => k_is)
    (case a_Power => k_is)
    (case a_Raised => k_is)
    (case a_Choose => k_is)
    (case a_Call => k_is)
    (case a_Node => k_is)
    (case a_InvalidNode => k_is)
    (case a_LowError => k_is)
    (case m_nodes_Number => k_is)
    (case l_Node_nodes => k_is)
    (case c_Node_nodes => k_is)
    (case k_Node_nodes => k_is)
    (case i_Node_nodes => k_is)
    (case m_plain_Number => k_is)
    (case l_Number_plain => k_is)
    (case c_Number_plain => k_is)
    (case k_Number_plain => k_is)
    (case i_Number_plain => k_is)
    (case meq_Number => k_is)
    (case l_Node_eq => k_is)
    (case c_Node_eq => k_is)
    (case k_Node_eq => k_is)
    (case i_Node_eq => k_is)
    (case minit_Number => k_is)
    (case l_Number_init => k_is)
    (case c_Number_init => k_is)
    (case k_Number_init => k_is)
    (case i_Number_init => k_is)
    (case m_nodes_Name => k_is)
    (case m_plain_Name => k_is)
    (case l_Name_plain => k_is)
    (case c_Name_plain => k_is)
    (case k_Name_plain => k_is)
    (case i_Name_plain => k_is)
    (case meq_Name => k_is)
    (case minit_Name => k_is)
    (case l_Name_init => k_is)
    (case c_Name_init => k_is)
    (case k_Name_init => k_is)
    (case i_Name_init => k_is)
    (case m_nodes_Add => k_is)
    (case l_Pair_nodes => k_is)
    (case c_Pair_nodes => k_is)
    (case k_Pair_nodes => k_is)
    (case i_Pair_nodes => k_is)
    (case m_plain_Add => k_is)
    (case l_Node_plain => k_is)
    (case c_Node_plain => k_is)
    (case k_Node_plain => k_is)
    (case i_Node_plain => k_is)
    (case meq_Add => k_is)
    (case minit_Add => k_is)
    (case l_Add_init => k_is)
    (case c_Add_init => k_is)
    (case k_Add_init => k_is)
    (case i_Add_init => k_is)
    (case m_nodes_Subtract => k_is)
    (case m_plain_Subtract => k_is)
    (case meq_Subtract => k_is)
    (case minit_Subtract => k_is)
    (case l_Subtract_init => k_is)
    (case c_Subtract_init => k_is)
    (case k_Subtract_init => k_is)
    (case i_Subtract_init => k_is)
    (case m_nodes_Multiply => k_is)
    (case m_plain_Multiply => k_is)
    (case meq_Multiply => k_is)
    (case minit_Multiply => k_is)
    (case l_Multiply_init => k_is)
    (case c_Multiply_init => k_is)
    (case k_Multiply_init => k_is)
    (case i_Multiply_init => k_is)
    (case m_nodes_Half => k_is)
    (case l_Half_nodes => k_is)
    (case c_Half_nodes => k_is)
    (case k_Half_nodes => k_is)
    (case i_Half_nodes => k_is)
    (case m_plain_Half => k_is)
    (case meq_Half => k_is)
    (case minit_Half => k_is)
    (case l_Half_init => k_is)
    (case c_Half_init => k_is)
    (case k_Half_init => k_is)
    (case i_Half_init => k_is)
    (case m_nodes_Over => k_is)
    (case l_Over_nodes => k_is)
    (case c_Over_nodes => k_is)
    (case k_Over_nodes => k_is)
    (case i_Over_nodes => k_is)
    (case m_plain_Over => k_is)
    (case meq_Over => k_is)
    (case minit_Over => k_is)
    (case l_Over_init => k_is)
    (case c_Over_init => k_is)
    (case k_Over_init => k_is)
    (case i_Over_init => k_is)
    (case m_nodes_Power => k_is)
    (case l_Power_nodes => k_is)
    (case c_Power_nodes => k_is)
    (case k_Power_nodes => k_is)
    (case i_Power_nodes => k_is)
    (case m_plain_Power => k_is)
    (case l_Power_plain => k_is)
    (case c_Power_plain => k_is)
    (case k_Power_plain => k_is)
    (case i_Power_plain => k_is)
    (case meq_Power => k_is)
    (case minit_Power => k_is)
    (case l_Power_init => k_is)
    (case c_Power_init => k_is)
    (case k_Power_init => k_is)
    (case i_Power_init => k_is)
    (case m_nodes_Raised => k_is)
    (case l_Raised_nodes => k_is)
    (case c_Raised_nodes => k_is)
    (case k_Raised_nodes => k_is)
    (case i_Raised_nodes => k_is)
    (case m_plain_Raised => k_is)
    (case meq_Raised => k_is)
    (case minit_Raised => k_is)
    (case l_Raised_init => k_is)
    (case c_Raised_init => k_is)
    (case k_Raised_init => k_is)
    (case i_Raised_init => k_is)
    (case m_nodes_Choose => k_is)
    (case l_Choose_nodes => k_is)
    (case c_Choose_nodes => k_is)
    (case k_Choose_nodes => k_is)
    (case i_Choose_nodes => k_is)
    (case m_plain_Choose => k_is)
    (case l_Choose_plain => k_is)
    (case c_Choose_plain => k_is)
    (case k_Choose_plain => k_is)
    (case i_Choose_plain => k_is)
    (case meq_Choose => k_is)
    (case minit_Choose => k_is)
    (case l_Choose_init => k_is)
    (case c_Choose_init => k_is)
    (case k_Choose_init => k_is)
    (case i_Choose_init => k_is)
    (case minit_Call => k_is)
    (case l_Call_init => k_is)
    (case c_Call_init => k_is)
    (case k_Call_init => k_is)
    (case i_Call_init => k_is)
    (case pg_Number => k_is)
    (case hd_Number => k_is)
    (case po_Number => k_is)
    (case sa_Number => k_is)
    (case mk_Number => k_is)
    (case kc_Number => k_is)
    (case n_Number_value => k_is)
    (case pg_Name => k_is)
    (case hd_Name => k_is)
    (case po_Name => k_is)
    (case sa_Name => k_is)
    (case mk_Name => k_is)
    (case kc_Name => k_is)
    (case n_Name_name => k_is)
    (case pg_Add => k_is)
    (case hd_Add => k_is)
    (case po_Add => k_is)
    (case sa_Add => k_is)
    (case mk_Add => k_is)
    (case kc_Add => k_is)
    (case n_Add_one => k_is)
    (case n_Add_other => k_is)
    (case pg_Subtract => k_is)
    (case hd_Subtract => k_is)
    (case po_Subtract => k_is)
    (case sa_Subtract => k_is)
    (case mk_Subtract => k_is)
    (case kc_Subtract => k_is)
    (case n_Subtract_one => k_is)
    (case n_Subtract_other => k_is)
    (case pg_Multiply => k_is)
    (case hd_Multiply => k_is)
    (case po_Multiply => k_is)
    (case sa_Multiply => k_is)
    (case mk_Multiply => k_is)
    (case kc_Multiply => k_is)
    (case n_Multiply_one => k_is)
    (case n_Multiply_other => k_is)
    (case pg_Half => k_is)
    (case hd_Half => k_is)
    (case po_Half => k_is)
    (case sa_Half => k_is)
    (case mk_Half => k_is)
    (case kc_Half => k_is)
    (case n_Half_inner => k_is)
    (case pg_Over => k_is)
    (case hd_Over => k_is)
    (case po_Over => k_is)
    (case sa_Over => k_is)
    (case mk_Over => k_is)
    (case kc_Over => k_is)
    (case n_Over_top => k_is)
    (case n_Over_bottom => k_is)
    (case pg_Power => k_is)
    (case hd_Power => k_is)
    (case po_Power => k_is)
    (case sa_Power => k_is)
    (case mk_Power => k_is)
    (case kc_Power => k_is)
    (case n_Power_base => k_is)
    (case n_Power_times => k_is)
    (case pg_Raised => k_is)
    (case hd_Raised => k_is)
    (case po_Raised => k_is)
    (case sa_Raised => k_is)
    (case mk_Raised => k_is)
    (case kc_Raised => k_is)
    (case n_Raised_base => k_is)
    (case n_Raised_exponent => k_is)
    (case pg_Choose => k_is)
    (case hd_Choose => k_is)
    (case po_Choose => k_is)
    (case sa_Choose => k_is)
    (case mk_Choose => k_is)
    (case kc_Choose => k_is)
    (case n_Choose_tested => k_is)
    (case n_Choose_modulus => k_is)
    (case n_Choose_rest => k_is)
    (case n_Choose_yes => k_is)
    (case n_Choose_no => k_is)
    (case pg_Call => k_is)
    (case hd_Call => k_is)
    (case po_Call => k_is)
    (case sa_Call => k_is)
    (case mk_Call => k_is)
    (case kc_Call => k_is)
    (case n_Call_name => k_is)
    (case n_Call_arguments => k_is)
    (case ca_Number => k_is)
    (case cm_Number => k_is)
    (case ty_Number => k_is)
    (case rd_Number => k_is)
    (case fc_Number => k_is)
    (case lk_Number => k_is)
    (case nz_Number => exact rfl)
    (case ne_Number => k_is)
    (case sb_Number => k_is)
    (case ca_Name => k_is)
    (case cm_Name => k_is)
    (case ty_Name => k_is)
    (case rd_Name => k_is)
    (case fc_Name => k_is)
    (case lk_Name => k_is)
    (case nz_Name => exact rfl)
    (case ne_Name => k_is)
    (case sb_Name => k_is)
    (case ca_Add => k_is)
    (case cm_Add => k_is)
    (case ty_Add => k_is)
    (case rd_Add => k_is)
    (case fc_Add => k_is)
    (case lk_Add => k_is)
    (case nz_Add => exact rfl)
    (case ne_Add => k_is)
    (case sb_Add => k_is)
    (case ca_Subtract => k_is)
    (case cm_Subtract => k_is)
    (case ty_Subtract => k_is)
    (case rd_Subtract => k_is)
    (case fc_Subtract => k_is)
    (case lk_Subtract => k_is)
    (case nz_Subtract => exact rfl)
    (case ne_Subtract => k_is)
    (case sb_Subtract => k_is)
    (case ca_Multiply => k_is)
    (case cm_Multiply => k_is)
    (case ty_Multiply => k_is)
    (case rd_Multiply => k_is)
    (case fc_Multiply => k_is)
    (case lk_Multiply => k_is)
    (case nz_Multiply => exact rfl)
    (case ne_Multiply => k_is)
    (case sb_Multiply => k_is)
    (case ca_Half => k_is)
    (case cm_Half => k_is)
    (case ty_Half => k_is)
    (case rd_Half => k_is)
    (case fc_Half => k_is)
    (case lk_Half => k_is)
    (case nz_Half => exact rfl)
    (case ne_Half => k_is)
    (case sb_Half => k_is)
    (case ca_Over => k_is)
    (case cm_Over => k_is)
    (case ty_Over => k_is)
    (case rd_Over => k_is)
    (case fc_Over => k_is)
    (case lk_Over => k_is)
    (case nz_Over => exact rfl)
    (case ne_Over => k_is)
    (case sb_Over => k_is)
    (case ca_Power => k_is)
    (case cm_Power => k_is)
    (case ty_Power => k_is)
    (case rd_Power => k_is)
    (case fc_Power => k_is)
    (case lk_Power => k_is)
    (case nz_Power => exact rfl)
    (case ne_Power => k_is)
    (case sb_Power => k_is)
    (case ca_Raised => k_is)
    (case cm_Raised => k_is)
    (case ty_Raised => k_is)
    (case rd_Raised => k_is)
    (case fc_Raised => k_is)
    (case lk_Raised => k_is)
    (case nz_Raised => exact rfl)
    (case ne_Raised => k_is)
    (case sb_Raised => k_is)
    (case ca_Choose => k_is)
    (case cm_Choose => k_is)
    (case ty_Choose => k_is)
    (case rd_Choose => k_is)
    (case fc_Choose => k_is)
    (case lk_Choose => k_is)
    (case nz_Choose => exact rfl)
    (case ne_Choose => k_is)
    (case sb_Choose => k_is)
    (case cn => k_is)
    (case ct => k_is)
    (case cls_Node => k_is)
    (case ty_Node => k_is)
    (case xI => k_exc)
    (case kI => k_is)
    (case bI => k_is)
    (case tI => k_is)
    (case gI => k_is)
    (case hI => k_is)
    (case dI => k_is)
    (case caI => k_is)
    (case cmI => k_is)
    (case bL => k_is)
    (case dL => k_is)
    (case tL => k_is)
    (case sIL => k_is)
    (case gl_LIMIT => k_is)
    (case gl_LONG => k_is)
    (case gl_TIMES => k_is)
    (case gl_WORDS => k_is)
    (case gl_MODULI => k_is)
    (case lW => k_is)
    (case lM => k_is)
    (case sW => kernel_rfl)
    (case sM => kernel_rfl)
    (case zW => kernel_rfl)
    (case zM => kernel_rfl)
    (case z_len => k_is)
    (case z_max => k_is)
    (case z_list => k_is)
    (case z_tuple => k_is)
    (case z_reversed => k_is)
    (case z_range => k_is)
    (case z_int => k_is)
    (case z_str => k_is)
    (case z_bool => k_is)
    (case z_isinstance => k_is)
    (case z_all => k_is)
