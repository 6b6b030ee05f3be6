import PyProof.Rows.All
import Wide.All
import OpenK.AllK
import Wide.FinOn
import KE.KTypeName
import HandS.ForMost
import HandS.OwnEq
import PyProof.InstNe
import HandS.More
import HandS.Rev
import HandS.Wide
import PySem.Challenge.RW_lowsure_k06_whole_any_words_of_a_node
import HandS.IsInst
import HandS.Walk
import HandS.Exc
import HandS.ExcOwn
import HandS.ExcBuiltin
import HandS.WordsExc
import HandS.NoneIn
import HandS.Text
import HandS.Iter
import KE.IntTextLaws
import HandS.Small
import HandS.ExcInit
import HandS.ExcField
import HandS.WideBits
import HandS.Flow
import HandS.Style
import HandS.ExcIs
import HandS.ClsMeth
import PyProof.EqAt
import PyProof.EqKinds
import PyProof.TupleCall
import HandS.Base
import HandS.Call
import HandS.List
import KE.IntTextText
set_option Elab.async false
set_option linter.all false
set_option maxRecDepth 100000
set_option maxHeartbeats 1000000
namespace MyR
open PySem PySem.W PySem.Calls PyProof.Rows Builtin Builtin.ObjectAttr Builtin.Getset_descriptor
section
variable {prog : Program} {w : World} {A : Around} {E : Value → Shared → Prop} {s : Shared} {K : Frag} {R : Result → Shared → Prop}
theorem cname_get {C : Addr} {o : Obj} {tp : Value} {z : Str} {t : Tok} (X : K.In s.heap) (ht : typeIn K (.ref C) = some (.type "type")) (hl : K.lookup C = some o) (hs : (o.slots[2]?).join = some (.str z t)) (h : R (.ok (.ret (.str z t))) s) :
    codeAny (model prog w) A (.call (.builtin "getset_descriptor.__get__") ⟨[.builtin "type.__name__", .ref C, tp], []⟩) R s := by
  have L0 : Looks (model prog w) s.heap (typeOf (.ref C)) (.type "type") := looks_typeIn X ht
  have L1 : Looks (model prog w) s.heap (isSubtype (.type "type") (.type "type")) true := Looks.of_pure (by rw [isSubtype_type]; kernel_rfl)
  have ho : s.heap.get? C = some o := X _ _ hl
  obtain ⟨hh, g, dr, tk, os⟩ := s
  refine codeAny_call_builtin KF.slot_gs.plain KF.entry_gs (KF.slot_gs.check _ _ _ _ _ _ _ _ ktyn_type (KF.args_gs _ _ _) ?_)
  unfold Builtin.«getset_descriptor.__get__» descrGet
  rw [dga_obj]
  refine wpAny_bind (wpAny_pure ?_)
  unfold descrGetter descrCheckInstance descrNameAndClass isInstance
  simp only [ktyn_owner]
  repeat lk
  refine ⟨Code.quiet_builtin _ (by decide +kernel), codeAny_builtin ktyn_entry ?_⟩
  unfold Builtin.«type.__name__»
  dsimp only
  unfold keptObject
  dsimp only
  unfold slotAt
  refine wpAny_bind (wpAny_bind (wpAny_loadPart ho (wpAny_pure ?_)))
  rw [hs]
  exact wpAny_pure h
end
end MyR

set_option Elab.async false
set_option linter.all false
set_option maxRecDepth 100000
set_option maxHeartbeats 1000000
namespace MyR
open PySem PySem.Spec PyProof.Rows L2
/-- what x.__class__.__name__ asks of the class at C: its name is z -/
structure NameOf (K : PySem.W.Frag) (C : Addr) (z : Str) : Prop where
  ca : PySem.W.findIn K (.ref C) "__class__" = some (some (.builtin "object.__class__"))
  cn : PySem.W.specialIn K (.builtin "object.__class__") "__get__" = some (some (.builtin "getset_descriptor.__get__"))
  ct : PySem.W.takesIn K (.builtin "object.__class__") = some true
  cm : PySem.W.mroIn K C (.type "object") = some true
  ty : PySem.W.typeIn K (.ref C) = some (.type "type")
  rd : PySem.W.readsIn K C (.type "type") = true
  fc : PySem.W.findCls K (.ref C) (.type "type") "__name__" = some (.get (.builtin "getset_descriptor.__get__") (.builtin "type.__name__") (.ref C) (.type "type"))
  lk : ∃ o, K.lookup C = some o ∧ ∃ t, (o.slots[2]?).join = some (.str z t)
section
variable {X : Cx}
/-- e.__class__.__name__, e an instance of an own class -/
def tClsName (K : PySem.W.Frag) (te : TE) : TE := fun σ H Q => te σ H fun x H1 => ∃ a C dx fs z, x = .ref a ∧ H1 a = some (.ins C dx fs) ∧ Cls K C ∧ NameOf K C z ∧ Q (.str z) H1
theorem pe_clsName {e : Expr} {te : TE} {p1 p2 : Pos} (he : PE X e te) (hb : attributeBase e "__class__" X.env (eval e X.env) = eval e X.env)
    (hb2 : attributeBase (.Attribute e "__class__" p1) "__name__" X.env (eval (.Attribute e "__class__" p1) X.env) = eval (.Attribute e "__class__" p1) X.env) :
    PE X (.Attribute (.Attribute e "__class__" p1) "__name__" p2) (tClsName X.K te) := by
  refine ⟨fun pins s σ H Q I h => ?_⟩
  refine attr_of hb2 (attr_of hb (thn (he.run pins s σ H _ I h) fun u s1 ⟨x, H1, I1, rx, a, C, dx, fs, z, ex, ea, c, n, q⟩ => ?_))
  subst ex
  obtain rfl : u = Value.ref a := rx
  obtain ⟨mA, O, _, _, _, _⟩ := ins_get I1.hok ea
  obtain ⟨od, J, _⟩ := O.look
  have hc : (PySem.W.clsIn X.K C).isSome = true := by
    obtain ⟨cd, hc, _⟩ := PySem.W.any_some c.hd
    rw [hc]
    rfl
  refine PySem.W.get_bind I1.kIn J (PySem.W.plainGet_of (c.get "__class__")).1 (PySem.W.findObj_data hc n.ca n.cn n.ct) (PySem.W.plainGet_of (c.get "__class__")).2
    (wpAny_call (PySem.W.class_get (s := { s1 with toks := s1.toks + 1 }) I1.kIn J n.cm ?_))
  refine PySem.W.handed_on rfl ?_
  obtain ⟨o, hl, t, hs⟩ := n.lk
  refine PySem.W.cls_bind (s := { s1 with toks := s1.toks + 1 }) I1.kIn n.rd n.fc (wpAny_call (cname_get (s := { s1 with toks := s1.toks + 1 + 1 }) I1.kIn n.ty hl hs ?_))
  refine PySem.W.handed_on rfl ?_
  exact ⟨.str z, H1, I1.tok _, ⟨t, rfl⟩, q⟩
/-- o.m(), the class told by the object -/
def tMethV (X : Cx) (m : Str) (te : TE) : TE := fun σ H Q => te σ H fun x H1 => ∃ (a C dx : Addr) (fs : List (Str × V)) (f : Addr) (fd : FuncData) (ps : List Str) (sp : Sp) (k : Nat) (CX : CXT) (E : XK), x = .ref a ∧ H1 a = some (.ins C dx fs) ∧ fs.lookup m = none ∧
  Cls X.K C ∧ Meth X.K C m f ∧ FnOk X.prog X.w X.K X.mg X.base CX k f fd ps sp ∧ Room k X.A ∧ Binds X.K fd ps [] ∧ Passes CX X E ∧ sp [.ref a] H1 Q E
theorem pe_meth0V {o : Expr} {te : TE} {m : Str} {apos pos : Pos} {pl : Sem Bool} (he : PE X o te)
    (ht : eval (.Call (.Attribute o m apos) [] [] pos) X.env = (do
      let ov ← eval o X.env
      standAt apos.atName
      let (f, first) ← holding [ov] (getMethod ov m pl)
      callWith pos f first (backTo pos (starEach [] X.env)) (backToKw pos (keywordEach [] X.env))) := by rfl) :
    PE X (.Call (.Attribute o m apos) [] [] pos) (tMethV X m te) := by
  refine ⟨fun pins s σ H Q I h => ?_⟩
  refine PySem.W.methodCall_KW (pl := pl) (thn (he.run pins s σ H _ I h) fun u s1 ⟨x, H1, I1, rx, a, C, dx, fs, f, fd, ps, sp, k, CX, E, ex, ea, l, c, hm, F, hr, hb, hx, q⟩ => ?_) ht
  subst ex
  obtain rfl : u = Value.ref a := rx
  refine getmeth_ok I1 ea c hm l ?_
  exact PySem.W.callWith_K0 (first := [.ref a]) I1.kIn hm.kp (run_fn (us := [.ref a]) (vs := [.ref a]) F hr hb .nil hx I1 (.cons rfl .nil) q)
end
end MyR

set_option Elab.async false
set_option linter.all false
set_option maxRecDepth 100000
set_option maxHeartbeats 1000000
namespace MyN
open PySem PySem.Spec PyProof.Rows PySem.SeqAt
open Builtin
section
variable {M : Model} {prog : Program} {w : World} {A : Around} {E : Value → Shared → Prop} {s : Shared} {K : PySem.W.Frag} {x y C D f L : Addr} {ox : Obj} {od : Option Obj} {tb : Value} {h₀ : Heap} {m : Str → Option Value}
theorem ifBound_objNe {args : List Value} {Q : Option Value → Shared → Prop} (X : K.In s.heap) (I : PySem.W.InstAt s.heap x ox C od) (hs : PySem.W.findIn K (.ref C) "__ne__" = some (some (.builtin "object.__ne__")))
    (h : wpAny M A (call (.builtin "object.__ne__") (.ref x :: args)) (fun v => Q (some v)) E s) : wpAny M A (callSpecialIfBound? (.ref x) "__ne__" args) Q E s := by
  simp only [callSpecialIfBound?, bindSpecialIfBound?]
  refine wpAny_holding (wpAny_bind (wpAny_bind (wpAny_bind (I.type.here ((PySem.W.looks_findIn X hs).here ?_)))))
  refine wpAny_bind (wpAny_askSetting (wpAny_ite ?_))
  have fin : wpAny M A (call (.builtin "object.__ne__") ([.ref x] ++ args) >>= fun v => pure (some v)) Q E s := wpAny_bind (wpAny_mono h (fun v s' h' => wpAny_pure h') fun _ _ h' => h')
  split
  · exact wpAny_bind (wpAny_of_eq (F.cmp_object.ne.bind _) (wpAny_pure (by exact fin)))
  · exact wpAny_tryCatch (wpAny_bind (wpAny_of_eq (F.cmp_object.ne.bind _) (wpAny_pure (by exact fin))))
theorem objNe_entry {Q : Fin → Shared → Prop} (hu : A.units < cLine) (X : K.In s.heap) (I : PySem.W.InstAt s.heap x ox C od) (hs : PySem.W.findIn K (.ref C) "__eq__" = some (some (.ref f))) (hf : PySem.W.isFn K (.ref f) = true)
    (hcall : wpAny (model prog w) A (call (.ref f) [.ref x, .ref y]) (fun v s' => ∃ b, v = .bool b ∧ Q (.done (.ret (.bool (!b)))) s') E s) :
    wpAny (model prog w) A (Builtin.«object.__ne__» ⟨[.ref x, .ref y], []⟩) Q E s := by
  obtain ⟨h, g, d, t, os⟩ := s
  unfold Builtin.«object.__ne__»
  repeat (first
    | with_reducible refine wpAny_cRoomFor hu ?_
    | (refine wpAny_bind (m := callSpecialIfBound? (.ref x) (Str.ofString "__eq__") [.ref y])
        (PySem.W.ifBound_K X I hs hf (wpAny_mono hcall (fun r s' hr => by
          obtain ⟨b, rfl, hq⟩ := hr
          repeat (first | exact hq | exact wpAny_pure hq | exact wpAny_truthy_bool hq | (refine wpAny_bind (m := truthy (.bool _)) (wpAny_truthy_bool ?_)) | wp_step)) fun _ _ e => e)))
    | wp_step)
theorem call_objNe {Q : Value → Shared → Prop} (hu : A.units + 1 < cLine) (X : K.In s.heap) (I : PySem.W.InstAt s.heap x ox C od) (hm : PySem.W.mroIn K C (.type "object") = some true) (hs : PySem.W.findIn K (.ref C) "__eq__" = some (some (.ref f))) (hf : PySem.W.isFn K (.ref f) = true)
    (hcall : wpAny (model prog w) A.in1 (call (.ref f) [.ref x, .ref y]) (fun v s' => ∃ b, v = .bool b ∧ Q (.bool (!b)) s') E s) :
    wpAny (model prog w) A (call (.builtin "object.__ne__") [.ref x, .ref y]) Q E s :=
  wpAny_call (codeAny_call_builtin F.cmp_object.ne.plain F.cmpEntry_ne (PySem.W.check_slot F.cmpKind_ne F.cmpSplit_ne (I.type.andThen (PySem.W.looks_mroIn X hm)) (F.cmpArgs_ne _ _)
    (objNe_entry (A := A.in1) hu X I hs hf hcall)))
theorem ne_K {Q : Value → Shared → Prop} (hu : A.units + 1 < cLine) (X : K.In s.heap) (I : PySem.W.InstAt s.heap x ox C od) (hb : PySem.W.Looks (model prog w) s.heap (typeOf (.ref y)) tb) (hn : PySem.W.notFirst K C tb = true)
    (hne : PySem.W.findIn K (.ref C) "__ne__" = some (some (.builtin "object.__ne__"))) (hm : PySem.W.mroIn K C (.type "object") = some true) (hs : PySem.W.findIn K (.ref C) "__eq__" = some (some (.ref f))) (hf : PySem.W.isFn K (.ref f) = true)
    (hcall : wpAny (model prog w) A.in1 (call (.ref f) [.ref x, .ref y]) (fun v s' => ∃ b, v = .bool b ∧ Q (.bool (!b)) s') E s) :
    wpAny (model prog w) A (richCompare .NotEq (.ref x) (.ref y)) Q E s := by
  have one : wpAny (model prog w) A (tryCompare (.ref x) (cmpInfo .NotEq).2.1 (.ref y)) (fun r s' => ∃ v, r = some v ∧ Q v s') E s := by
    unfold tryCompare
    refine wpAny_bind (ifBound_objNe X I hne (call_objNe hu X I hm hs hf (wpAny_mono hcall (fun v s' hv => ?_) fun _ _ e => e)))
    obtain ⟨b, rfl, hq⟩ := hv
    exact ⟨b, rfl, wpAny_pure ⟨_, rfl, hq⟩⟩
  unfold richCompare
  simp only [oneThing_ref]
  refine wpAny_holding (wpAny_bind (wpAny_cRoomFor (Nat.lt_of_succ_lt hu) ?_))
  refine wpAny_bind (I.type.here (wpAny_bind (hb.here ?_)))
  split
  · rename_i q
    have e : PySem.W.subIn K tb (.ref C) = some false := by
      rcases Bool.or_eq_true_iff.mp hn with e | e
      · rw [beq_iff_eq.mp e] at q; simp at q
      · exact beq_iff_eq.mp e
    refine wpAny_bind ((PySem.W.looks_subIn X e).here ?_)
    simp only [Bool.false_eq_true, if_false]
    refine wpAny_bind (wpAny_mono one (fun r s' z => ?_) fun _ _ e => e)
    obtain ⟨v, rfl, hq⟩ := z
    exact wpAny_pure hq
  · refine wpAny_bind (wpAny_pure ?_)
    simp only [Bool.false_eq_true, if_false]
    refine wpAny_bind (wpAny_mono one (fun r s' z => ?_) fun _ _ e => e)
    obtain ⟨v, rfl, hq⟩ := z
    exact wpAny_pure hq
end
end MyN

set_option Elab.async false
set_option linter.all false
set_option maxRecDepth 100000
set_option maxHeartbeats 1000000
namespace MyR
open PySem PySem.Spec PyProof.Rows L2
/-- the class at C has its == at f, and no != of its own -/
structure EqC (K : PySem.W.Frag) (C f : Addr) : Prop where
  eq : PySem.W.findIn K (.ref C) "__eq__" = some (some (.ref f))
  ne : PySem.W.findIn K (.ref C) "__ne__" = some (some (.builtin "object.__ne__"))
  fn : PySem.W.isFn K (.ref f) = true
  mo : PySem.W.mroIn K C (.type "object") = some true
def rEqF (X : Cx) (neg : Bool) : R2 := fun x y H Q => ∃ (a b C dx dy : Addr) (fs gs : List (Str × V)) (f : Addr) (fd : FuncData) (ps : List Str) (sp : Sp) (k : Nat) (CX : CXT) (E : XK), x = .ref a ∧ y = .ref b ∧ H a = some (.ins C dx fs) ∧ H b = some (.ins C dy gs) ∧ EqC X.K C f ∧
  FnOk X.prog X.w X.K X.mg X.base CX k f fd ps sp ∧ Room (k + 1) X.A ∧ Binds X.K fd ps [] ∧ Passes CX X E ∧ sp [.ref a, .ref b] H (fun v H' => ∃ t : Bool, v = .bl t ∧ Q (.bl (if neg = true then !t else t)) H') E
section
variable {X : Cx}
theorem op_eqF : OpR X (compareOp .Eq) (rEqF X false) := by
  intro pins s σ H x y u v Q I rx ry h
  obtain ⟨a, b, C, dx, dy, fs, gs, f, fd, ps, sp, k, CX, E, rfl, rfl, ha, hb', c, F, hr, hb, hx, hsp⟩ := h
  cases rx
  cases ry
  obtain ⟨mA, J, _⟩ := ins_get I.hok ha
  obtain ⟨mB, J', _⟩ := ins_get I.hok hb'
  obtain ⟨od, J, _⟩ := J.look
  obtain ⟨od', J', _⟩ := J'.look
  obtain ⟨m, hF⟩ := I.fr
  show wpAny (model X.prog X.w) X.A (richCompare .Eq (.ref a) (.ref b)) (EP X pins σ Q) X.xe s
  refine PySem.W.cmp_K (op := .Eq) (tb := .ref C) hr.units0 hF I.ok.mod.kin J J'.type (by simp [PySem.W.notFirst]) c.eq c.fn ?_
  have e0 := I.env0
  have hl := F.len _ _ _ _ hsp
  have r2 : Vals [V.ref a, V.ref b] [Value.ref a, Value.ref b] := .cons rfl (.cons rfl .nil)
  refine wpAny_call (codeAny_mono (F.run X.A X.stack s H ⟨[.ref a, .ref b], []⟩ [.ref a, .ref b] [.ref a, .ref b] _ E (hr.mono (Nat.le_succ _)) e0 (by
    have := hb s [.ref a, .ref b] I.kIn (by simpa using hl)
    simpa using this) r2 hsp) fun r s' hq => ?_)
  cases r with
  | error e => exact hx pins σ H s e s' I hq
  | ok fl =>
    cases fl with
    | ret w =>
      obtain ⟨z, H', I', rz, t, ez, q⟩ := I.after hq
      subst ez
      cases rz
      exact ⟨.bl t, H', I', rfl, q⟩
    | next => exact False.elim hq
    | brk => exact False.elim hq
    | cont => exact False.elim hq
theorem op_neF : OpR X (compareOp .NotEq) (rEqF X true) := by
  intro pins s σ H x y u v Q I rx ry h
  obtain ⟨a, b, C, dx, dy, fs, gs, f, fd, ps, sp, k, CX, E, rfl, rfl, ha, hb', c, F, hr, hb, hx, hsp⟩ := h
  cases rx
  cases ry
  obtain ⟨mA, J, _⟩ := ins_get I.hok ha
  obtain ⟨mB, J', _⟩ := ins_get I.hok hb'
  obtain ⟨od, J, _⟩ := J.look
  obtain ⟨od', J', _⟩ := J'.look
  show wpAny (model X.prog X.w) X.A (richCompare .NotEq (.ref a) (.ref b)) (EP X pins σ Q) X.xe s
  refine MyN.ne_K (tb := .ref C) (hu_of hr) I.kIn J J'.type (by simp [PySem.W.notFirst]) c.ne c.mo c.eq c.fn ?_
  have e0 := I.env0
  have hl := F.len _ _ _ _ hsp
  have r2 : Vals [V.ref a, V.ref b] [Value.ref a, Value.ref b] := .cons rfl (.cons rfl .nil)
  refine wpAny_call (codeAny_mono (F.run X.A.in1 X.stack s H ⟨[.ref a, .ref b], []⟩ [.ref a, .ref b] [.ref a, .ref b] _ E hr.in1 e0.in1 (by
    have := hb s [.ref a, .ref b] I.kIn (by simpa using hl)
    simpa using this) r2 hsp) fun r s' hq => ?_)
  cases r with
  | error e => exact hx pins σ H s e s' I hq
  | ok fl =>
    cases fl with
    | ret w =>
      obtain ⟨z, H', I', rz, t, ez, q⟩ := I.after hq
      subst ez
      cases rz
      exact ⟨t, rfl, .bl (!t), H', I', rfl, q⟩
    | next => exact False.elim hq
    | brk => exact False.elim hq
    | cont => exact False.elim hq
end
end MyR

set_option Elab.async false
set_option linter.all false
set_option maxRecDepth 100000
set_option maxHeartbeats 1000000
namespace MyR
open PySem PySem.Spec PyProof.Rows L2 RT
section
variable {prog : Program} {w : World} {A : Around} {E : Value → Shared → Prop} {s : Shared}
theorem extend_rev {R : Result → Shared → Prop} {S it l : Addr} {items : Array Value} {res : Value} {c0 : Nat} (hh : A.handled = none) (hit : s.heap.IsRevIter it l ((items.size : Int) - 1)) (hl : s.heap.IsList l items) (hne : l ≠ it) (hSi : S ≠ it) (hSl : S ≠ l) (hn : items.size ≤ sizeLine)
    (hS : s.heap.get? S = some { cls := .type "list", data := .seq #[] c0 })
    (hR : ∀ (s' : Shared) (acc : Array Value) (c' : Nat), (∀ b o, b ≠ it → b ≠ S → s.heap.get? b = some o → s'.heap.get? b = some o) → s' = { s with heap := s'.heap, toks := s'.toks } → s'.heap.get? S = some { cls := .type "list", dict := none, data := .seq acc c', slots := #[] } →
      ItemsOf (fun i v => items[items.size - 1 - i]? = some v) acc items.size → R (.ok (.ret res)) s') :
    wpAny (model prog w) A.in1 (Builtin.List.listExtendWith (.ref S) (.ref it) res)
      (fun fin s' => match fin with | .done f => R (.ok f) s' | .again c' => c'.quiet = true ∧ codeAny (model prog w) A c' R s') (fun e s' => R (.error e) s') s := by
  have W := (Walks.listRev (prog := prog) (w := w) (A := A.in1) hh it l hne items).toS
  have hSf : S ∉ [it, l] := by simp only [List.mem_cons, List.not_mem_nil, or_false, not_or]; exact ⟨hSi, hSl⟩
  have hT : s.TypeIs (.ref it) "list_reverseiterator" := hit.typeIs
  have h1 : Builtin.List.listSameRef (.ref S) (.ref it) = false := by simp [Builtin.List.listSameRef, hSi]
  unfold Builtin.List.listExtendWith
  refine wpAny_bind (wpAny_typeOf hT ?_)
  rw [if_neg (by rw [h1]; decide)]
  refine wpAny_bind (wpAny_pyIter_revIter hit ?_)
  refine wpAny_bind (wpAny_holding ?_)
  unfold Builtin.List.listLengthHint
  refine wpAny_bind (wpAny_specialOf hT nolen_lri ?_)
  show wpAny _ A.in1 (specialOf (Value.ref it) (Str.ofString "__length_hint__") >>= _) _ _ _
  refine wpAny_bind (wpAny_specialOf hT hint_lri ?_)
  generalize hid : ("list_reverseiterator.__length_hint__" : String) = id0
  wp_delta
  rw [show splitId id0 = some ("list_reverseiterator", "__length_hint__") from by subst hid; decide +kernel]
  subst hid
  refine wpAny_bind (wpAny_isInstance (b := true) hT (by rw [isSubtype_type]; kernel_rfl) ?_)
  refine wpAny_pure ?_
  rw [if_neg (by decide)]
  have e0 : ((items.size : Nat) : Int) - 1 - ((0 : Nat) : Int) = (items.size : Int) - 1 := by omega
  refine wpAny_pure ⟨plainId_quiet F.plain_extend_loop _, codeAny_extend_loopS W hn _ hSf _ items.size 0 _ _ _ rfl (Nat.zero_le _) ⟨Nat.zero_le _, by rw [e0]; exact hit, hl⟩ hS (ItemsOf.nil _) fun s' acc' c' hm hS' hacc => ?_⟩
  refine hR s' acc' c' (fun b o hb hb2 e => hm.heap b o (fun hmem => ?_) e) (Moved.eq_with hm) hS' hacc
  rcases List.mem_cons.mp hmem with e' | hmem
  · exact hb2 e'
  · exact hb (List.mem_singleton.mp hmem)
theorem list_init_rev {R : Result → Shared → Prop} {S it l : Addr} {items : Array Value} (hh : A.handled = none) (hit : s.heap.IsRevIter it l ((items.size : Int) - 1)) (hl : s.heap.IsList l items) (hne : l ≠ it) (hSi : S ≠ it) (hSl : S ≠ l) (hn : items.size ≤ sizeLine)
    (hS : s.heap.get? S = some { cls := .type "list", data := .seq #[] })
    (hR : ∀ (s' : Shared) (acc : Array Value) (c' : Nat), (∀ b o, b ≠ it → b ≠ S → s.heap.get? b = some o → s'.heap.get? b = some o) → s' = { s with heap := s'.heap, toks := s'.toks } → s'.heap.get? S = some { cls := .type "list", dict := none, data := .seq acc c', slots := #[] } →
      ItemsOf (fun i v => items[items.size - 1 - i]? = some v) acc items.size → R (.ok (.ret .none)) s') :
    wpAny (model prog w) A.in1 (Builtin.«list.__init__» ⟨[.ref S, .ref it], []⟩)
      (fun fin s' => match fin with | .done f => R (.ok f) s' | .again c' => c'.quiet = true ∧ codeAny (model prog w) A c' R s') (fun e s' => R (.error e) s') s := by
  show wpAny _ A.in1 (do let old ← Builtin.List.listItems (.ref S); Builtin.List.listUpdate (.ref S) (fun _ => #[]); letGo old.toList.reverse; Builtin.List.listExtendWith (.ref S) (.ref it) .none) _ _ s
  refine wpAny_bind ?_
  unfold Builtin.List.listItems
  refine wpAny_bind (wpAny_seqItems hS rfl (wpAny_pure ?_))
  show wpAny _ A.in1 (updateSeq S (fun _ => #[]) >>= fun _ => letGo (#[] : Array Value).toList.reverse >>= fun _ => Builtin.List.listExtendWith (.ref S) (.ref it) .none) _ _ s
  refine wpAny_bind (wpAny_updateSeq hS rfl ?_)
  have hS2 := Heap.get?_update_self (Obj.mapSeq (fun _ => (#[] : Array Value))) hS rfl
  have oth : ∀ b o, b ≠ S → s.heap.get? b = some o → (s.heap.update S (Obj.mapSeq (fun _ => (#[] : Array Value)))).get? b = some o :=
    fun b o hb e => (Heap.get?_update_other _ _ (Ne.symm hb)).trans e
  refine wpAny_bind (wpAny_letGo ?_)
  refine extend_rev hh (hit.at fun o e => oth it o (Ne.symm hSi) e) (hl.at fun o e => oth l o (Ne.symm hSl) e) hne hSi hSl hn hS2 fun s' acc c' hk hs hS' hi => ?_
  refine hR s' acc c' (fun b o h1 h2 e => hk b o h1 h2 (oth b o h2 e)) ?_ hS' hi
  exact hs
theorem call_list_rev {it l : Addr} {items : Array Value} {Q : Value → Shared → Prop} (hh : A.handled = none) (hit : s.heap.IsRevIter it l ((items.size : Int) - 1)) (hl : s.heap.IsList l items) (hne : l ≠ it) (hn : items.size ≤ sizeLine)
    (hQ : ∀ (s' : Shared) (acc : Array Value) (c' : Nat), (∀ b o, b ≠ it → s.heap.get? b = some o → s'.heap.get? b = some o) → s' = { s with heap := s'.heap, toks := s'.toks } → s'.heap.get? s.heap.objs.size = some { cls := .type "list", dict := none, data := .seq acc c', slots := #[] } →
      ItemsOf (fun i v => items[items.size - 1 - i]? = some v) acc items.size → Q (.ref s.heap.objs.size) s') :
    wpAny (model prog w) A (call (.type "list") [.ref it]) Q E s := by
  obtain ⟨oi, hoi, _⟩ := id hit
  obtain ⟨ol, hol, _⟩ := id hl
  have hSi : s.heap.objs.size ≠ it := Nat.ne_of_gt (Heap.lt_size hoi)
  have hSl : s.heap.objs.size ≠ l := Nat.ne_of_gt (Heap.lt_size hol)
  refine callType_codes (Q₁ := fun obj s₁ => obj = .ref s.heap.objs.size ∧ s₁ = { s with heap := s.heap.push { cls := .type "list", data := .seq #[] } }) F.called_list (F.typeCall_list_1 _) F.entry_list_init
    (code_list_new _ ⟨rfl, rfl⟩) fun obj s₁ h₁ => ?_
  obtain ⟨rfl, rfl⟩ := h₁
  have hS : (s.heap.push { cls := .type "list", data := .seq #[] }).get? s.heap.objs.size = some { cls := .type "list", data := .seq #[] } := Heap.get?_push_size _ rfl
  refine ⟨⟨_, hS, rfl⟩, F.args_list_init_2 _ _, list_init_rev (A := A.in1) hh (hit.at fun o e => Heap.get?_push_of_some _ e) (hl.push _) hne hSi hSl hn hS fun s' acc c' hk hs hS' hi => ?_⟩
  exact ⟨rfl, hQ s' acc c' (fun b o hb e => hk b o hb (Nat.ne_of_lt (Heap.lt_size e)) (Heap.get?_push_of_some _ e)) hs hS' hi⟩
end
/-- list(reversed(x)), x a list: a new list -/
def tLstRev (K : PySem.W.Frag) (te : TE) : TE := fun σ H Q => te σ H fun v H1 => ∃ (a : Addr) (xs : List V), v = .ref a ∧ SqL K H1 a xs ∧ ∀ q, H1 q = none → Q (.ref q) (upd H1 q (.lst xs.reverse))
section
variable {X : Cx}
theorem pe_lstRev {e : Expr} {te : TE} {p p2 pos pos2 : Pos} (hc : X.calm = true) (hg : Gl X "list") (hm : X.mg "list" = none) (hg2 : Gl X "reversed") (hm2 : X.mg "reversed" = none) (he : PE X e te)
    (hs : starEach [e] X.env = (false, eval e X.env) :: starEach [] X.env := by rfl)
    (hs2 : starEach [.Call (.Name "reversed" p2) [e] [] pos2] X.env = (false, eval (.Call (.Name "reversed" p2) [e] [] pos2) X.env) :: starEach [] X.env := by rfl) :
    PE X (.Call (.Name "list" p) [.Call (.Name "reversed" p2) [e] [] pos2] [] pos) (tLstRev X.K te) := by
  refine ⟨fun pins s σ H Q I h => ?_⟩
  refine Call_ (ld_blt I hg hm (show bootBuiltins "list" = some (.type "list") by decide +kernel) (PyProof.Rows.callWith_type1 (args_cons (Call_ (ld_blt I hg2 hm2 PyProof.Rows.boot_reversed (PyProof.Rows.callWith_type1 (args_cons (thn (he.run pins s σ H _ I h) fun u s1 ⟨v, H1, I1, r1, q1⟩ => args_nil ?_) hs) hs rfl))) hs2) hs2 rfl))
  obtain ⟨a, xs, ev, hq, q⟩ := q1
  subst ev
  obtain rfl : u = Value.ref a := r1
  obtain ⟨its, rv, p', hz⟩ := I1.list hq
  refine call_reversed_list p'.isList (args_nil ?_)
  have k0 : ∀ b o, s1.heap.get? b = some o → (s1.heap.push (revObj a ((its.toArray.size : Int) - 1))).get? b = some o := fun b o e => Heap.get?_push_of_some _ e
  have hl := p'.isList
  obtain ⟨ol, hol, _⟩ := id hl
  have hne : a ≠ s1.heap.objs.size := Nat.ne_of_lt (Heap.lt_size hol)
  have hn : its.toArray.size ≤ sizeLine := by rw [List.size_toArray, ← rv.length]; exact hz
  refine call_list_rev (s := { s1 with heap := s1.heap.push (revObj a ((its.toArray.size : Int) - 1)) }) (I1.ok.hd hc) ⟨_, Heap.get?_push_size _ rfl, rfl, rfl⟩ (hl.push _) hne hn fun s' acc c' hk hs' hS' hi => ?_
  have kk : ∀ b o, s1.heap.get? b = some o → s'.heap.get? b = some o := fun b o e => hk b o (Nat.ne_of_lt (Heap.lt_size e)) (k0 b o e)
  have hsz : s1.heap.objs.size ≤ (s1.heap.push (revObj a ((its.toArray.size : Int) - 1))).objs.size := by rw [Heap.size_push]; exact Nat.le_succ _
  have J := I1.laid (a := (s1.heap.push (revObj a ((its.toArray.size : Int) - 1))).objs.size) (o := .lst xs.reverse) (h' := s'.heap) (t' := s'.toks) kk hsz
    (show ObjOk X.prog X.w _ _ _ (.lst xs.reverse) from ⟨by rw [List.length_reverse]; exact hz, acc.toList, c', vals_rev rv hi, by rw [Array.toArray_toList]; exact hS'⟩)
  rw [hs']
  exact ⟨.ref _, _, J, rfl, q _ (I1.hok.fresh hsz)⟩
end
end MyR

set_option Elab.async false
set_option linter.all false
set_option maxRecDepth 100000
set_option maxHeartbeats 1000000
namespace My
open PySem L2 MyR
def top (i : Nat) : Stmt := PySem.Challenge.pw_lowsure_k06_whole_any_words_of_a_node.main.body.getD i (.Pass ⟨0, 0, 0, 0⟩)
/-- what the module's names hold -/
structure Glob (mg : Str → Option Value) : Prop where
  g_len : mg "len" = none
  g_max : mg "max" = none
  g_list : mg "list" = none
  g_tuple : mg "tuple" = none
  g_reversed : mg "reversed" = none
  g_range : mg "range" = none
  g_int : mg "int" = none
  g_str : mg "str" = none
  g_bool : mg "bool" = none
  g_isinstance : mg "isinstance" = none
  g_all : mg "all" = none
  g_enumerate : mg "enumerate" = none
  g_zip : mg "zip" = none
/-! ### the source of draws -/
def dKV (s n : Int) (l : Addr) : List (Key × V) := [(.inr "seed", .int s), (.inr "number", .int n), (.inr "left", .ref l)]
theorem k_sn : ¬ ((.inr "seed" : Key) = .inr "number") := fun h => absurd (Sum.inr.inj h) (by decide +kernel)
theorem k_sl : ¬ ((.inr "seed" : Key) = .inr "left") := fun h => absurd (Sum.inr.inj h) (by decide +kernel)
theorem k_nl : ¬ ((.inr "number" : Key) = .inr "left") := fun h => absurd (Sum.inr.inj h) (by decide +kernel)
theorem d_seed {s n : Int} {l : Addr} : valV (dKV s n l) (.inr "seed") = some (.int s) := valV_pos rfl
theorem d_number {s n : Int} {l : Addr} : valV (dKV s n l) (.inr "number") = some (.int n) := by
  unfold dKV; rw [valV_neg k_sn, valV_pos rfl]
theorem d_left {s n : Int} {l : Addr} : valV (dKV s n l) (.inr "left") = some (.ref l) := by
  unfold dKV; rw [valV_neg k_sl, valV_neg k_nl, valV_pos rfl]
theorem d_put_seed {s n z : Int} {l : Addr} : putK (dKV s n l) (.inr "seed") (.int z) = dKV z n l := by
  unfold putK
  rw [valV_any, d_seed]
  rw [if_pos (show (some (V.int s)).isSome = true from rfl)]
  unfold dKV
  simp only [List.map_cons, List.map_nil, if_true, if_neg (Ne.symm k_sn), if_neg (Ne.symm k_sl)]
theorem d_put_number {s n z : Int} {l : Addr} : putK (dKV s n l) (.inr "number") (.int z) = dKV s z l := by
  unfold putK
  rw [valV_any, d_number]
  rw [if_pos (show (some (V.int n)).isSome = true from rfl)]
  unfold dKV
  simp only [List.map_cons, List.map_nil, if_true, if_neg k_sn, if_neg (Ne.symm k_nl)]
theorem d_merge {s n : Int} {l : Addr} : mergeK [] (dKV s n l) = dKV s n l := by
  unfold mergeK dKV
  simp only [List.foldl_cons, List.foldl_nil]
  have e1 : putK ([] : List (Key × V)) (.inr "seed") (.int s) = [(.inr "seed", .int s)] := putK_new _ valV_nil
  have e2 : putK ([(.inr "seed", .int s)] : List (Key × V)) (.inr "number") (.int n) = [(.inr "seed", .int s), (.inr "number", .int n)] := putK_new _ (by rw [valV_neg k_sn]; rfl)
  have e3 : putK ([(.inr "seed", .int s), (.inr "number", .int n)] : List (Key × V)) (.inr "left") (.ref l) = [(.inr "seed", .int s), (.inr "number", .int n), (.inr "left", .ref l)] := putK_new _ (by rw [valV_neg k_sl, valV_neg k_nl]; rfl)
  rw [e1, e2, e3]
theorem g_seed {H : Hp} {d l : Addr} {s n : Int} (h : H d = some (.dK (dKV s n l))) : DGet H d (.str "seed") (some (.int s)) := by
  have q := DGet.k (k := .inr "seed") h
  rw [d_seed] at q
  exact q
theorem g_number {H : Hp} {d l : Addr} {s n : Int} (h : H d = some (.dK (dKV s n l))) : DGet H d (.str "number") (some (.int n)) := by
  have q := DGet.k (k := .inr "number") h
  rw [d_number] at q
  exact q
theorem g_left {H : Hp} {d l : Addr} {s n : Int} (h : H d = some (.dK (dKV s n l))) : DGet H d (.str "left") (some (.ref l)) := by
  have q := DGet.k (k := .inr "left") h
  rw [d_left] at q
  exact q
theorem p_seed {H : Hp} {d l : Addr} {s n z : Int} (h : H d = some (.dK (dKV s n l))) : DPut H d (.str "seed") (.int z) (upd H d (.dK (dKV z n l))) := by
  have q := DPut.k (k := .inr "seed") (v := .int z) h (by show 3 < sizeLine; decide)
  rw [d_put_seed] at q
  exact q
theorem p_number {H : Hp} {d l : Addr} {s n z : Int} (h : H d = some (.dK (dKV s n l))) : DPut H d (.str "number") (.int z) (upd H d (.dK (dKV s z l))) := by
  have q := DPut.k (k := .inr "number") (v := .int z) h (by show 3 < sizeLine; decide)
  rw [d_put_number] at q
  exact q
/-- what holds between a statement and the rest -/
theorem seq_by {t u : TS} {D : Ends} {σ : St} {H : Hp} (Pv : St → Hp → Prop) (h1 : ∀ D' : Ends, (∀ σ H, Pv σ H → D'.nx σ H) → t D' σ H) (h2 : ∀ σ H, Pv σ H → u D σ H) : tSeq t u D σ H := h1 { D with nx := u D } h2
structure Deal (H : Hp) (d l : Addr) : Prop where
  ex : ∃ (s n : Int) (ns : List Int), H d = some (.dK (dKV s n l)) ∧ H l = some (.lst (ns.map V.int)) ∧ 0 ≤ s ∧ s < 2147483648
/-- what stood but at d and l stands as it was -/
def Kept (d l : Addr) (H H' : Hp) : Prop := ∀ b o, H b = some o → b ≠ d → b ≠ l → H' b = some o
theorem Kept.refl {d l : Addr} {H : Hp} : Kept d l H H := fun _ _ e _ _ => e
theorem Kept.trans {d l : Addr} {H H1 H2 : Hp} (a : Kept d l H H1) (b : Kept d l H1 H2) : Kept d l H H2 := fun c o e h1 h2 => b c o (a c o e h1 h2) h1 h2
theorem Kept.d {d l : Addr} {H H1 : Hp} {o : HO} (a : Kept d l H H1) : Kept d l H (upd H1 d o) := fun c o e h1 h2 => by rw [upd_ne h1]; exact a c o e h1 h2
theorem Kept.l {d l : Addr} {H H1 : Hp} {o : HO} (a : Kept d l H H1) : Kept d l H (upd H1 l o) := fun c o e h1 h2 => by rw [upd_ne h2]; exact a c o e h1 h2
def spDraw : Sp := fun vs H Q _ => ∃ (d l : Addr) (m : Int), vs = [.ref d, .int m] ∧ Deal H d l ∧ 0 < m ∧ m.natAbs < 2 ^ 110 ∧
  ∀ (r : Int) (H' : Hp), 0 ≤ r → r < m → Deal H' d l → Kept d l H H' → Q (.int r) H'
section
variable {P : Program} {w : World} {K : PySem.W.Frag} {mg : Str → Option Value} {base : Heap}
abbrev s_law_draw : Stmt := top 43
abbrev N_law_draw : List Str := ["_law_deal_here", "_law_many", "_law_number", "_law_one", "_law_other"]
theorem sc_law_draw : FnScope N_law_draw ["_law_deal_here", "_law_many"] (defScope s_law_draw) := ⟨rfl, rfl, rfl, by decide +kernel, rfl, by decide +kernel, by decide +kernel⟩
theorem ok_law_draw {f : Addr} {fd : FuncData} (F : Fun K "_law_draw" "_law_draw" s_law_draw f fd) (T : Glob mg) : FnOk P w K mg base CX0 1 f fd ["_law_deal_here", "_law_many"] spDraw := by
  refine F.ok sc_law_draw (fun vs H Q E h => ?_) (fun cdv A outer s H vs Q E hr h => ?_)
  · obtain ⟨d, l, m, rfl, _⟩ := h
    rfl
  · obtain ⟨d, l, m, rfl, D, hm, hb, k⟩ := h
    have hu := hu_of hr
    have nd := sc_law_draw.nd
    refine ⟨_, (pss_cons (ps_while PassesOwn.never (PW.pt (pw_and (pt_cmpR op_eq (pe_dget hu (pv 0) pe_str (fun _ _ => rfl)) pe_int (nomark _)) (pw_and1 (pt_cmpR op_gt (pe_callB call_len_seq (by rfl) T.g_len PySem.boot_len (pa_cons (pe_dget hu (pv 0) pe_str (fun _ _ => rfl)) pa_nil)) pe_int (nomark _)))))
      (pss_one (ps_dput hu (pv 0) pe_str (pe_bm0 PySem.F.plainAttrs_list PySem.F.slot_list_pop PySem.F.type_list_pop mt_pop (pe_dget hu (pv 0) pe_str (fun _ _ => rfl))) rfl)))
    (pss_cons (ps_set (i := 2) nd rfl (Or.inl rfl) (pe_dget hu (pv 0) pe_str (fun _ _ => rfl)))
    (pss_cons (ps_if (pt_cmpR op_gt (pv 2) pe_int (nomark _))
    (pss_cons (ps_dput hu (pv 0) pe_str (pe_op op_fdivW (pv 2) (pv 1)) rfl)
    (pss_one (ps_ret (pe_op op_mod (pv 2) (pv 1)))))
    pss_nil)
    (pss_cons (ps_set (i := 3) nd rfl (Or.inl rfl) (pe_op op_mod (pe_op op_add (pe_op op_mul (pe_dget hu (pv 0) pe_str (fun _ _ => rfl)) pe_int) pe_int) pe_int))
    (pss_cons (ps_dput hu (pv 0) pe_str (pe_op op_mod (pe_op op_add (pe_op op_mul (pv 3) pe_int) pe_int) pe_int) rfl)
    (pss_cons (ps_set (i := 4) nd rfl (Or.inl rfl) (pe_op op_mod (pe_op op_mul (pe_dget hu (pv 0) pe_str (fun _ _ => rfl)) (pe_dget hu (pv 0) pe_str (fun _ _ => rfl))) pe_int))
    (pss_one (ps_ret (pe_op op_mod (pe_op op_add (pe_op op_mul (pe_op op_mod (pe_op op_mul (pv 3) (pv 3)) pe_int) pe_int) (pv 4)) (pv 1)))))))))), ?_⟩
    refine seq_by (fun σ H1 => σ = [some (.ref d), some (.int m), none, none, none] ∧ Deal H1 d l ∧ Kept d l H H1) (fun D' hD' => ?_) ?_
    · refine while_by (fun σ H1 => σ = [some (.ref d), some (.int m), none, none, none] ∧ Deal H1 d l ∧ Kept d l H H1)
        (fun _ H1 => match H1 l with | some (.lst xs) => xs.length | _ => 0) ⟨rfl, D, Kept.refl⟩ ?_ ?_
      · rintro σ H1 ⟨rfl, D1, kp⟩
        obtain ⟨s0, n, ns, hd, hl, hs0, hs1⟩ := id D1
        have ndl : d ≠ l := ne_of hd hl (by intro z; cases z)
        refine ⟨_, rfl, d, _, rfl, g_number hd, rfl, _, rfl, ?_⟩
        refine ite2 (fun hz => ?_) (fun hz => ?_)
        · refine ⟨_, rfl, d, _, rfl, g_left hd, l, _, rfl, .inl (SqL.of hl), _, _, rfl, rfl, _, rfl, ?_⟩
          refine ite2 (fun hz2 => ?_) (fun hz2 => ?_)
          · have hp : 0 < ns.length := by
              have := of_decide_eq_true hz2
              rw [List.length_map] at this
              omega
            have hg : (ns.map V.int)[(ns.map V.int).length - 1]? = some (.int (ns[ns.length - 1])) := by
              rw [List.length_map, List.getElem?_map, List.getElem?_eq_getElem (by omega)]
              rfl
            refine ⟨_, rfl, d, _, rfl, g_left hd, .inl ⟨rfl, _, SqL.of hl⟩, l, _, _, rfl, rfl, hl, hg, _, rfl, d, _, rfl, p_number (by rw [upd_ne ndl]; exact hd), ?_⟩
            have e2 : (ns.map V.int).dropLast = ns.dropLast.map V.int := by rw [List.map_dropLast]
            refine ⟨⟨rfl, ⟨⟨s0, _, ns.dropLast, upd_same, by rw [upd_ne ndl.symm, upd_same, e2], hs0, hs1⟩⟩, kp.l.d⟩, ?_⟩
            rw [upd_ne ndl.symm, upd_same, hl]
            show (ns.map V.int).dropLast.length < (ns.map V.int).length
            rw [List.length_dropLast, List.length_map]
            omega
          · exact hD' _ _ ⟨rfl, D1, kp⟩
        · refine iteF ?_
          exact hD' _ _ ⟨rfl, D1, kp⟩
      · intro σ H1 Q1 Q2 hq hc
        obtain ⟨x, e1, a, v, e2, hg, sc, b1, eb, hc⟩ := hc
        refine ⟨x, e1, a, v, e2, hg, sc, b1, eb, ?_⟩
        revert hc
        cases b1 with
        | false => exact fun hc => hq _ _ hc
        | true =>
          intro hc
          obtain ⟨x2, e3, a2, v2, e4, hg2, p, ys, e5, sq, i1, j1, e6, e7, k1, e8, hc⟩ := hc
          exact ⟨x2, e3, a2, v2, e4, hg2, p, ys, e5, sq, i1, j1, e6, e7, k1, e8, hq _ _ hc⟩
    · rintro σ H1 ⟨rfl, D1, kp⟩
      obtain ⟨s0, n, ns, hd, hl, hs0, hs1⟩ := id D1
      have ndl : d ≠ l := ne_of hd hl (by intro z; cases z)
      refine ⟨_, rfl, d, _, rfl, g_number hd, _, rfl, _, _, rfl, rfl, _, rfl, ?_⟩
      refine ite2 (fun hz => ?_) (fun hz => ?_)
      · have h63 : 0 < m := hm
        refine ⟨_, rfl, _, rfl, _, _, rfl, rfl, wide_div hm hb (by decide) (by decide), _, rfl, d, _, rfl, p_number hd, ?_⟩
        refine ⟨_, rfl, _, rfl, _, _, rfl, rfl, hm, ?_⟩
        exact k _ _ (Int.emod_nonneg _ (by omega)) (Int.emod_lt_of_pos _ hm) ⟨⟨s0, _, ns, upd_same, by rw [upd_ne ndl.symm]; exact hl, hs0, hs1⟩⟩ kp.d
      · -- the seed turns
        have r1 : ∀ (x y : Int), 0 < y → 0 ≤ x % y ∧ x % y < y := fun x y hy => ⟨Int.emod_nonneg _ (by omega), Int.emod_lt_of_pos _ hy⟩
        have ha1 := r1 (s0 * 48271 + 7919) 2147483647 (by decide)
        have hb1 := r1 ((s0 * 48271 + 7919) % 2147483647 * 40692 + 104729) 2147483399 (by decide)
        have q := r1 ((s0 * 48271 + 7919) % 2147483647 * ((s0 * 48271 + 7919) % 2147483647)) 2147483629 (by decide)
        refine ⟨_, rfl, d, _, rfl, g_seed hd, _, _, rfl, rfl, .inl ⟨by omega, by omega⟩, _, _, rfl, rfl, _, _, rfl, rfl, (by show (0 : Int) < 2147483647; decide), ?_⟩
        refine ⟨_, rfl, _, _, rfl, rfl, .inl ⟨by omega, by omega⟩, _, _, rfl, rfl, _, _, rfl, rfl, (by show (0 : Int) < 2147483399; decide), ?_⟩
        refine ⟨_, rfl, d, _, rfl, p_seed hd, ?_⟩
        refine ⟨_, rfl, d, _, rfl, g_seed upd_same, _, rfl, d, _, rfl, g_seed upd_same, _, _, rfl, rfl, .inl ⟨by omega, by omega⟩, _, _, rfl, rfl, (by show (0 : Int) < 2147483563; decide), ?_⟩
        refine ⟨_, rfl, _, rfl, _, _, rfl, rfl, .inl ⟨by omega, by omega⟩, _, _, rfl, rfl, (by show (0 : Int) < 2147483629; decide), _, _, rfl, rfl, .inl ⟨by omega, by omega⟩, _, rfl, _, _, rfl, rfl, _, rfl, _, _, rfl, rfl, hm, ?_⟩
        exact k _ _ (Int.emod_nonneg _ (by omega)) (Int.emod_lt_of_pos _ hm) ⟨⟨_, n, ns, upd_same, by rw [upd_ne ndl.symm]; exact hl, hb1.1, by omega⟩⟩ kp.d
end
end My

set_option Elab.async false
set_option linter.all false
set_option maxRecDepth 100000
set_option maxHeartbeats 1000000
namespace My
open PySem L2 MyR
/-- a new source of draws from the script -/
def spDeal (K : PySem.W.Frag) : Sp := fun vs H Q _ => ∃ (a : Addr) (ns : List Int), vs = [.ref a, .int 0] ∧ SqL K H a (ns.map V.int) ∧ ns.length ≤ 63 ∧
  ∀ (d l : Addr) (H' : Hp), H d = none → H l = none → Same H H' → Deal H' d l → Q (.ref d) H'
theorem cut_ints (ns : List Int) (lo hi : Option Int) : ∃ ms : List Int, cutV (ns.map V.int) lo hi = ms.map V.int ∧ ms.length ≤ ns.length := by
  unfold cutV
  rw [← List.map_drop, ← List.map_take]
  refine ⟨_, rfl, ?_⟩
  rw [List.length_take, List.length_drop]
  omega
theorem get_int {ms : List Int} {i : Nat} {x : V} (h : (ms.map V.int)[i]? = some x) : ∃ z, x = V.int z ∧ i < ms.length := by
  rw [List.getElem?_map] at h
  cases e : ms[i]? with
  | none => rw [e] at h; cases h
  | some z =>
    rw [e] at h
    exact ⟨z, (Option.some.inj h).symm, (List.getElem?_eq_some_iff.mp e).1⟩
theorem small63 {n : Nat} (h : n ≤ 63) : n < sizeLine := small1000 (by omega)
section
variable {P : Program} {w : World} {K : PySem.W.Frag} {mg : Str → Option Value} {base : Heap}
abbrev s_law_deal : Stmt := top 42
abbrev N_law_deal : List Str := ["_law_script", "_law_base", "_law_cells", "_law_cell", "_law_number"]
theorem sc_law_deal : FnScope N_law_deal ["_law_script", "_law_base"] (defScope s_law_deal) := ⟨rfl, rfl, rfl, by decide +kernel, rfl, by decide +kernel, by decide +kernel⟩
theorem ok_law_deal {f : Addr} {fd : FuncData} (F : Fun K "_law_deal" "_law_deal" s_law_deal f fd) (T : Glob mg) : FnOk P w K mg base CX0 1 f fd ["_law_script", "_law_base"] (spDeal K) := by
  refine F.ok sc_law_deal (fun vs H Q E h => ?_) (fun cdv A outer s H vs Q E hr h => ?_)
  · obtain ⟨a, ns, rfl, _⟩ := h
    rfl
  · obtain ⟨a, ns, rfl, hS, hlen, k⟩ := h
    have hu := hu_of hr
    have nd := sc_law_deal.nd
    refine ⟨_, (pss_cons (ps_setLc (i := 2) (own := [("_law_cell", 3)]) (g := gName 3) (tt := tYes) rfl nd rfl rfl (sw_true rfl rfl rfl (by decide +kernel)) (pi_list (pe_slice sl_list (pv 0) (po_some (pv 1)) (po_some pe_int))) (blkOk_by (N := N_law_deal) (sc := defScope s_law_deal) (by decide +kernel)) (fun _ _ _ _ _ => pg_name (i := 3) nd rfl (Or.inl rfl)) (fun _ _ _ _ _ => pts_nil) (fun _ _ _ _ _ => (pe_callB (call_max2 rfl) (by rfl) T.g_max (by decide +kernel) (pa_cons (pv 3) (pa_cons (pe_op op_sub pe_int (pv 3)) pa_nil)))))
    (pss_cons (ps_set (i := 4) nd rfl (Or.inl rfl) (pe_op op_add pe_int (pv 1)))
    (pss_cons (ps_for PassesOwn.never rfl (pi_list (pv 2)) (pg_name (i := 3) nd rfl (Or.inl rfl))
    (pss_one (ps_set (i := 4) nd rfl (Or.inl rfl) (pe_op op_mod (pe_op op_add (pe_op op_mul (pv 4) pe_int) (pe_op op_mod (pv 3) pe_int)) pe_int))))
    (pss_one (ps_ret (pe_disp (pps_cons pe_str (pv 4) (pps_cons pe_str pe_int (pps_cons pe_str (pe_lstRev rfl (by rfl) T.g_list (by rfl) T.g_reversed (pe_lc (own := [("_law_cell", 3)]) (g := gName 3) rfl nd (pi_list (pv 2)) (blkOk_by (N := N_law_deal) (sc := defScope s_law_deal) (by decide +kernel)) (fun _ _ _ _ _ => pg_name (i := 3) nd rfl (Or.inl rfl)) (fun _ _ _ _ _ => pts_one (pt_cmpR op_ge (pv 3) (pe_op op_pow pe_int pe_int) (nomark _))) (fun _ _ _ _ _ => (pv 3)))) pps_nil))) (by rfl) (by rfl) (fun z => by cases z) (by decide))))))), ?_⟩
    -- the cells
    refine ⟨_, rfl, _, rfl, _, rfl, _, rfl, a, _, rfl, hS, fun sl hsl => ?_⟩
    obtain ⟨ms, em, hml⟩ := cut_ints ns (some 0) (some 63)
    rw [em]
    refine ⟨sl, rfl, ⟨_, SqL.of upd_same⟩, fun D hD => ?_⟩
    have nDs : sl ≠ D := fun e => by rw [e, upd_same] at hD; cases hD
    have hD0 : H D = none := by rw [← upd_ne (H := H) (Ne.symm nDs)]; exact hD
    refine lc_list (K := K) (a := sl) (xs := ms.map V.int) (fun i H1 => Same H H1 ∧ H1 sl = some (.lst (ms.map V.int)) ∧ ∃ acc : List Int, H1 D = some (.lst (acc.map V.int)) ∧ acc.length = i)
      ⟨fun b o e => by rw [upd_ne (ne_of_none e hD0), upd_ne (ne_of_none e hsl)]; exact e, by rw [upd_ne nDs, upd_same], [], upd_same, rfl⟩ (fun i H1 _ ⟨_, h1, _⟩ => SqL.of h1) ?_ ?_
    · rintro i x H1 hx ⟨sm, h1, acc, h2, hl⟩
      obtain ⟨z, rfl, hi⟩ := get_int hx
      refine ⟨rfl, ?_⟩
      refine ⟨_, rfl, _, rfl, _, _, rfl, rfl, ?_⟩
      refine ⟨_, _, rfl, ?_⟩
      refine ⟨acc.map V.int, h2, by rw [List.length_map]; exact small63 (by omega), fun b o e => ?_, ?_, ?_⟩
      · rw [upd_ne (ne_of_none e hD0)]; exact sm b o e
      · rw [upd_ne nDs]; exact h1
      · refine ⟨acc ++ [if 0 - z > z then 0 - z else z], ?_, by rw [List.length_append, hl]; rfl⟩
        rw [upd_same, List.map_append]
        rfl
    · rintro H1 ⟨sm, h1, cs, h2, hl⟩
      rw [List.length_map] at hl
      refine ⟨_, rfl, _, _, rfl, rfl, ?_⟩
      refine ⟨_, rfl, D, rfl, ⟨_, SqL.of h2⟩, ?_⟩
      refine for_list (K := K) (a := D) (xs := cs.map V.int) (fun i σ H2 => ∃ (v : Option V) (t : Int), σ = [some (.ref a), some (.int 0), some (.ref D), v, some (.int t)] ∧ 0 ≤ t ∧ t < 2147483648 ∧ H2 = H1)
        ⟨none, 6143, rfl, by decide, by decide, rfl⟩ (fun i σ H2 _ ⟨_, _, _, _, _, e⟩ => by rw [e]; exact SqL.of h2) ?_ ?_
      · rintro i x σ H2 hx ⟨v, t, rfl, t0, t1, rfl⟩
        obtain ⟨z, rfl, hi⟩ := get_int hx
        refine ⟨_, rfl, _, _, rfl, rfl, .inl ⟨by omega, by omega⟩, _, rfl, _, _, rfl, rfl, (by show (0 : Int) < 2147483629; decide), _, _, rfl, rfl, _, _, rfl, rfl, (by show (0 : Int) < 2147483647; decide), ?_⟩
        refine ⟨_, _, rfl, Int.emod_nonneg _ (by decide), ?_, rfl⟩
        have := Int.emod_lt_of_pos (t * 69621 + z % 2147483629) (show (0 : Int) < 2147483647 by decide)
        omega
      · rintro σ H2 ⟨v, t, rfl, t0, t1, rfl⟩
        -- the dict
        intro d hd
        have nDd : D ≠ d := ne_of_none h2 hd
        refine ⟨_, rfl, ?_⟩
        refine ⟨_, rfl, D, rfl, ⟨_, SqL.of (by rw [upd_ne nDd]; exact h2)⟩, fun L hL => ?_⟩
        have nLd : d ≠ L := fun e => by rw [e, upd_same] at hL; cases hL
        have hL0 : H2 L = none := by rw [← upd_ne (H := H2) (Ne.symm nLd)]; exact hL
        have nDL : D ≠ L := ne_of_none h2 hL0
        refine lc_list (K := K) (a := D) (xs := cs.map V.int) (fun i H3 => Same H2 H3 ∧ H3 d = some (.dK []) ∧ ∃ acc : List Int, H3 L = some (.lst (acc.map V.int)) ∧ acc.length ≤ i)
          ⟨fun b o e => by rw [upd_ne (ne_of_none e hL0), upd_ne (ne_of_none e hd)]; exact e, by rw [upd_ne nLd, upd_same], [], upd_same, Nat.le_refl _⟩ (fun i H3 _ ⟨sm3, _, _⟩ => SqL.of (sm3 _ _ h2)) ?_ ?_
        · rintro i x H3 hx ⟨sm3, hd3, acc, h3, hl3⟩
          obtain ⟨z, rfl, hi⟩ := get_int hx
          refine ⟨rfl, ?_⟩
          refine ⟨_, rfl, _, _, rfl, rfl, ⟨by decide, by decide, by decide⟩, _, _, rfl, rfl, _, rfl, ?_⟩
          have go : ∀ (zs : List Int), zs.length ≤ i + 1 → ∀ H4, H4 = upd H3 L (.lst (zs.map V.int)) → Same H2 H4 ∧ H4 d = some (.dK []) ∧ ∃ acc : List Int, H4 L = some (.lst (acc.map V.int)) ∧ acc.length ≤ i + 1 := fun zs hz H4 e4 => by
            subst e4
            refine ⟨fun b o e => ?_, by rw [upd_ne nLd]; exact hd3, zs, upd_same, hz⟩
            rw [upd_ne (ne_of_none e hL0)]
            exact sm3 b o e
          refine ite2 (fun _ => ?_) (fun _ => ?_)
          · refine ⟨_, rfl, acc.map V.int, h3, by rw [List.length_map]; exact small63 (by omega), ?_⟩
            refine go (acc ++ [z]) (by rw [List.length_append]; exact Nat.succ_le_succ hl3) _ ?_
            rw [List.map_append]
            rfl
          · exact ⟨sm3, hd3, acc, h3, Nat.le_succ_of_le hl3⟩
        · rintro H3 ⟨sm3, hd3, acc, h3, hl3⟩
          refine ⟨L, _, rfl, SqL.of h3, fun R hR => ?_⟩
          have nRd : d ≠ R := ne_of_none hd3 hR
          refine ⟨by rw [upd_ne nRd]; exact hd3, dKV t 0 R, rfl, (by show 3 ≤ 15; decide), ?_⟩
          rw [d_merge]
          have hR2 : H2 R = none := sm3.free hR
          refine k d R _ (sm.free hd) (sm.free hR2) (fun b o e => ?_) ⟨⟨t, 0, acc.reverse, upd_same, ?_, t0, t1⟩⟩
          · have e2 := sm b o e
            rw [upd_ne (ne_of_none e2 hd), upd_ne (ne_of_none e2 hR2)]
            exact sm3 b o e2
          · rw [upd_ne (Ne.symm nRd), upd_same, List.map_reverse]
end
end My

set_option Elab.async false
set_option linter.all false
set_option maxRecDepth 100000
set_option maxHeartbeats 1000000
namespace My
open PySem L2 MyR
/-- a def as its callers know it -/
structure Df (P : Program) (w : World) (K : PySem.W.Frag) (mg : Str → Option Value) (base : Heap) (k : Nat) (x : Str) (ps : List Str) (sp : Sp) where
  f : Addr
  fd : FuncData
  ok : FnOk P w K mg base CX0 k f fd ps sp
  g : mg x = some (.ref f)
  kp : PySem.W.keepIn K (.ref f) = true
  b : Binds K fd ps []
/-- the objects of the deal are no others -/
theorem Deal.ne {H : Hp} {d l b : Addr} {xs : List V} (D : Deal H d l) (h : H b = some (.lst xs)) : b ≠ d := by
  obtain ⟨s, n, ns, hd, hl, _⟩ := D.ex
  exact ne_of h hd (by intro z; cases z)
theorem Deal.new {H : Hp} {d l p : Addr} {o : HO} (D : Deal H d l) (h : H p = none) : Deal (upd H p o) d l := by
  obtain ⟨s, n, ns, hd, hl, r⟩ := D.ex
  exact ⟨⟨s, n, ns, by rw [upd_ne (ne_of_none hd h)]; exact hd, by rw [upd_ne (ne_of_none hl h)]; exact hl, r⟩⟩
theorem Deal.other {H : Hp} {d l p : Addr} {o : HO} (D : Deal H d l) (h1 : p ≠ d) (h2 : p ≠ l) : Deal (upd H p o) d l := by
  obtain ⟨s, n, ns, hd, hl, r⟩ := D.ex
  exact ⟨⟨s, n, ns, by rw [upd_ne (Ne.symm h1)]; exact hd, by rw [upd_ne (Ne.symm h2)]; exact hl, r⟩⟩
theorem Deal.free {H : Hp} {d l p : Addr} (D : Deal H d l) (h : H p = none) : p ≠ d ∧ p ≠ l := by
  obtain ⟨s, n, ns, hd, hl, r⟩ := D.ex
  exact ⟨Ne.symm (ne_of_none hd h), Ne.symm (ne_of_none hl h)⟩
theorem Kept.new {d l p : Addr} {H H1 : Hp} {o : HO} (a : Kept d l H H1) (h : H p = none) : Kept d l H (upd H1 p o) := fun c u e h1 h2 => by rw [upd_ne (ne_of_none e h)]; exact a c u e h1 h2
theorem Kept.seq {K : PySem.W.Frag} {d l a : Addr} {H H1 : Hp} {xs : List V} (k : Kept d l H H1) (h : SqL K H a xs) (h1 : a ≠ d) (h2 : a ≠ l) : SqL K H1 a xs := by
  rcases h with (h | ⟨o, h⟩) | h
  · exact .inl (.inl (k _ _ h h1 h2))
  · exact .inl (.inr ⟨o, k _ _ h h1 h2⟩)
  · exact .inr h
theorem same_kept {d l : Addr} {H H1 : Hp} (h : Same H H1) : Kept d l H H1 := fun b o e _ _ => h b o e
theorem perm_erase {α : Type} : ∀ (l : List α) (j : Nat) (h : j < l.length), (l[j] :: l.eraseIdx j).Perm l
  | [], j, h => by simp at h
  | x :: l, 0, h => by simp
  | x :: l, j + 1, h => by
    have hj : j < l.length := by simpa using h
    have e := perm_erase l j hj
    simp only [List.getElem_cons_succ, List.eraseIdx_cons_succ]
    exact (List.Perm.swap _ _ _).trans (e.cons x)
/-- the items in some order, a new list -/
def spMixed (K : PySem.W.Frag) : Sp := fun vs H Q _ => ∃ (d l a : Addr) (xs : List V), vs = [.ref d, .ref a] ∧ Deal H d l ∧ SqL K H a xs ∧ xs.length ≤ 64 ∧
  ∀ (p : Addr) (ys : List V) (H' : Hp), H p = none → ys.Perm xs → Deal H' d l → Kept d l H H' → H' p = some (.lst ys) → Q (.ref p) H'
section
variable {P : Program} {w : World} {K : PySem.W.Frag} {mg : Str → Option Value} {base : Heap}
abbrev s_law_mixed : Stmt := top 44
abbrev N_law_mixed : List Str := ["_law_deal_here", "_law_items", "_law_left", "_law_found", "_law_turn"]
theorem sc_law_mixed : FnScope N_law_mixed ["_law_deal_here", "_law_items"] (defScope s_law_mixed) := ⟨rfl, rfl, rfl, by decide +kernel, rfl, by decide +kernel, by decide +kernel⟩
theorem ok_law_mixed {f : Addr} {fd : FuncData} (F : Fun K "_law_mixed" "_law_mixed" s_law_mixed f fd) (T : Glob mg) (D_law_draw : Df P w K mg base 1 "_law_draw" ["_law_deal_here", "_law_many"] spDraw) :
    FnOk P w K mg base CX0 2 f fd ["_law_deal_here", "_law_items"] (spMixed K) := by
  refine F.ok sc_law_mixed (fun vs H Q E h => ?_) (fun cdv A outer s H vs Q E hr h => ?_)
  · obtain ⟨d, l, a, xs, rfl, _⟩ := h
    rfl
  · obtain ⟨d, l, a, xs, rfl, D, hS, hlen, k⟩ := h
    have hu := hu_of hr
    have nd := sc_law_mixed.nd
    refine ⟨_, (pss_cons (ps_par (i := 2) (j := 3) rfl nd rfl rfl (by decide) rfl rfl (pa_cons (pe_callTy call_list_of (by rfl) T.g_list (by decide +kernel) (pa_cons (pv 1) pa_nil)) (pa_cons (pe_lst pa_nil) pa_nil)) (by rfl))
    (pss_cons (ps_for PassesOwn.never rfl (pi_range1 (by rfl) T.g_range (pa_cons (pe_callB call_len_seq (by rfl) T.g_len PySem.boot_len (pa_cons (pv 2) pa_nil)) pa_nil)) (pg_name (i := 4) nd rfl (Or.inl rfl))
    (pss_one (ps_expr (pe_bm PySem.F.plainAttrs_list PySem.F.slot_list_append PySem.F.type_list_append mt_append (pv 3) (pa_cons (pe_bm PySem.F.plainAttrs_list PySem.F.slot_list_pop PySem.F.type_list_pop mt_popAt (pv 2) (pa_cons (pe_call D_law_draw.ok (hr.mono (by decide)) (by rfl) D_law_draw.g D_law_draw.kp D_law_draw.b .nil pass0 (pa_cons (pv 0) (pa_cons (pe_callB call_len_seq (by rfl) T.g_len PySem.boot_len (pa_cons (pv 2) pa_nil)) pa_nil))) pa_nil)) pa_nil)))))
    (pss_one (ps_ret (pv 3))))), ?_⟩
    refine ⟨_, rfl, a, _, rfl, .inl hS, fun p hp => ?_⟩
    refine ⟨(by decide), fun q hq => ?_⟩
    have npq : p ≠ q := fun e => by rw [e, upd_same] at hq; cases hq
    have hq0 : H q = none := by rw [← upd_ne (H := H) (Ne.symm npq)]; exact hq
    refine ⟨_, _, rfl, ?_⟩
    obtain ⟨npd, npl⟩ := D.free hp
    obtain ⟨nqd, nql⟩ := D.free hq0
    refine ⟨_, rfl, p, _, rfl, .inl (SqL.of (by rw [upd_ne npq, upd_same])), xs.length, rfl, by omega, by omega, ?_⟩
    refine for_range (n := xs.length) (fun i σ H1 => ∃ (v : Option V) (us ws : List V), σ = [some (.ref d), some (.ref a), some (.ref p), some (.ref q), v] ∧ Deal H1 d l ∧ Kept d l H H1 ∧ H1 p = some (.lst us) ∧ H1 q = some (.lst ws) ∧ (us ++ ws).Perm xs ∧ ws.length = i)
      ⟨none, xs, [], rfl, (D.new hp).new hq, (Kept.refl.new hp).new hq0, by rw [upd_ne npq, upd_same], upd_same, by rw [List.append_nil], rfl⟩ ?_ (fun σ H1 => ?_)
    · rintro i σ H1 hi ⟨v, us, ws, rfl, D1, kp, hus, hws, pm, hl⟩
      have hln := pm.length_eq
      rw [List.length_append] at hln
      refine ⟨_, rfl, .inl ⟨rfl, _, SqL.of hws⟩, _, rfl, .inl ⟨rfl, _, SqL.of hus⟩, _, rfl, _, rfl, p, _, rfl, .inl (SqL.of hus), d, l, _, rfl, D1, by omega, ?_, fun r H2 r0 r1 D2 kp2 => ?_⟩
      · exact Nat.lt_of_le_of_lt (show ((us.length : Int)).natAbs ≤ 64 by omega) (by decide)
      · obtain ⟨j, rfl⟩ : ∃ j : Nat, r = (j : Int) := ⟨r.toNat, by omega⟩
        have hj : j < us.length := by omega
        have hus2 := kp2 _ _ hus npd npl
        have hws2 := kp2 _ _ hws nqd nql
        refine ⟨p, us, _, j, us[j], rfl, rfl, hus2, by omega, by omega, seqIndex_of (by omega) (by omega), List.getElem?_eq_getElem hj, ?_⟩
        refine ⟨q, ws, _, rfl, rfl, by rw [upd_ne (Ne.symm npq)]; exact hws2, small1000 (by omega), ?_⟩
        refine ⟨_, us.eraseIdx j, ws ++ [us[j]], rfl, ?_, ?_, ?_, upd_same, ?_, by rw [List.length_append, hl]; rfl⟩
        · exact (D2.other npd npl).other nqd nql
        · exact (((kp.trans kp2).new hp).new hq0)
        · rw [upd_ne npq, upd_same]
        · refine List.Perm.trans ?_ pm
          have e1 := perm_erase us j hj
          refine List.Perm.trans ?_ (e1.append_right ws)
          rw [← List.append_assoc]
          exact List.perm_append_comm
    · rintro ⟨v, us, ws, rfl, D1, kp, hus, hws, pm, hl⟩
      have hln := pm.length_eq
      rw [List.length_append] at hln
      have e : us = [] := List.length_eq_zero_iff.mp (by omega)
      subst e
      refine ⟨_, rfl, ?_⟩
      exact k q ws H1 hq0 pm D1 kp hws
end
end My

set_option Elab.async false
set_option linter.all false
set_option maxRecDepth 100000
set_option maxHeartbeats 1000000
namespace My
open PySem L2
/-! ### words as lists of signs -/
def keptL : List (List Nat) := [[102, 117, 110, 99, 116, 105, 111, 110], [108, 101, 116], [114, 101, 112, 101, 97, 116], [98, 121], [116, 105, 109, 101, 115], [103, 105, 118, 101], [104, 97, 108, 102], [111, 118, 101, 114], [116, 111], [105, 102], [109, 111, 100], [105, 115], [116, 104, 101, 110], [101, 108, 115, 101]]
def wd (l : List Nat) : Str := ⟨l.toArray⟩
abbrev abc : Str := "abcdefghijklmnopqrstuvwxyz"
abbrev keptT : Str := "function let repeat by times give half over to if mod is then else"
theorem kept_split : Txt.split keptT " " = keptL.map wd := by decide +kernel
theorem kept_len : keptT.length + 2 ≤ sizeLine := by decide +kernel
theorem abc_list : abc.cps.toList = (List.range 26).map (· + 97) := by decide +kernel
theorem abc_len : abc.length ≤ sizeLine := by decide +kernel
theorem abc_at {i : Int} (h0 : 0 ≤ i) (h1 : i < 26) : atI abc.cps.toList i = some (i.toNat + 97) := by
  obtain ⟨j, rfl⟩ : ∃ j : Nat, i = (j : Int) := ⟨i.toNat, by omega⟩
  refine atI_nat ?_
  rw [abc_list, List.getElem?_map, List.getElem?_range (by omega)]
  rfl
theorem wd_one (c : Nat) : (⟨#[c]⟩ : Str) = wd [c] := rfl
theorem wd_add (a b : List Nat) : wd a ++ wd b = wd (a ++ b) := by
  show (⟨a.toArray ++ b.toArray⟩ : Str) = ⟨(a ++ b).toArray⟩
  rw [List.append_toArray]
theorem wd_len (l : List Nat) : (wd l).length = l.length := by simp [wd, Str.length]
theorem wd_inj {a b : List Nat} (h : wd a = wd b) : a = b := by
  have e := congrArg (fun s : Str => s.cps.toList) h
  exact e
theorem wd_cps (l : List Nat) : (wd l).cps.toList = l := rfl
theorem wd_of (z : Str) : wd z.cps.toList = z := by
  cases z
  simp [wd]
theorem glue_fold : ∀ (l : List Nat) (a : List Nat), (l.map fun c => wd [c]).foldl (fun (acc : Array Nat) (p : Str) => acc ++ (wd []).cps ++ p.cps) a.toArray = (a ++ l).toArray
  | [], a => by simp
  | c :: l, a => by
    rw [List.map_cons, List.foldl_cons]
    have e : a.toArray ++ (wd []).cps ++ (wd [c]).cps = (a ++ [c]).toArray := by simp [wd]
    rw [e, glue_fold l (a ++ [c])]
    simp
theorem join_ones (l : List Nat) : Txt.join (Str.ofString "") (l.map fun c => wd [c]) = wd l := by
  have e0 : Str.ofString "" = wd [] := by decide +kernel
  rw [e0]
  unfold Txt.join Builtin.Str.glued
  cases l with
  | nil => rfl
  | cons c l =>
    show (⟨(l.map fun c => wd [c]).foldl (fun (acc : Array Nat) (p : Str) => acc ++ (wd []).cps ++ p.cps) [c].toArray⟩ : Str) = wd (c :: l)
    rw [glue_fold]
    rfl
theorem cut_wd (l : List Nat) (lo hi : Option Int) : cutS (wd l) lo hi = wd ((l.drop (HT.sIx l.length 0 lo)).take (HT.sIx l.length l.length hi - HT.sIx l.length 0 lo)) := by
  unfold cutS
  rw [wd_cps, wd_len]
  rfl
theorem cut_from1 (l : List Nat) : cutS (wd l) (some 1) none = wd (l.drop 1) := by
  rw [cut_wd, HT.sIx_none, show (some (1 : Int)) = some (((1 : Nat) : Int)) from rfl, HT.sIx_nat]
  cases l with
  | nil => rfl
  | cons c l =>
    have e : min 1 (c :: l).length = 1 := by rw [List.length_cons]; omega
    rw [e]
    congr 1
    rw [List.take_of_length_le (by rw [List.length_drop]; omega)]
theorem cut_to (l : List Nat) (n : Nat) : cutS (wd l) none (some (n : Int)) = wd (l.take n) := by
  rw [cut_wd, HT.sIx_none, HT.sIx_nat, List.drop_zero, Nat.sub_zero]
  congr 1
  by_cases h : n ≤ l.length
  · rw [Nat.min_eq_left h]
  · rw [Nat.min_eq_right (by omega), List.take_of_length_le (Nat.le_refl _), List.take_of_length_le (by omega)]
def isNm (l : List Nat) : Bool := decide (1 ≤ l.length) && decide (l.length ≤ 8) && (l.all fun c => decide (97 ≤ c) && decide (c ≤ 122)) && !keptL.contains l
theorem in_kept {l : List Nat} : inV (.str (wd l)) ((keptL.map wd).map V.str) = keptL.contains l := by
  unfold inV
  rw [List.map_map, List.any_map]
  generalize keptL = ks
  induction ks with
  | nil => rfl
  | cons k ks ih =>
    rw [List.any_cons, List.contains_cons, ih]
    congr 1
    show (wd k == wd l) = (l == k)
    by_cases h : l = k
    · subst h; simp
    · have h2 : ¬ wd k = wd l := fun e => h (wd_inj e).symm
      rw [beq_eq_false_iff_ne.mpr h2, beq_eq_false_iff_ne.mpr h]
theorem kept_flat : ((keptL.map wd).map V.str).all flatV = true := by decide +kernel
end My

set_option Elab.async false
set_option linter.all false
set_option maxRecDepth 100000
set_option maxHeartbeats 1000000
namespace My
open PySem L2 MyR

theorem kept_q : ∀ k ∈ keptL, isNm (113 :: k.drop 1) = true := by decide +kernel
def lowL (l : List Nat) : Bool := l.all fun c => decide (97 ≤ c) && decide (c ≤ 122)
theorem lowL_app {a b : List Nat} (ha : lowL a = true) (hb : lowL b = true) : lowL (a ++ b) = true := by
  unfold lowL at *
  rw [List.all_append, ha, hb]
  rfl
theorem nm_of {l : List Nat} (h1 : 1 ≤ l.length) (h8 : l.length ≤ 8) (ha : lowL l = true) (hk : keptL.contains l = false) : isNm l = true := by
  unfold isNm
  rw [hk, decide_eq_true h1, decide_eq_true h8]
  unfold lowL at ha
  rw [ha]
  rfl
theorem any_kept {l : List Nat} (h : keptL.contains l = true) : isNm (113 :: l.drop 1) = true := kept_q l (List.contains_iff_mem.mp h)
theorem low_one {c : Nat} (h0 : 97 ≤ c) (h1 : c ≤ 122) : lowL [c] = true := by
  unfold lowL
  simp [h0, h1]
/-- a name that is none of the words -/
def spAny : Sp := fun vs H Q _ => ∃ (d l : Addr) (c : Nat), vs = [.ref d, .str (wd [c])] ∧ Deal H d l ∧ 97 ≤ c ∧ c ≤ 122 ∧
  ∀ (z : List Nat) (H' : Hp), isNm z = true → Deal H' d l → Kept d l H H' → Q (.str (wd z)) H'
section
variable {P : Program} {w : World} {K : PySem.W.Frag} {mg : Str → Option Value} {base : Heap}
abbrev s_law_any_word : Stmt := top 45
abbrev N_law_any_word : List Str := ["_law_deal_here", "_law_last", "_law_letters", "_law_word", "_law_sign", "_law_kept"]
theorem sc_law_any_word : FnScope N_law_any_word ["_law_deal_here", "_law_last"] (defScope s_law_any_word) := ⟨rfl, rfl, rfl, by decide +kernel, rfl, by decide +kernel, by decide +kernel⟩
theorem ok_law_any_word {f : Addr} {fd : FuncData} (F : Fun K "_law_any_word" "_law_any_word" s_law_any_word f fd) (T : Glob mg) (D_law_draw : Df P w K mg base 1 "_law_draw" ["_law_deal_here", "_law_many"] spDraw) :
    FnOk P w K mg base CX0 2 f fd ["_law_deal_here", "_law_last"] spAny := by
  refine F.ok sc_law_any_word (fun vs H Q E h => ?_) (fun cdv A outer s H vs Q E hr h => ?_)
  · obtain ⟨d, l, c, rfl, _⟩ := h
    rfl
  · obtain ⟨d, l, c, rfl, D, hc0, hc1, k⟩ := h
    have hu := hu_of hr
    have nd := sc_law_any_word.nd
    refine ⟨_, (pss_cons (ps_set (i := 2) nd rfl (Or.inr rfl) pe_str)
    (pss_cons (ps_set (i := 3) nd rfl (Or.inl rfl) (pe_op op_add_str (pe_join pe_str (pe_lc (own := [("_law_sign", 4)]) (g := gName 4) (tt := tYes) rfl nd (pi_range1 (by rfl) T.g_range (pa_cons (pe_call D_law_draw.ok (hr.mono (by decide)) (by rfl) D_law_draw.g D_law_draw.kp D_law_draw.b .nil pass0 (pa_cons (pv 0) (pa_cons pe_int pa_nil))) pa_nil)) (blkOk_by (N := N_law_any_word) (sc := defScope s_law_any_word) (by decide +kernel)) (fun _ _ _ _ _ => pg_name (i := 4) nd rfl (Or.inl rfl)) (fun _ _ _ _ _ => pts_nil) (fun _ _ _ _ _ => (pe_ix ix_str (pv 2) (pe_call D_law_draw.ok (hr.mono (by decide)) (by rfl) D_law_draw.g D_law_draw.kp D_law_draw.b .nil pass0 (pa_cons (pv 0) (pa_cons pe_int pa_nil))) (fun _ _ => rfl))))) (pv 1)))
    (pss_cons (ps_set (i := 5) nd rfl (Or.inl rfl) (pe_split pe_str pe_str))
    (pss_one (ps_ret (pe_ifExp (pt_cmpR op_in_seq (pv 3) (pv 5) (by rfl)) (pe_op op_add_str pe_str (pe_slice sl_str (pv 3) (po_some pe_int) po_none)) (pv 3))))))), ?_⟩
    -- the number of letters
    refine ⟨⟨_, rfl⟩, _, rfl, d, l, _, rfl, D, by decide, by decide, fun r H1 r0 r1 D1 kp1 => ?_⟩
    refine ⟨r, rfl, by omega, by omega, fun L hL => ?_⟩
    obtain ⟨nLd, nLl⟩ := D1.free hL
    refine lc_range (lo := 0) (n := r.toNat) (fun i H2 => ∃ cs : List Nat, H2 L = some (.lst (cs.map fun c => V.str (wd [c]))) ∧ cs.length = i ∧ lowL cs = true ∧ Deal H2 d l ∧ Kept d l H1 H2)
      ⟨[], upd_same, rfl, rfl, D1.new hL, Kept.refl.new hL⟩ ?_ ?_
    · rintro i H2 hi ⟨cs, h2, hl, hlow, D2, kp2⟩
      refine ⟨rfl, ?_⟩
      refine ⟨_, rfl, _, rfl, d, l, _, rfl, D2, by decide, by decide, fun q H3 q0 q1 D3 kp3 => ?_⟩
      refine ⟨abc, q, q.toNat + 97, rfl, rfl, abc_len, abc_at q0 q1, ?_⟩
      refine ⟨_, kp3 _ _ h2 nLd nLl, by rw [List.length_map]; exact small1000 (by omega), cs ++ [q.toNat + 97], ?_, by rw [List.length_append, hl]; rfl, lowL_app hlow (low_one (by omega) (by omega)), D3.other nLd nLl, (kp2.trans kp3).new hL⟩
      rw [upd_same, List.map_append]
      rfl
    · rintro H2 ⟨cs, h2, hl, hlow, D2, kp2⟩
      refine ⟨Str.ofString "", L, cs.map fun c => wd [c], rfl, rfl, .inl (SqL.of (by rw [List.map_map]; exact h2)), ?_, ?_⟩
      · have e : (List.map (fun x : Str => x.length) (cs.map fun c => wd [c])).sum = cs.length := by
          clear h2 hl hlow
          induction cs with
          | nil => rfl
          | cons c cs ih =>
            rw [List.map_cons, List.map_cons, List.sum_cons, ih, wd_len, List.length_cons, List.length_cons]
            simp only [List.length_nil]
            omega
        rw [e, List.length_map, show (Str.ofString "").length = 0 from by decide +kernel]
        omega
      · rw [join_ones]
        refine ⟨_, rfl, wd cs, wd [c], rfl, rfl, by rw [wd_len, wd_len]; exact Nat.le_of_lt (small1000 (by rw [hl]; simp only [List.length_cons, List.length_nil]; omega)), ?_⟩
        rw [wd_add]
        have hlw : lowL (cs ++ [c]) = true := lowL_app hlow (low_one hc0 hc1)
        have h1 : 1 ≤ (cs ++ [c]).length := by rw [List.length_append]; simp only [List.length_cons, List.length_nil]; omega
        have h8 : (cs ++ [c]).length ≤ 8 := by rw [List.length_append]; simp only [List.length_cons, List.length_nil]; omega
        refine ⟨⟨_, rfl⟩, keptT, " ", rfl, rfl, by decide +kernel, kept_len, fun p hp => ?_⟩
        rw [kept_split]
        have kp := kp1.trans kp2
        have D3 := D2.new (o := .lst ((keptL.map wd).map V.str)) hp
        have kpn : Kept d l H (upd H2 p (.lst ((keptL.map wd).map V.str))) := fun b o e x y => by
          have e2 := kp b o e x y
          rw [upd_ne (ne_of_none e2 hp)]
          exact e2
        refine ⟨_, rfl, _, rfl, p, _, rfl, .inl (SqL.of upd_same), rfl, kept_flat, _, rfl, ?_⟩
        refine ite2 (fun hz => ?_) (fun hz => ?_)
        · have hz2 : keptL.contains (cs ++ [c]) = true := by rw [← in_kept]; exact hz
          refine ⟨_, rfl, 1, rfl, _, rfl, by rw [wd_len]; exact Nat.le_of_lt (small1000 (by omega)), ?_⟩
          rw [cut_from1]
          refine ⟨wd [113], wd ((cs ++ [c]).drop 1), by rw [show wd [113] = Str.ofString "q" from by decide +kernel], rfl, by rw [wd_len, wd_len]; exact Nat.le_of_lt (small1000 (by rw [List.length_drop]; simp only [List.length_cons, List.length_nil]; omega)), ?_⟩
          rw [wd_add]
          exact k _ _ (any_kept hz2) D3 kpn
        · have hz2 : keptL.contains (cs ++ [c]) = false := by
            rw [← in_kept]
            cases e : inV (.str (wd (cs ++ [c]))) ((keptL.map wd).map V.str) with
            | false => rfl
            | true => exact absurd e hz
          exact ⟨_, rfl, k _ _ (nm_of h1 h8 hlw hz2) D3 kpn⟩
end
end My

set_option Elab.async false
set_option linter.all false
set_option maxRecDepth 100000
set_option maxHeartbeats 1000000
namespace My
open PySem L2 MyR

/-! ### the forms of names -/
def qxL : List Nat := [113, 120, 122, 106, 107, 119, 118]
def qqL : List Nat := [113, 120, 122, 106, 107, 119, 118, 113]
def fuL : List Nat := [102, 117, 110, 99, 116, 105, 111]
def quL : List Nat := [113, 117, 110, 99, 116, 105, 111]
theorem qx_t : Str.ofString "qxzjkwv" = wd qxL := by decide +kernel
theorem qq_t : Str.ofString "qxzjkwvq" = wd qqL := by decide +kernel
theorem fu_t : Str.ofString "functio" = wd fuL := by decide +kernel
theorem qu_t : Str.ofString "qunctio" = wd quL := by decide +kernel
theorem z_t : Str.ofString "z" = wd [122] := by decide +kernel
theorem nm_letter {c : Nat} (h0 : 97 ≤ c) (h1 : c ≤ 122) : isNm [c] = true := by
  have e : ∀ i < 26, isNm [i + 97] = true := by decide +kernel
  have := e (c - 97) (by omega)
  rwa [show c - 97 + 97 = c from by omega] at this
theorem nm_form1 {c k : Nat} (h0 : 97 ≤ c) (h1 : c ≤ 122) (hk : k < 8) : isNm (([c] ++ qxL).take (k + 1)) = true := by
  have e : ∀ i < 26, ∀ k < 8, isNm (([i + 97] ++ qxL).take (k + 1)) = true := by decide +kernel
  have := e (c - 97) (by omega) k hk
  rwa [show c - 97 + 97 = c from by omega] at this
def f3 (c e : Nat) : List (List Nat) := [[c], [e] ++ [122], [c] ++ ([e] ++ [122]), ([e] ++ [122]) ++ [c], [c] ++ [c], [c] ++ [c] ++ ([e] ++ [122]), [c] ++ ([e] ++ [122]) ++ [c], ([e] ++ [122]) ++ ([e] ++ [122])]
theorem nm_form3 {c e : Nat} (h0 : 97 ≤ c) (h1 : c ≤ 122) (h2 : 97 ≤ e) (h3 : e ≤ 122) : ∀ z ∈ f3 c e, isNm z = true := by
  have q : ∀ i < 26, ∀ j < 26, ((f3 (i + 97) (j + 97)).all isNm) = true := by decide +kernel
  have := q (c - 97) (by omega) (e - 97) (by omega)
  rw [show c - 97 + 97 = c from by omega, show e - 97 + 97 = e from by omega] at this
  exact List.all_eq_true.mp this
theorem nm_low {z : List Nat} (h : isNm z = true) : lowL z = true := by
  unfold isNm at h
  simp only [Bool.and_eq_true] at h
  exact h.1.2
theorem nm_len {z : List Nat} (h : isNm z = true) : 1 ≤ z.length ∧ z.length ≤ 8 := by
  unfold isNm at h
  simp only [Bool.and_eq_true, decide_eq_true_eq] at h
  exact h.1.1
theorem kept8 : ∀ k ∈ keptL, k.length = 8 → k.take 7 = fuL := by decide +kernel
theorem nm8 {l : List Nat} {c : Nat} (hl : l.length = 7) (ha : lowL l = true) (hf : l ≠ fuL) (h0 : 97 ≤ c) (h1 : c ≤ 122) : isNm (l ++ [c]) = true := by
  refine nm_of (by rw [List.length_append, hl]; simp) (by rw [List.length_append, hl]; simp) (lowL_app ha (low_one h0 h1)) ?_
  cases e : keptL.contains (l ++ [c]) with
  | false => rfl
  | true =>
    have m := List.contains_iff_mem.mp e
    have q := kept8 _ m (by rw [List.length_append, hl]; rfl)
    rw [List.take_append_of_le_length (by omega), List.take_of_length_le (by omega)] at q
    exact absurd q hf
theorem fu_no : ∀ j < 7, fuL[j]? ≠ some 113 := by decide +kernel
theorem stem_ne {z : List Nat} (h : z.take 7 ≠ fuL) : (z ++ qqL).take 7 ≠ fuL := fun e => by
  by_cases hl : 7 ≤ z.length
  · rw [List.take_append_of_le_length hl] at e
    exact h e
  · have q : ((z ++ qqL).take 7)[z.length]? = some 113 := by
      rw [List.getElem?_take_of_lt (by omega), List.getElem?_append_right (Nat.le_refl _), Nat.sub_self]
      rfl
    rw [e] at q
    exact fu_no _ (by omega) q
theorem stem_len {z : List Nat} (h : isNm z = true) : ((z ++ qqL).take 7).length = 7 := by
  have := nm_len h
  rw [List.length_take, List.length_append, show qqL.length = 8 from rfl]
  omega
theorem low_take {l : List Nat} {n : Nat} (h : lowL l = true) : lowL (l.take n) = true := by
  unfold lowL at *
  rw [List.all_eq_true] at *
  exact fun x hx => h x (List.mem_of_mem_take hx)
theorem stem_low {z : List Nat} (h : isNm z = true) : lowL ((z ++ qqL).take 7) = true := low_take (lowL_app (nm_low h) (by decide +kernel))
abbrev stL (xs : List (List Nat)) : List V := xs.map fun z => V.str (wd z)
theorem of_strs {xs : List (List Nat)} : ∀ {ys : List V}, (∀ y ∈ ys, y ∈ stL xs) → ∃ zs : List (List Nat), ys = stL zs ∧ ∀ z ∈ zs, z ∈ xs
  | [], _ => ⟨[], rfl, fun z h => by cases h⟩
  | y :: ys, h => by
    obtain ⟨z, hz, rfl⟩ := List.mem_map.mp (h y List.mem_cons_self)
    obtain ⟨zs, rfl, h2⟩ := of_strs fun y hy => h y (List.mem_cons_of_mem _ hy)
    exact ⟨z :: zs, rfl, fun u hu => by
      rcases List.mem_cons.mp hu with e | e
      · rw [e]; exact hz
      · exact h2 u e⟩
theorem Kept.free {d l p : Addr} {H H1 : Hp} (k : Kept d l H H1) (D : Deal H1 d l) (h : H1 p = none) : H p = none := by
  obtain ⟨n1, n2⟩ := D.free h
  cases e : H p with
  | none => rfl
  | some o => rw [k p o e n1 n2] at h; cases h
/-- a list of names in the making -/
def Pc (H : Hp) (d l L : Addr) (i : Nat) (H2 : Hp) : Prop := ∃ zs : List (List Nat), H2 L = some (.lst (stL zs)) ∧ zs.length = i ∧ (∀ z ∈ zs, isNm z = true) ∧ Deal H2 d l ∧ Kept d l H H2
theorem Pc.start {H H1 : Hp} {d l L : Addr} (D : Deal H1 d l) (k : Kept d l H H1) (hL : H1 L = none) : Pc H d l L 0 (upd H1 L (.lst [])) :=
  ⟨[], upd_same, rfl, fun z h => (nomatch h), D.new hL, k.new (k.free D hL)⟩
theorem Pc.add {H H2 : Hp} {d l L : Addr} {i : Nat} {zs : List (List Nat)} {z : List Nat} (h : H2 L = some (.lst (stL zs))) (hl : zs.length = i) (hz : ∀ z ∈ zs, isNm z = true) (D : Deal H2 d l) (k : Kept d l H H2) (hi : i < 100) (n1 : L ≠ d) (n2 : L ≠ l) (hL : H L = none) (e : isNm z = true) :
    ∃ acc, H2 L = some (.lst acc) ∧ acc.length < sizeLine ∧ Pc H d l L (i + 1) (upd H2 L (.lst (acc ++ [V.str (wd z)]))) := by
  refine ⟨_, h, by rw [List.length_map]; exact small1000 (by omega), zs ++ [z], ?_, by rw [List.length_append, hl]; rfl, fun u hu => ?_, D.other n1 n2, k.new hL⟩
  · rw [upd_same]
    unfold stL
    rw [List.map_append]
    rfl
  · rcases List.mem_append.mp hu with q | q
    · exact hz u q
    · rw [List.mem_singleton.mp q]
      exact e
/-- so many names, a new list -/
def spWords : Sp := fun vs H Q _ => ∃ (d l : Addr) (m : Nat), vs = [.ref d, .int m] ∧ Deal H d l ∧ 1 ≤ m ∧ m ≤ 8 ∧
  ∀ (p : Addr) (zs : List (List Nat)) (H' : Hp), H p = none → zs.length = m → (∀ z ∈ zs, isNm z = true) → Deal H' d l → Kept d l H H' → H' p = some (.lst (stL zs)) → Q (.ref p) H'
section
variable {P : Program} {w : World} {K : PySem.W.Frag} {mg : Str → Option Value} {base : Heap}
abbrev s_law_words : Stmt := top 46
abbrev N_law_words : List Str := ["_law_deal_here", "_law_many", "_law_letters", "_law_form", "_law_turn", "_law_found", "_law_k", "_law_stem", "_law_p", "_law_q"]
theorem sc_law_words : FnScope N_law_words ["_law_deal_here", "_law_many"] (defScope s_law_words) := ⟨rfl, rfl, rfl, by decide +kernel, rfl, by decide +kernel, by decide +kernel⟩
theorem ok_law_words {f : Addr} {fd : FuncData} (F : Fun K "_law_words" "_law_words" s_law_words f fd) (T : Glob mg) (D_law_draw : Df P w K mg base 1 "_law_draw" ["_law_deal_here", "_law_many"] spDraw)
    (D_law_any_word : Df P w K mg base 2 "_law_any_word" ["_law_deal_here", "_law_last"] spAny) (D_law_mixed : Df P w K mg base 2 "_law_mixed" ["_law_deal_here", "_law_items"] (spMixed K)) :
    FnOk P w K mg base CX0 3 f fd ["_law_deal_here", "_law_many"] spWords := by
  refine F.ok sc_law_words (fun vs H Q E h => ?_) (fun cdv A outer s H vs Q E hr h => ?_)
  · obtain ⟨d, l, m, rfl, _⟩ := h
    rfl
  · obtain ⟨d, l, m, rfl, D, hm1, hm8, k⟩ := h
    have hu := hu_of hr
    have nd := sc_law_words.nd
    refine ⟨_, (pss_cons (ps_set (i := 2) nd rfl (Or.inr rfl) pe_str)
    (pss_cons (ps_asg (pe_tup (pa_cons (pe_call D_law_draw.ok (hr.mono (by decide)) (by rfl) D_law_draw.g D_law_draw.kp D_law_draw.b .nil pass0 (pa_cons (pv 0) (pa_cons pe_int pa_nil))) (pa_cons (pe_call D_law_draw.ok (hr.mono (by decide)) (by rfl) D_law_draw.g D_law_draw.kp D_law_draw.b .nil pass0 (pa_cons (pv 0) (pa_cons pe_int pa_nil))) pa_nil))) (pg_tup (by rfl) (pgs_cons (pg_name (i := 3) nd rfl (Or.inl rfl)) (pgs_cons (pg_name (i := 4) nd rfl (Or.inr rfl)) pgs_nil))))
    (pss_cons (ps_setLc (i := 5) (own := [("_law_k", 6)]) (g := gName 6) (tt := tYes) rfl nd rfl rfl (sw_true rfl rfl rfl (by decide +kernel)) (pi_range1 (by rfl) T.g_range (pa_cons (pv 1) pa_nil)) (blkOk_by (N := N_law_words) (sc := defScope s_law_words) (by decide +kernel)) (fun _ _ _ _ _ => pg_name (i := 6) nd rfl (Or.inl rfl)) (fun _ _ _ _ _ => pts_nil) (fun _ _ _ _ _ => (pe_call D_law_any_word.ok (hr.mono (by decide)) (by rfl) D_law_any_word.g D_law_any_word.kp D_law_any_word.b .nil pass0 (pa_cons (pv 0) (pa_cons (pe_ix ix_str (pv 2) (pe_op op_mod (pe_op op_add (pv 4) (pe_op op_mul pe_int (pv 6))) pe_int) (fun _ _ => rfl)) pa_nil)))))
    (pss_cons (ps_if (pt_cmpR op_eq (pv 3) pe_int (nomark _))
    (pss_one (ps_setLc (i := 5) (own := [("_law_k", 6)]) (g := gName 6) (tt := tYes) rfl nd rfl rfl (sw_true rfl rfl rfl (by decide +kernel)) (pi_range1 (by rfl) T.g_range (pa_cons (pv 1) pa_nil)) (blkOk_by (N := N_law_words) (sc := defScope s_law_words) (by decide +kernel)) (fun _ _ _ _ _ => pg_name (i := 6) nd rfl (Or.inl rfl)) (fun _ _ _ _ _ => pts_nil) (fun _ _ _ _ _ => (pe_ix ix_str (pv 2) (pe_op op_mod (pe_op op_add (pv 4) (pe_op op_mul pe_int (pv 6))) pe_int) (fun _ _ => rfl)))))
    pss_nil)
    (pss_cons (ps_if (pt_cmpR op_eq (pv 3) pe_int (nomark _))
    (pss_one (ps_setLc (i := 5) (own := [("_law_k", 6)]) (g := gName 6) (tt := tYes) rfl nd rfl rfl (sw_true rfl rfl rfl (by decide +kernel)) (pi_range1 (by rfl) T.g_range (pa_cons (pv 1) pa_nil)) (blkOk_by (N := N_law_words) (sc := defScope s_law_words) (by decide +kernel)) (fun _ _ _ _ _ => pg_name (i := 6) nd rfl (Or.inl rfl)) (fun _ _ _ _ _ => pts_nil) (fun _ _ _ _ _ => (pe_slice sl_str (pe_op op_add_str (pe_ix ix_str (pv 2) (pv 4) (fun _ _ => rfl)) pe_str) po_none (po_some (pe_op op_add (pv 6) pe_int))))))
    pss_nil)
    (pss_cons (ps_if (pt_cmpR op_eq (pv 3) pe_int (nomark _))
    (pss_cons (ps_set (i := 7) nd rfl (Or.inr rfl) (pe_ix ix_list (pe_lst (pa_cons (pe_slice sl_str (pe_op op_add_str (pe_ix ix_list (pv 5) pe_int (fun _ _ => rfl)) pe_str) po_none (po_some pe_int)) (pa_cons pe_str pa_nil))) (pe_callTy call_int1 (by rfl) T.g_int (by decide +kernel) (pa_cons (pe_cmpR op_eq (pe_slice sl_str (pe_ix ix_list (pv 5) pe_int (fun _ _ => rfl)) po_none (po_some pe_int)) pe_str (nomark _)) pa_nil)) (fun _ _ => rfl)))
    (pss_one (ps_setLc (i := 5) (own := [("_law_k", 6)]) (g := gName 6) (tt := tYes) rfl nd rfl rfl (sw_true rfl rfl rfl (by decide +kernel)) (pi_range1 (by rfl) T.g_range (pa_cons (pv 1) pa_nil)) (blkOk_by (N := N_law_words) (sc := defScope s_law_words) (by decide +kernel)) (fun _ _ _ _ _ => pg_name (i := 6) nd rfl (Or.inl rfl)) (fun _ _ _ _ _ => pts_nil) (fun _ _ _ _ _ => (pe_op op_add_str (pv 7) (pe_ix ix_str (pv 2) (pe_op op_mod (pe_op op_add (pv 4) (pe_op op_mul pe_int (pv 6))) pe_int) (fun _ _ => rfl)))))))
    pss_nil)
    (pss_cons (ps_if (pt_cmpR op_eq (pv 3) pe_int (nomark _))
    (pss_cons (ps_par (i := 8) (j := 9) rfl nd rfl rfl (by decide) rfl rfl (pa_cons (pe_ix ix_str (pv 2) (pv 4) (fun _ _ => rfl)) (pa_cons (pe_op op_add_str (pe_ix ix_str (pv 2) (pe_op op_mod (pe_op op_add (pv 4) pe_int) pe_int) (fun _ _ => rfl)) pe_str) pa_nil)) (by rfl))
    (pss_one (ps_set (i := 5) nd rfl (Or.inl rfl) (pe_slice sl_list (pe_lst (pa_cons (pv 8) (pa_cons (pv 9) (pa_cons (pe_op op_add_str (pv 8) (pv 9)) (pa_cons (pe_op op_add_str (pv 9) (pv 8)) (pa_cons (pe_op op_add_str (pv 8) (pv 8)) (pa_cons (pe_op op_add_str (pe_op op_add_str (pv 8) (pv 8)) (pv 9)) (pa_cons (pe_op op_add_str (pe_op op_add_str (pv 8) (pv 9)) (pv 8)) (pa_cons (pe_op op_add_str (pv 9) (pv 9)) pa_nil))))))))) po_none (po_some (pv 1))))))
    pss_nil)
    (pss_one (ps_ret (pe_call D_law_mixed.ok (hr.mono (by decide)) (by rfl) D_law_mixed.g D_law_mixed.kp D_law_mixed.b .nil pass0 (pa_cons (pv 0) (pa_cons (pv 5) pa_nil)))))))))))), ?_⟩
    refine ⟨_, rfl, d, l, _, rfl, D, by decide, by decide, fun fo H1 fo0 fo1 D1 kp1 => ?_⟩
    refine ⟨_, rfl, d, l, _, rfl, D1, by decide, by decide, fun tu H2 tu0 tu1 D2 kp2 => ?_⟩
    refine ⟨(by show 2 ≤ sizeLine; decide), fun tp htp => ?_⟩
    refine ⟨tp, _, rfl, SqT.of upd_same, rfl, ?_⟩
    have D3 := D2.new (o := .tup [V.int fo, V.int tu]) htp
    have kp3 : Kept d l H (upd H2 tp (.tup [V.int fo, V.int tu])) := (kp1.trans kp2).new ((kp1.trans kp2).free D2 htp)
    generalize upd H2 tp (.tup [V.int fo, V.int tu]) = H3 at D3 kp3
    have hlet : ∀ i : Nat, 97 ≤ ((tu + 7 * (0 + (i : Int))) % 26).toNat + 97 ∧ ((tu + 7 * (0 + (i : Int))) % 26).toNat + 97 ≤ 122 := fun i => by
      have := Int.emod_nonneg (tu + 7 * (0 + (i : Int))) (show (26 : Int) ≠ 0 by decide)
      have := Int.emod_lt_of_pos (tu + 7 * (0 + (i : Int))) (show (0 : Int) < 26 by decide)
      omega
    have hat : ∀ i : Nat, atI abc.cps.toList ((tu + 7 * (0 + (i : Int))) % 26) = some (((tu + 7 * (0 + (i : Int))) % 26).toNat + 97) := fun i =>
      abc_at (Int.emod_nonneg _ (by decide)) (Int.emod_lt_of_pos _ (by decide))
    -- the names so far
    refine ⟨_, _, rfl, _, _, rfl, rfl, ?_⟩
    dsimp only
    refine seq_by (fun σ H4 => ∃ (v6 v7 v8 v9 : Option V) (p : Addr), σ = [some (.ref d), some (.int m), some (.str abc), some (.int fo), some (.int tu), some (.ref p), v6, v7, v8, v9] ∧ Pc H d l p m H4) (fun D' hD' => ?_) ?_
    · refine ⟨_, rfl, m, rfl, by omega, by omega, fun L hL => ?_⟩
      obtain ⟨nLd, nLl⟩ := D3.free hL
      refine lc_range (lo := 0) (n := m) (Pc H d l L) (Pc.start D3 kp3 hL) ?_ (fun H4 q => hD' _ _ ⟨none, none, none, none, L, rfl, q⟩)
      rintro i H4 hi ⟨zs, h4, hl, hz, D4, kp4⟩
      refine ⟨rfl, ?_⟩
      refine ⟨_, rfl, _, rfl, _, rfl, _, rfl, _, _, rfl, rfl, .inl ⟨by decide, by decide⟩, _, _, rfl, rfl, _, _, rfl, rfl, (by show (0 : Int) < 26; decide), abc, _, _, rfl, rfl, abc_len, hat i, ?_⟩
      refine ⟨d, l, _, rfl, D4, (hlet i).1, (hlet i).2, fun z H5 nz D5 kp5 => ?_⟩
      exact Pc.add (kp5 _ _ h4 nLd nLl) hl hz D5 (kp4.trans kp5) (by omega) nLd nLl (kp3.free D3 hL) nz
    rintro σ H4 ⟨v6, v7, v8, v9, p, rfl, pc⟩
    clear D3 kp3
    -- the forms
    refine seq_by (fun σ H4 => ∃ (v6 v7 v8 v9 : Option V) (p : Addr), σ = [some (.ref d), some (.int m), some (.str abc), some (.int fo), some (.int tu), some (.ref p), v6, v7, v8, v9] ∧ Pc H d l p m H4) (fun D' hD' => ?_) ?_
    · refine ⟨_, rfl, rfl, _, rfl, ?_⟩
      refine ite2 (fun hz => ?_) (fun hz => hD' _ _ ⟨v6, v7, v8, v9, p, rfl, pc⟩)
      obtain ⟨_, _, _, _, D3, kp3⟩ := pc
      refine ⟨_, rfl, m, rfl, by omega, by omega, fun L hL => ?_⟩
      obtain ⟨nLd, nLl⟩ := D3.free hL
      refine lc_range (lo := 0) (n := m) (Pc H d l L) (Pc.start D3 kp3 hL) ?_ (fun H4 q => hD' _ _ ⟨v6, v7, v8, v9, L, rfl, q⟩)
      rintro i H4 hi ⟨zs, h4, hl, hz, D4, kp4⟩
      refine ⟨rfl, ?_⟩
      refine ⟨_, rfl, _, rfl, _, rfl, _, _, rfl, rfl, .inl ⟨by decide, by decide⟩, _, _, rfl, rfl, _, _, rfl, rfl, (by show (0 : Int) < 26; decide), abc, _, _, rfl, rfl, abc_len, hat i, ?_⟩
      exact Pc.add h4 hl hz D4 kp4 (by omega) nLd nLl (kp3.free D3 hL) (nm_letter (hlet i).1 (hlet i).2)
    rintro σ H4 ⟨v6, v7, v8, v9, p, rfl, pc⟩
    refine seq_by (fun σ H4 => ∃ (v6 v7 v8 v9 : Option V) (p : Addr), σ = [some (.ref d), some (.int m), some (.str abc), some (.int fo), some (.int tu), some (.ref p), v6, v7, v8, v9] ∧ Pc H d l p m H4) (fun D' hD' => ?_) ?_
    · refine ⟨_, rfl, rfl, _, rfl, ?_⟩
      refine ite2 (fun hz => ?_) (fun hz => hD' _ _ ⟨v6, v7, v8, v9, p, rfl, pc⟩)
      obtain ⟨_, _, _, _, D3, kp3⟩ := pc
      refine ⟨_, rfl, m, rfl, by omega, by omega, fun L hL => ?_⟩
      obtain ⟨nLd, nLl⟩ := D3.free hL
      refine lc_range (lo := 0) (n := m) (Pc H d l L) (Pc.start D3 kp3 hL) ?_ (fun H4 q => hD' _ _ ⟨v6, v7, v8, v9, L, rfl, q⟩)
      rintro i H4 hi ⟨zs, h4, hl, hz, D4, kp4⟩
      refine ⟨rfl, ?_⟩
      refine ⟨_, rfl, _, rfl, abc, tu, _, rfl, rfl, abc_len, abc_at tu0 tu1, wd [tu.toNat + 97], wd qxL, rfl, by rw [qx_t], by rw [wd_len, wd_len]; show 1 + 7 ≤ sizeLine; decide, ?_⟩
      refine ⟨_, rfl, _, _, rfl, rfl, _, rfl, _, rfl, by rw [wd_add, wd_len]; exact Nat.le_of_lt (small1000 (by rw [List.length_append]; show 1 + 7 ≤ 1000; decide)), ?_⟩
      rw [wd_add, show (0 : Int) + (i : Int) + 1 = ((i + 1 : Nat) : Int) from by omega, cut_to]
      exact Pc.add h4 hl hz D4 kp4 (by omega) nLd nLl (kp3.free D3 hL) (nm_form1 (by omega) (by omega) (by omega))
    rintro σ H4 ⟨v6, v7, v8, v9, p, rfl, pc⟩
    refine seq_by (fun σ H4 => ∃ (v6 v7 v8 v9 : Option V) (p : Addr), σ = [some (.ref d), some (.int m), some (.str abc), some (.int fo), some (.int tu), some (.ref p), v6, v7, v8, v9] ∧ Pc H d l p m H4) (fun D' hD' => ?_) ?_
    · refine ⟨_, rfl, rfl, _, rfl, ?_⟩
      refine ite2 (fun hz => ?_) (fun hz => hD' _ _ ⟨v6, v7, v8, v9, p, rfl, pc⟩)
      obtain ⟨xs, hxs, hxl, hxn, D3, kp3⟩ := pc
      obtain ⟨z0, xs1, rfl⟩ : ∃ z0 xs1, xs = z0 :: xs1 := by
        cases xs with
        | nil => simp at hxl; omega
        | cons a b => exact ⟨a, b, rfl⟩
      have nz0 := hxn z0 List.mem_cons_self
      have hl0 := nm_len nz0
      have at0 : atI (stL (z0 :: xs1)) 0 = some (V.str (wd z0)) := atI_nat (j := 0) rfl
      -- the stem
      refine ⟨_, rfl, p, _, _, _, rfl, rfl, SqL.of hxs, at0, wd z0, wd qqL, rfl, by rw [qq_t], by rw [wd_len, wd_len]; exact Nat.le_of_lt (small1000 (by show z0.length + 8 ≤ 1000; omega)), ?_⟩
      refine ⟨_, rfl, _, rfl, by rw [wd_add, wd_len]; exact Nat.le_of_lt (small1000 (by rw [List.length_append]; show z0.length + 8 ≤ 1000; omega)), ?_⟩
      rw [wd_add, show (7 : Int) = ((7 : Nat) : Int) from rfl, cut_to]
      refine ⟨(by show 2 ≤ sizeLine; decide), fun q hq => ?_⟩
      have npq : p ≠ q := ne_of_none hxs hq
      refine ⟨_, rfl, p, _, _, _, rfl, rfl, SqL.of (by rw [upd_ne npq]; exact hxs), at0, _, rfl, _, rfl, by rw [wd_len]; exact Nat.le_of_lt (small1000 (by omega)), ?_⟩
      rw [cut_to]
      refine ⟨rfl, .inr ⟨_, rfl, ?_⟩⟩
      obtain ⟨stem, sl, slow, sne, hst⟩ : ∃ stem : List Nat, stem.length = 7 ∧ lowL stem = true ∧ stem ≠ fuL ∧
          atI [V.str (wd ((z0 ++ qqL).take 7)), V.str (Str.ofString "qunctio")] (if decide (V.str (wd (z0.take 7)) = V.str (Str.ofString "functio")) = true then 1 else 0) = some (V.str (wd stem)) := by
        by_cases hf : z0.take 7 = fuL
        · refine ⟨quL, rfl, by decide +kernel, by decide +kernel, ?_⟩
          rw [hf, fu_t, if_pos (decide_eq_true rfl), qu_t]
          exact atI_nat (j := 1) rfl
        · refine ⟨_, stem_len nz0, stem_low nz0, stem_ne hf, ?_⟩
          have hne : ¬ (V.str (wd (z0.take 7)) = V.str (Str.ofString "functio")) := fun e => by
            rw [fu_t] at e
            exact hf (wd_inj (V.str.inj e))
          rw [if_neg (by rw [decide_eq_false hne]; exact Bool.false_ne_true)]
          exact atI_nat (j := 0) rfl
      refine ⟨q, _, _, _, rfl, rfl, SqL.of upd_same, hst, ?_⟩
      have D5 := D3.new (o := .lst [V.str (wd ((z0 ++ qqL).take 7)), V.str (Str.ofString "qunctio")]) hq
      have kp5 : Kept d l H (upd H4 q (.lst [V.str (wd ((z0 ++ qqL).take 7)), V.str (Str.ofString "qunctio")])) := kp3.new (kp3.free D3 hq)
      refine ⟨_, rfl, m, rfl, by omega, by omega, fun L hL => ?_⟩
      obtain ⟨nLd, nLl⟩ := D5.free hL
      refine lc_range (lo := 0) (n := m) (Pc H d l L) (Pc.start D5 kp5 hL) ?_ (fun H4 q => hD' _ _ ⟨v6, _, v8, v9, L, rfl, q⟩)
      rintro i H6 hi ⟨zs, h4, hl, hz, D4, kp4⟩
      refine ⟨rfl, ?_⟩
      refine ⟨_, rfl, _, rfl, _, rfl, _, rfl, _, _, rfl, rfl, .inl ⟨by decide, by decide⟩, _, _, rfl, rfl, _, _, rfl, rfl, (by show (0 : Int) < 26; decide), abc, _, _, rfl, rfl, abc_len, hat i, ?_⟩
      refine ⟨wd stem, wd [_], rfl, rfl, by rw [wd_len, wd_len, sl]; show 7 + 1 ≤ sizeLine; decide, ?_⟩
      rw [wd_add]
      exact Pc.add h4 hl hz D4 kp4 (by omega) nLd nLl (kp5.free D5 hL) (nm8 sl slow sne (hlet i).1 (hlet i).2)
    rintro σ H4 ⟨v6, v7, v8, v9, p, rfl, pc⟩
    refine seq_by (fun σ H4 => ∃ (v6 v7 v8 v9 : Option V) (p : Addr), σ = [some (.ref d), some (.int m), some (.str abc), some (.int fo), some (.int tu), some (.ref p), v6, v7, v8, v9] ∧ Pc H d l p m H4) (fun D' hD' => ?_) ?_
    · refine ⟨_, rfl, rfl, _, rfl, ?_⟩
      refine ite2 (fun hz => ?_) (fun hz => hD' _ _ ⟨v6, v7, v8, v9, p, rfl, pc⟩)
      obtain ⟨xs, hxs, hxl, hxn, D3, kp3⟩ := pc
      have b0 := Int.emod_nonneg (tu + 7) (show (26 : Int) ≠ 0 by decide)
      have b1 := Int.emod_lt_of_pos (tu + 7) (show (0 : Int) < 26 by decide)
      refine ⟨_, rfl, _, rfl, abc, tu, _, rfl, rfl, abc_len, abc_at tu0 tu1, _, rfl, _, rfl, _, _, rfl, rfl, _, _, rfl, rfl, (by show (0 : Int) < 26; decide), abc, _, _, rfl, rfl, abc_len, abc_at b0 b1, ?_⟩
      have hc0 : 97 ≤ tu.toNat + 97 ∧ tu.toNat + 97 ≤ 122 := by omega
      have he0 : 97 ≤ ((tu + 7) % 26).toNat + 97 ∧ ((tu + 7) % 26).toNat + 97 ≤ 122 := by omega
      generalize tu.toNat + 97 = c at hc0
      generalize ((tu + 7) % 26).toNat + 97 = e at he0
      refine ⟨wd [e], wd [122], rfl, by rw [z_t], by rw [wd_len, wd_len]; show 1 + 1 ≤ sizeLine; decide, ?_⟩
      rw [wd_add]
      refine ⟨_, _, rfl, ?_⟩
      have sz : ∀ a b : List Nat, a.length + b.length ≤ 100 → (wd a).length + (wd b).length ≤ sizeLine := fun a b h => by
        rw [wd_len, wd_len]
        exact Nat.le_of_lt (small1000 (by omega))
      refine ⟨_, rfl, _, rfl, _, rfl, _, rfl, wd [c], wd ([e] ++ [122]), rfl, rfl, sz _ _ (by show 1 + 2 ≤ 100; decide), ?_⟩
      refine ⟨_, rfl, _, rfl, wd ([e] ++ [122]), wd [c], rfl, rfl, sz _ _ (by show 2 + 1 ≤ 100; decide), ?_⟩
      refine ⟨_, rfl, _, rfl, wd [c], wd [c], rfl, rfl, sz _ _ (by show 1 + 1 ≤ 100; decide), ?_⟩
      refine ⟨_, rfl, _, rfl, wd [c], wd [c], rfl, rfl, sz _ _ (by show 1 + 1 ≤ 100; decide), _, rfl, wd [c] ++ wd [c], wd ([e] ++ [122]), rfl, rfl, by rw [wd_add]; exact sz _ _ (by show 2 + 2 ≤ 100; decide), ?_⟩
      refine ⟨_, rfl, _, rfl, wd [c], wd ([e] ++ [122]), rfl, rfl, sz _ _ (by show 1 + 2 ≤ 100; decide), _, rfl, wd [c] ++ wd ([e] ++ [122]), wd [c], rfl, rfl, by rw [wd_add]; exact sz _ _ (by show 3 + 1 ≤ 100; decide), ?_⟩
      refine ⟨_, rfl, _, rfl, wd ([e] ++ [122]), wd ([e] ++ [122]), rfl, rfl, sz _ _ (by show 2 + 2 ≤ 100; decide), ?_⟩
      refine ⟨(by show 8 ≤ sizeLine; decide), fun t ht => ?_⟩
      simp only [wd_add]
      refine ⟨_, rfl, m, rfl, t, stL (f3 c e), rfl, SqL.of upd_same, fun r hr2 => ?_⟩
      have ec : cutV (stL (f3 c e)) none (some (m : Int)) = stL ((f3 c e).take m) := by
        unfold cutV
        rw [HT.sIx_none, HT.sIx_nat, List.drop_zero, Nat.sub_zero, show (stL (f3 c e)).length = 8 from rfl, Nat.min_eq_left hm8]
        unfold stL
        rw [List.map_take]
      rw [ec]
      have ht0 := kp3.free D3 ht
      have D5 := D3.new (o := .lst (stL (f3 c e))) ht
      have kp5 : Kept d l H (upd H4 t (.lst (stL (f3 c e)))) := kp3.new ht0
      refine hD' _ _ ⟨v6, v7, _, _, r, rfl, (f3 c e).take m, upd_same, ?_, fun z hz => nm_form3 hc0.1 hc0.2 he0.1 he0.2 z (List.mem_of_mem_take hz), D5.new hr2, kp5.new (kp5.free D5 hr2)⟩
      rw [List.length_take, show (f3 c e).length = 8 from rfl]
      omega
    rintro σ H4 ⟨v6, v7, v8, v9, p, rfl, xs, hxs, hxl, hxn, D3, kp3⟩
    refine ⟨_, rfl, _, rfl, d, l, p, _, rfl, D3, SqL.of hxs, by rw [List.length_map]; omega, fun r ys H5 hr5 pm D5 kp5 h5 => ?_⟩
    obtain ⟨zs, rfl, hzs⟩ := of_strs (xs := xs) (ys := ys) fun y hy => pm.mem_iff.mp hy
    have hlen : zs.length = m := by
      have := pm.length_eq
      rw [List.length_map, List.length_map] at this
      omega
    exact k r zs H5 (kp3.free D3 hr5) hlen (fun z hz => hxn z (hzs z hz)) D5 (kp3.trans kp5) h5
end
end My

set_option Elab.async false
set_option linter.all false
set_option maxRecDepth 100000
set_option maxHeartbeats 1000000
namespace My
open PySem L2 MyR

/-- an integer within the limits -/
def spNum : Sp := fun vs H Q _ => ∃ (d l : Addr), vs = [.ref d] ∧ Deal H d l ∧
  ∀ (z : Int) (H' : Hp), -18446744073709551616 < z → z < 18446744073709551616 → Deal H' d l → Kept d l H H' → Q (.int z) H'
section
variable {P : Program} {w : World} {K : PySem.W.Frag} {mg : Str → Option Value} {base : Heap}
end
end My

set_option Elab.async false
set_option linter.all false
set_option maxRecDepth 100000
set_option maxHeartbeats 1000000
namespace My
open PySem L2 MyR

/-! ### terms -/
inductive Bk | add | sub | mul | over | rai
  deriving DecidableEq
inductive Tm
  | num (z : Int)
  | nam (x : List Nat)
  | two (k : Bk) (a b : Tm)
  | half (a : Tm)
  | pow (a : Tm) (n : Int)
  | cho (a : Tm) (m r : Int) (b c : Tm)
def Bk.s : Bk → Str
  | .add => "add"
  | .sub => "subtract"
  | .mul => "multiply"
  | .over => "over"
  | .rai => "raised"
def Tm.depth : Tm → Nat
  | .num _ => 0
  | .nam _ => 0
  | .two _ a b => max a.depth b.depth + 1
  | .half a => a.depth + 1
  | .pow a _ => a.depth + 1
  | .cho a _ _ b c => max a.depth (max b.depth c.depth) + 1
def OkM (m : Int) : Prop := m = 2 ∨ m = 4 ∨ m = 8 ∨ m = 16 ∨ m = 32 ∨ m = 64
def Tm.ok : Tm → Prop
  | .num z => -18446744073709551616 < z ∧ z < 18446744073709551616
  | .nam x => isNm x = true
  | .two _ a b => a.ok ∧ b.ok
  | .half a => a.ok
  | .pow a n => a.ok ∧ 0 ≤ n ∧ n ≤ 64
  | .cho a m r b c => a.ok ∧ b.ok ∧ c.ok ∧ OkM m ∧ 0 ≤ r ∧ r < m
/-- a term as tuples -/
def TmAt (H : Hp) : Tm → Addr → Prop
  | .num z, p => H p = some (.tup [.str "number", .int z])
  | .nam x, p => H p = some (.tup [.str "name", .str (wd x)])
  | .two k a b, p => ∃ q r, H p = some (.tup [.str k.s, .ref q, .ref r]) ∧ TmAt H a q ∧ TmAt H b r
  | .half a, p => ∃ q, H p = some (.tup [.str "half", .ref q]) ∧ TmAt H a q
  | .pow a n, p => ∃ q, H p = some (.tup [.str "power", .ref q, .int n]) ∧ TmAt H a q
  | .cho a m r b c, p => ∃ q s t, H p = some (.tup [.str "choose", .ref q, .int m, .int r, .ref s, .ref t]) ∧ TmAt H a q ∧ TmAt H b s ∧ TmAt H c t
theorem TmAt.map {H H' : Hp} (h : ∀ p xs, H p = some (.tup xs) → H' p = some (.tup xs)) : ∀ {T : Tm} {p : Addr}, TmAt H T p → TmAt H' T p
  | .num z, p, e => h _ _ e
  | .nam x, p, e => h _ _ e
  | .two k a b, p, ⟨q, r, e, ea, eb⟩ => ⟨q, r, h _ _ e, TmAt.map h ea, TmAt.map h eb⟩
  | .half a, p, ⟨q, e, ea⟩ => ⟨q, h _ _ e, TmAt.map h ea⟩
  | .pow a n, p, ⟨q, e, ea⟩ => ⟨q, h _ _ e, TmAt.map h ea⟩
  | .cho a m r b c, p, ⟨q, s, t, e, ea, eb, ec⟩ => ⟨q, s, t, h _ _ e, TmAt.map h ea, TmAt.map h eb, TmAt.map h ec⟩
theorem Deal.tup {H : Hp} {d l p : Addr} {xs : List V} (D : Deal H d l) (h : H p = some (.tup xs)) : p ≠ d ∧ p ≠ l := by
  obtain ⟨s, n, ns, hd, hl, r⟩ := D.ex
  exact ⟨ne_of h hd (by intro z; cases z), ne_of h hl (by intro z; cases z)⟩
theorem TmAt.kept {H H' : Hp} {d l : Addr} (D : Deal H d l) (k : Kept d l H H') {T : Tm} {p : Addr} (e : TmAt H T p) : TmAt H' T p :=
  e.map fun p xs h => k p _ h (D.tup h).1 (D.tup h).2
theorem TmAt.new {H : Hp} {q : Addr} {o : HO} (hq : H q = none) {T : Tm} {p : Addr} (e : TmAt H T p) : TmAt (upd H q o) T p :=
  e.map fun p xs h => by rw [upd_ne (ne_of_none h hq)]; exact h
theorem stL_eqv {zs : List (List Nat)} (h : zs ≠ []) : PyData.eqv (.list (zs.map fun z => .str (wd z))) (.list []) = false := by
  cases zs with
  | nil => exact absurd rfl h
  | cons z zs => rfl
theorem stL_dp {K : PySem.W.Frag} {H : Hp} : ∀ zs : List (List Nat), DpAll K H (stL zs) (zs.map fun z => .str (wd z))
  | [] => .nil
  | z :: zs => .cons (.str _) (stL_dp zs)
theorem nm_ok {z : List Nat} (h : isNm z = true) : PyData.canLay0 (.str (wd z)) = true := by
  have hl := nm_low h
  show (wd z).cps.all (fun c => decide (c < 0x110000)) = true
  unfold lowL at hl
  rw [List.all_eq_true] at hl
  unfold wd
  rw [← Array.all_toList, List.all_eq_true]
  intro c hc
  have := hl c hc
  simp only [Bool.and_eq_true, decide_eq_true_eq] at this
  exact decide_eq_true (by omega)
theorem stL_shaped {zs : List (List Nat)} (h : ∀ z ∈ zs, isNm z = true) : SeqAt.shaped (.list (zs.map fun z => .str (wd z))) = true := by
  unfold SeqAt.shaped
  have h1 : PyData.canLayAll0 (zs.map fun z => .str (wd z)) = true := by
    induction zs with
    | nil => rfl
    | cons z zs ih =>
      show (PyData.canLay0 (.str (wd z)) && PyData.canLayAll0 (zs.map fun z => .str (wd z))) = true
      rw [nm_ok (h z List.mem_cons_self), ih fun y hy => h y (List.mem_cons_of_mem _ hy)]
      rfl
  have h2 : PyData.depthAll (zs.map fun z => .str (wd z)) = 0 := by
    clear h h1
    induction zs with
    | nil => rfl
    | cons z zs ih =>
      show max (PyData.depth (.str (wd z))) (PyData.depthAll (zs.map fun z => .str (wd z))) = 0
      rw [ih]
      rfl
  have h3 : PyData.canLay0 (.list (zs.map fun z => .str (wd z))) = PyData.canLayAll0 (zs.map fun z => .str (wd z)) := rfl
  have h4 : PyData.depth (.list (zs.map fun z => .str (wd z))) = PyData.depthAll (zs.map fun z => .str (wd z)) + 1 := rfl
  rw [h3, h1, h4, h2]
  rfl
/-- a number or a name -/
def spLeaf (K : PySem.W.Frag) : Sp := fun vs H Q _ => ∃ (d l na : Addr) (zs : List (List Nat)), vs = [.ref d, .ref na] ∧ Deal H d l ∧ SqL K H na (stL zs) ∧ na ≠ d ∧ na ≠ l ∧ zs ≠ [] ∧ zs.length ≤ 64 ∧ (∀ z ∈ zs, isNm z = true) ∧
  ∀ (p : Addr) (T : Tm) (H' : Hp), T.ok → T.depth = 0 → TmAt H' T p → Deal H' d l → Kept d l H H' → Q (.ref p) H'
section
variable {P : Program} {w : World} {K : PySem.W.Frag} {mg : Str → Option Value} {base : Heap}
end
end My

set_option Elab.async false
set_option linter.all false
set_option maxRecDepth 100000
set_option maxHeartbeats 1000000
namespace My
open PySem L2 MyR

theorem pss_never {X : Cx} {ss : List Stmt} : PSs X ss (fun _ _ _ => False) := ⟨fun _ _ _ _ _ _ h => h.elim⟩
def kinds : List Str := ["leaf", "add", "subtract", "multiply", "half", "power", "choose", "over", "raised"]
theorem kinds_cases {k : Str} (h : k ∈ kinds) : k = "leaf" ∨ k = "add" ∨ k = "subtract" ∨ k = "multiply" ∨ k = "half" ∨ k = "power" ∨ k = "choose" ∨ k = "over" ∨ k = "raised" := by
  simpa [kinds] using h
/-- a term so deep of some kinds -/
def spTerm (K : PySem.W.Frag) (n : Nat) : Sp := fun vs H Q _ => ∃ (d l na ka : Addr) (zs : List (List Nat)) (ks : List Str), vs = [.ref d, .ref na, .int n, .ref ka] ∧ Deal H d l ∧ SqL K H na (stL zs) ∧ na ≠ d ∧ na ≠ l ∧ zs ≠ [] ∧ zs.length ≤ 64 ∧ (∀ z ∈ zs, isNm z = true) ∧
  SqL K H ka (ks.map V.str) ∧ ka ≠ d ∧ ka ≠ l ∧ ks ≠ [] ∧ ks.length ≤ 64 ∧ (∀ k ∈ ks, k ∈ kinds) ∧
  ∀ (p : Addr) (T : Tm) (H' : Hp), T.ok → T.depth ≤ 3 * n → TmAt H' T p → Deal H' d l → Kept d l H H' → Q (.ref p) H'
section
variable {P : Program} {w : World} {K : PySem.W.Frag} {mg : Str → Option Value} {base : Heap}
end
end My

set_option Elab.async false
set_option linter.all false
set_option maxRecDepth 100000
set_option maxHeartbeats 1000000
namespace My
open PySem L2 MyR

/-! ### values that constructors are tried with -/
inductive Arg (H : Hp) : V → Prop
  | non : Arg H .non
  | bl (b : Bool) : Arg H (.bl b)
  | int (i : Int) : Arg H (.int i)
  | str (z : Str) (h : z.length ≤ 100) : Arg H (.str z)
  | tup {a : Addr} {xs : List V} (h : H a = some (.tup xs)) : Arg H (.ref a)
def bI : V → Bool
  | .int _ => true
  | .bl _ => true
  | _ => false
def bB : V → Bool
  | .bl _ => true
  | _ => false
def bS : V → Bool
  | .str _ => true
  | _ => false
def isI : V → Bool
  | .int _ => true
  | _ => false
theorem isi_int {K : PySem.W.Frag} {H : Hp} {v : V} (h : Arg H v) : ∃ t, TyX K H v t ∧ PySem.W.kitOne K t (.type "int") = some (bI v) := by
  cases h with
  | non => exact ⟨_, .base .non, kit_ty (a := "NoneType") (b := "int") (r := false) (by decide +kernel)⟩
  | bl b => exact ⟨_, .base (.bl b), kit_ty (a := "bool") (b := "int") (r := true) (by decide +kernel)⟩
  | int i => exact ⟨_, .base (.int i), kit_ty (a := "int") (b := "int") (r := true) (by decide +kernel)⟩
  | str z hz => exact ⟨_, .base (.str z), kit_ty (a := "str") (b := "int") (r := false) (by decide +kernel)⟩
  | tup e => exact ⟨_, .base (.tup e), kit_ty (a := "tuple") (b := "int") (r := false) (by decide +kernel)⟩
theorem isi_bool {K : PySem.W.Frag} {H : Hp} {v : V} (h : Arg H v) : ∃ t, TyX K H v t ∧ PySem.W.kitOne K t (.type "bool") = some (bB v) := by
  cases h with
  | non => exact ⟨_, .base .non, kit_ty (a := "NoneType") (b := "bool") (r := false) (by decide +kernel)⟩
  | bl b => exact ⟨_, .base (.bl b), kit_ty (a := "bool") (b := "bool") (r := true) (by decide +kernel)⟩
  | int i => exact ⟨_, .base (.int i), kit_ty (a := "int") (b := "bool") (r := false) (by decide +kernel)⟩
  | str z hz => exact ⟨_, .base (.str z), kit_ty (a := "str") (b := "bool") (r := false) (by decide +kernel)⟩
  | tup e => exact ⟨_, .base (.tup e), kit_ty (a := "tuple") (b := "bool") (r := false) (by decide +kernel)⟩
theorem isi_str {K : PySem.W.Frag} {H : Hp} {v : V} (h : Arg H v) : ∃ t, TyX K H v t ∧ PySem.W.kitOne K t (.type "str") = some (bS v) := by
  cases h with
  | non => exact ⟨_, .base .non, kit_ty (a := "NoneType") (b := "str") (r := false) (by decide +kernel)⟩
  | bl b => exact ⟨_, .base (.bl b), kit_ty (a := "bool") (b := "str") (r := false) (by decide +kernel)⟩
  | int i => exact ⟨_, .base (.int i), kit_ty (a := "int") (b := "str") (r := false) (by decide +kernel)⟩
  | str z hz => exact ⟨_, .base (.str z), kit_ty (a := "str") (b := "str") (r := true) (by decide +kernel)⟩
  | tup e => exact ⟨_, .base (.tup e), kit_ty (a := "tuple") (b := "str") (r := false) (by decide +kernel)⟩
/-- the tables of the program -/
structure Tabs (K : PySem.W.Frag) (mg : Str → Option Value) : Prop where
  limit : ∃ t, mg "LIMIT" = some (.int 18446744073709551616 t)
  longest : ∃ t, mg "LONGEST_NAME" = some (.int 8 t)
  times : ∃ t, mg "MOST_TIMES" = some (.int 64 t)
  words : ∃ a, mg "WORDS" = some (.ref a) ∧ ∀ H, SqT K H a ((keptL.map wd).map V.str)
  moduli : ∃ a, mg "MODULI" = some (.ref a) ∧ ∀ H, SqT K H a ([2, 4, 8, 16, 32, 64].map V.int)
theorem le_a (c : Nat) : (!decide ((wd [c]).cps.toList < (Str.ofString "a").cps.toList)) = decide (97 ≤ c) := by
  rw [show (Str.ofString "a").cps.toList = [97] from by decide +kernel, wd_cps]
  by_cases h : c < 97
  · rw [decide_eq_true (show [c] < [97] from List.cons_lt_cons_iff.mpr (.inl h)), decide_eq_false (show ¬ 97 ≤ c by omega)]
    rfl
  · have : ¬ [c] < [97] := fun e => by
      rcases List.cons_lt_cons_iff.mp e with q | ⟨_, q⟩
      · exact h q
      · exact absurd q (List.not_lt_nil _)
    rw [decide_eq_false this, decide_eq_true (show 97 ≤ c by omega)]
    rfl
theorem le_z (c : Nat) : (!decide ((Str.ofString "z").cps.toList < (wd [c]).cps.toList)) = decide (c ≤ 122) := by
  rw [show (Str.ofString "z").cps.toList = [122] from by decide +kernel, wd_cps]
  by_cases h : 122 < c
  · rw [decide_eq_true (show [122] < [c] from List.cons_lt_cons_iff.mpr (.inl h)), decide_eq_false (show ¬ c ≤ 122 by omega)]
    rfl
  · have : ¬ [122] < [c] := fun e => by
      rcases List.cons_lt_cons_iff.mp e with q | ⟨_, q⟩
      · exact h q
      · exact absurd q (List.not_lt_nil _)
    rw [decide_eq_false this, decide_eq_true (show c ≤ 122 by omega)]
    rfl
def lowC (c : Nat) : Bool := decide (97 ≤ c) && decide (c ≤ 122)
theorem take_succ_map {α : Type} (f : Nat → α) (l : List Nat) (i c : Nat) (h : l[i]? = some c) : (l.take (i + 1)).map f = (l.take i).map f ++ [f c] := by
  rw [List.take_add_one, h, List.map_append]
  rfl
def spIsInt : Sp := fun vs H Q _ => ∃ v, vs = [v] ∧ Arg H v ∧ Q (.bl (isI v)) H
def btw : V → Int → Int → Bool
  | .int i, lo, hi => decide (lo ≤ i) && decide (i ≤ hi)
  | _, _, _ => false
def spBtw : Sp := fun vs H Q _ => ∃ v lo hi, vs = [v, .int lo, .int hi] ∧ Arg H v ∧ Q (.bl (btw v lo hi)) H
def spSmall : Sp := fun vs H Q _ => ∃ v, vs = [v] ∧ Arg H v ∧ Q (.bl (btw v (-18446744073709551615) 18446744073709551615)) H
def nmV : V → Bool
  | .str z => isNm z.cps.toList
  | _ => false
def spIsName : Sp := fun vs H Q _ => ∃ v, vs = [v] ∧ Arg H v ∧ ∀ H', Same H H' → Q (.bl (nmV v)) H'
section
variable {P : Program} {w : World} {K : PySem.W.Frag} {mg : Str → Option Value} {base : Heap}
abbrev s_is_integer : Stmt := top 10
abbrev N_is_integer : List Str := ["value"]
theorem sc_is_integer : FnScope N_is_integer ["value"] (defScope s_is_integer) := ⟨rfl, rfl, rfl, by decide +kernel, rfl, by decide +kernel, by decide +kernel⟩
theorem ok_is_integer {f : Addr} {fd : FuncData} (F : Fun K "is_integer" "is_integer" s_is_integer f fd) (T : Glob mg) : FnOk P w K mg base CX0 1 f fd ["value"] spIsInt := by
  refine F.ok sc_is_integer (fun vs H Q E h => ?_) (fun cdv A outer s H vs Q E hr h => ?_)
  · obtain ⟨v, rfl, _⟩ := h
    rfl
  · obtain ⟨v, rfl, ha, k⟩ := h
    refine ⟨_, (pss_one (ps_ret (pe_and (pe_callB call_isi (by rfl) T.g_isinstance (by decide +kernel) (pa_cons (pv 0) (pa_cons (pe_bltn (v := .ty "int") (by rfl) T.g_int (by decide +kernel) rfl) pa_nil))) (pe_one (pe_not (pe_callB call_isi (by rfl) T.g_isinstance (by decide +kernel) (pa_cons (pv 0) (pa_cons (pe_bltn (v := .ty "bool") (by rfl) T.g_bool (by decide +kernel) rfl) pa_nil)))))))), ?_⟩
    obtain ⟨t, ht, e⟩ := isi_int (K := K) ha
    obtain ⟨t2, ht2, e2⟩ := isi_bool (K := K) ha
    refine ⟨_, rfl, _, _, t, _, bI v, rfl, .ty "int", ht, e, _, rfl, ?_⟩
    cases ha with
    | non => exact k
    | bl b => exact ⟨_, rfl, _, _, t2, _, true, rfl, .ty "bool", ht2, e2, _, rfl, k⟩
    | int i => exact ⟨_, rfl, _, _, t2, _, false, rfl, .ty "bool", ht2, e2, _, rfl, k⟩
    | str z hz => exact k
    | tup e => exact k
abbrev s_is_between : Stmt := top 11
abbrev N_is_between : List Str := ["value", "least", "most"]
theorem sc_is_between : FnScope N_is_between ["value", "least", "most"] (defScope s_is_between) := ⟨rfl, rfl, rfl, by decide +kernel, rfl, by decide +kernel, by decide +kernel⟩
theorem ok_is_between {f : Addr} {fd : FuncData} (F : Fun K "is_between" "is_between" s_is_between f fd) (D_is_integer : Df P w K mg base 1 "is_integer" ["value"] spIsInt) : FnOk P w K mg base CX0 2 f fd ["value", "least", "most"] spBtw := by
  refine F.ok sc_is_between (fun vs H Q E h => ?_) (fun cdv A outer s H vs Q E hr h => ?_)
  · obtain ⟨v, lo, hi, rfl, _⟩ := h
    rfl
  · obtain ⟨v, lo, hi, rfl, ha, k⟩ := h
    refine ⟨_, (pss_one (ps_ret (pe_and (pe_call D_is_integer.ok (hr.mono (by decide)) (by rfl) D_is_integer.g D_is_integer.kp D_is_integer.b .nil pass0 (pa_cons (pv 0) pa_nil)) (pe_one (pe_chain op_le op_le (pv 1) (pv 0) (pv 2)))))), ?_⟩
    refine ⟨_, rfl, v, rfl, ha, _, rfl, ?_⟩
    cases ha with
    | non => exact k
    | bl b => exact k
    | str z hz => exact k
    | tup e => exact k
    | int i =>
      refine ⟨_, rfl, _, rfl, _, _, rfl, rfl, _, rfl, ?_⟩
      refine ite2 (fun h1 => ?_) (fun h1 => ?_)
      · refine ⟨_, rfl, _, _, rfl, rfl, ?_⟩
        have e : btw (.int i) lo hi = decide (i ≤ hi) := by
          show (decide (lo ≤ i) && decide (i ≤ hi)) = _
          rw [h1, Bool.true_and]
        rw [e] at k
        exact k
      · have e : btw (.int i) lo hi = false := by
          show (decide (lo ≤ i) && decide (i ≤ hi)) = _
          rw [Bool.eq_false_iff.mpr h1, Bool.false_and]
        rw [e] at k
        exact k
abbrev s_is_small : Stmt := top 12
abbrev N_is_small : List Str := ["value"]
theorem sc_is_small : FnScope N_is_small ["value"] (defScope s_is_small) := ⟨rfl, rfl, rfl, by decide +kernel, rfl, by decide +kernel, by decide +kernel⟩
theorem ok_is_small {f : Addr} {fd : FuncData} (F : Fun K "is_small" "is_small" s_is_small f fd) (T2 : Tabs K mg) (D_is_integer : Df P w K mg base 1 "is_integer" ["value"] spIsInt) : FnOk P w K mg base CX0 2 f fd ["value"] spSmall := by
  obtain ⟨tL, hL⟩ := T2.limit
  refine F.ok sc_is_small (fun vs H Q E h => ?_) (fun cdv A outer s H vs Q E hr h => ?_)
  · obtain ⟨v, rfl, _⟩ := h
    rfl
  · obtain ⟨v, rfl, ha, k⟩ := h
    refine ⟨_, (pss_one (ps_ret (pe_and (pe_call D_is_integer.ok (hr.mono (by decide)) (by rfl) D_is_integer.g D_is_integer.kp D_is_integer.b .nil pass0 (pa_cons (pv 0) pa_nil)) (pe_one (pe_chain op_lt op_lt (pe_un un_neg (pe_glob (v := .int 18446744073709551616) rfl hL ⟨_, rfl⟩)) (pv 0) (pe_glob (v := .int 18446744073709551616) rfl hL ⟨_, rfl⟩)))))), ?_⟩
    refine ⟨_, rfl, v, rfl, ha, _, rfl, ?_⟩
    cases ha with
    | non => exact k
    | bl b => exact k
    | str z hz => exact k
    | tup e => exact k
    | int i =>
      refine ⟨_, rfl, _, rfl, _, _, rfl, rfl, _, rfl, ?_⟩
      refine ite2 (fun h1 => ?_) (fun h1 => ?_)
      · refine ⟨_, _, rfl, rfl, ?_⟩
        have h2 := of_decide_eq_true h1
        have e : btw (.int i) (-18446744073709551615) 18446744073709551615 = decide (i < 18446744073709551616) := by
          show (decide (-18446744073709551615 ≤ i) && decide (i ≤ 18446744073709551615)) = _
          rw [decide_eq_true (show -18446744073709551615 ≤ i by omega), Bool.true_and]
          exact decide_eq_decide.mpr (by omega)
        rw [e] at k
        exact k
      · have h2 : ¬ (-18446744073709551616 < i) := fun q => h1 (decide_eq_true q)
        have e : btw (.int i) (-18446744073709551615) 18446744073709551615 = false := by
          show (decide (-18446744073709551615 ≤ i) && decide (i ≤ 18446744073709551615)) = _
          rw [decide_eq_false (show ¬ -18446744073709551615 ≤ i by omega), Bool.false_and]
        rw [e] at k
        exact k
abbrev s_is_name : Stmt := top 13
abbrev N_is_name : List Str := ["value", "letter"]
theorem sc_is_name : FnScope N_is_name ["value"] (defScope s_is_name) := ⟨rfl, rfl, rfl, by decide +kernel, rfl, by decide +kernel, by decide +kernel⟩
theorem ok_is_name {f : Addr} {fd : FuncData} (F : Fun K "is_name" "is_name" s_is_name f fd) (T : Glob mg) (T2 : Tabs K mg) : FnOk P w K mg base CX0 1 f fd ["value"] spIsName := by
  obtain ⟨tN, hN⟩ := T2.longest
  obtain ⟨aW, hW, hWs⟩ := T2.words
  refine F.ok sc_is_name (fun vs H Q E h => ?_) (fun cdv A outer s H vs Q E hr h => ?_)
  · obtain ⟨v, rfl, _⟩ := h
    rfl
  · obtain ⟨v, rfl, ha, k⟩ := h
    have nd := sc_is_name.nd
    refine ⟨_, (pss_cons (ps_if (PW.pt (pw_or (pt_not (pt_val (pe_callB call_isi (by rfl) T.g_isinstance (by decide +kernel) (pa_cons (pv 0) (pa_cons (pe_bltn (v := .ty "str") (by rfl) T.g_str (by decide +kernel) rfl) pa_nil))))) (pw_or1 (pt_not (pt_chain op_le op_le pe_int (pe_callB call_len_str (by rfl) T.g_len PySem.boot_len (pa_cons (pv 0) pa_nil)) (pe_glob (v := .int 8) rfl hN ⟨_, rfl⟩))))))
    (pss_one (ps_ret pe_bl))
    pss_nil)
    (pss_one (ps_ret (pe_and (pe_cmpR op_notIn_seq (pv 0) (pe_glob (v := .ref aW) rfl hW rfl) (by rfl)) (pe_one (pe_callB (cr_all rfl) (by rfl) T.g_all (by decide +kernel) (pa_cons (pe_lc (own := [("letter", 1)]) (g := gName 1) (tt := tYes) rfl nd (pi_str (pv 0)) (blkOk_by (N := N_is_name) (sc := defScope s_is_name) (by decide +kernel)) (fun _ _ _ _ _ => pg_name (i := 1) nd rfl (Or.inl rfl)) (fun _ _ _ _ _ => pts_nil) (fun _ _ _ _ _ => (pe_chain op_le_str op_le_str pe_str (pv 1) pe_str))) pa_nil))))))), ?_⟩
    obtain ⟨t, ht, e⟩ := isi_str (K := K) ha
    refine ⟨_, rfl, _, _, t, _, bS v, rfl, .ty "str", ht, e, _, rfl, ?_⟩
    have no : ∀ (hv : nmV v = false), Q (.bl false) H := fun hv => by
      have q := k H (Same.refl H)
      rw [hv] at q
      exact q
    cases ha with
    | non => exact no rfl
    | bl b => exact no rfl
    | int i => exact no rfl
    | tup e => exact no rfl
    | str z hz =>
      have hzl : z.length = z.cps.toList.length := by simp [Str.length]
      have hnm : nmV (.str z) = (decide (1 ≤ z.cps.toList.length) && decide (z.cps.toList.length ≤ 8) && (z.cps.toList.all lowC) && !keptL.contains z.cps.toList) := rfl
      refine ⟨_, rfl, z, rfl, Nat.le_of_lt (small1000 (by omega)), ?_⟩
      refine ⟨_, _, rfl, rfl, _, rfl, ?_⟩
      refine ite2 (fun h1 => ?_) (fun h1 => ?_)
      · have h1' := of_decide_eq_true h1
        refine ⟨_, _, rfl, rfl, _, rfl, ?_⟩
        by_cases h8 : (z.length : Int) ≤ 8
        · rw [decide_eq_true h8]
          refine ⟨_, rfl, aW, _, rfl, .inr (hWs _), rfl, kept_flat, _, rfl, ?_⟩
          have e1 : inV (.str z) ((keptL.map wd).map V.str) = keptL.contains z.cps.toList := by
            have := in_kept (l := z.cps.toList)
            rwa [wd_of] at this
          refine ite2 (fun hk => ?_) (fun hk => ?_)
          · have hk2 : keptL.contains z.cps.toList = false := by
              rw [← e1]
              cases e : inV (.str z) ((keptL.map wd).map V.str) with
              | false => rfl
              | true =>
                have hk' : (!inV (.str z) ((keptL.map wd).map V.str)) = true := hk
                rw [e] at hk'
                cases hk'
            refine ⟨_, rfl, z, rfl, fun D hD => ?_⟩
            refine lc_it walk_str (fun i H1 => Same H H1 ∧ H1 D = some (.lst ((z.cps.toList.take i).map fun c => V.bl (lowC c)))) ⟨fun b o e => by rw [upd_ne (ne_of_none e hD)]; exact e, upd_same⟩ (fun _ _ _ _ => trivial) ?_ ?_
            · rintro i x H1 H2 hi ⟨sm, h2⟩ ⟨rfl, c, hc, rfl⟩
              refine ⟨rfl, ?_⟩
              have hc2 : z.cps.toList[i]? = some c := by rw [Array.getElem?_toList]; exact hc
              have fin : ∀ (b : Bool), b = lowC c → ∃ acc, H2 D = some (.lst acc) ∧ acc.length < sizeLine ∧ (Same H (upd H2 D (.lst (acc ++ [.bl b]))) ∧ (upd H2 D (.lst (acc ++ [.bl b]))) D = some (.lst ((z.cps.toList.take (i + 1)).map fun c => V.bl (lowC c)))) := fun b hb => by
                subst hb
                refine ⟨_, h2, by rw [List.length_map, List.length_take]; exact small1000 (by omega), fun a o e => ?_, ?_⟩
                · rw [upd_ne (ne_of_none e hD)]; exact sm a o e
                · rw [upd_same, take_succ_map (fun c => V.bl (lowC c)) _ _ _ hc2]
              refine ⟨_, rfl, "a", wd [c], rfl, rfl, _, rfl, ?_⟩
              refine ite2 (fun ha => ?_) (fun ha => ?_)
              · refine ⟨wd [c], "z", rfl, rfl, fin _ ?_⟩
                rw [le_z]
                rw [le_a] at ha
                unfold lowC
                rw [ha, Bool.true_and]
              · refine fin _ ?_
                rw [le_a] at ha
                unfold lowC
                rw [Bool.eq_false_iff.mpr ha, Bool.false_and]
            · rintro H1 ⟨sm, h2⟩
              have hl : z.cps.toList.take z.cps.size = z.cps.toList := List.take_of_length_le (by rw [Array.length_toList]; exact Nat.le_refl _)
              rw [hl] at h2
              refine ⟨D, z.cps.toList.map lowC, rfl, SqL.of (by rw [List.map_map]; exact h2), ?_⟩
              have q := k H1 sm
              rw [hnm, decide_eq_true (show 1 ≤ z.cps.toList.length by omega), decide_eq_true (show z.cps.toList.length ≤ 8 by omega), hk2] at q
              simp only [Bool.true_and, Bool.not_false, Bool.and_true] at q
              have e5 : (z.cps.toList.map lowC).all id = z.cps.toList.all lowC := by rw [List.all_map]; rfl
              rw [← e5] at q
              exact q
          · have hk2 : keptL.contains z.cps.toList = true := by
              rw [← e1]
              cases e : inV (.str z) ((keptL.map wd).map V.str) with
              | true => rfl
              | false =>
                have hk' : ¬ (!inV (.str z) ((keptL.map wd).map V.str)) = true := hk
                rw [e] at hk'
                exact absurd rfl hk'
            exact no (by rw [hnm, hk2, Bool.not_true, Bool.and_false])
        · rw [decide_eq_false h8]
          exact no (by rw [hnm, decide_eq_false (show ¬ z.cps.toList.length ≤ 8 by omega), Bool.and_false, Bool.false_and, Bool.false_and])
      · have h1' : ¬ (1 ≤ (z.length : Int)) := fun q => h1 (decide_eq_true q)
        exact ⟨_, rfl, no (by rw [hnm, decide_eq_false (show ¬ 1 ≤ z.cps.toList.length by omega), Bool.false_and, Bool.false_and, Bool.false_and])⟩
end
end My

set_option Elab.async false
set_option linter.all false
set_option maxRecDepth 100000
set_option maxHeartbeats 1000000
namespace MyR
open PySem PySem.Spec PyProof.Rows L2
section
variable {X : Cx} {C : Addr} {bmB : List Value} {B newId initId : String}
/-- X() of an own error class without an __init__ -/
theorem pmk_own0 {x : Str} {p pos : Pos} (F : ExcBaseFacts B newId initId bmB) (q : PySem.W.excIn X.K C bmB newId = true) (gC : X.mg x = some (.ref C)) (kC : PySem.W.keepIn X.K (.ref C) = true) (r : Raises X (.ref C)) (hg : Gl X x)
    (hdb : (x == ("__debug__" : Str)) = false := by decide) : PMk X (.Call (.Name x p) [] [] pos) (fun _ H Q => Q (.ref C) none H) := by
  intro pins s σ H Q I h
  refine wpAny_Call_Name_kw (ld_glob I hg gC ?_ hdb)
  refine PySem.W.callWith_K0 I.kIn kC ?_
  show wpAny _ _ (call (.ref C) []) _ _ _
  obtain ⟨bm, N, nm, qn, bs, hdct, sn, sub, ab, col, dd, k0, k1, k2, k3, k5, mN, hC, hN, hni, T⟩ := exc_obj I.kIn q
  obtain ⟨hp1, g1, d1, tk1, os1⟩ := s
  refine wpAny_call_exc_subT F T hC hN hni (fun h' e hm => ?_) (Nat.zero_le _)
  exact mk_of I hm r h (I.hok.gone hm.new)
end
end MyR

set_option Elab.async false
set_option linter.all false
set_option maxRecDepth 100000
set_option maxHeartbeats 1000000
namespace My
open PySem L2 MyR

theorem putF_ne {f g : Str} {v x : V} {r : List (Str × V)} (h : ¬ g = f) : putF f v ((g, x) :: r) = (g, x) :: putF f v r := by
  show (if g = f then (g, v) :: r else (g, x) :: putF f v r) = _
  rw [if_neg h]
/-- InvalidNode, as the top has made it -/
structure InvN (K : PySem.W.Frag) (mg : Str → Option Value) (c : Addr) : Prop where
  g : mg "InvalidNode" = some (.ref c)
  x : PySem.W.excIn K c [.type "ValueError", .type "Exception", .type "BaseException", .type "object"] "ValueError.__new__" = true
  k : PySem.W.keepIn K (.ref c) = true
  b : PySem.W.subIn K (.ref c) (.type "BaseException") = some true
  t : PySem.W.typeIn K (.ref c) = some (.type "type")
/-- the new object at p gets these fields -/
def Ini (H : Hp) (p C dx : Addr) (fs : List (Str × V)) (H' : Hp) : Prop := H' p = some (.ins C dx fs) ∧ ∀ b o, H b = some o → b ≠ p → H' b = some o
section
variable {P : Program} {w : World} {K : PySem.W.Frag} {mg : Str → Option Value} {base : Heap}
/-- two fields -/
def spI2 (C : Addr) (a b : Str) : Sp := fun vs H Q _ => ∃ (p dx : Addr) (x0 x1 : V), vs = [.ref p, x0, x1] ∧ H p = some (.ins C dx []) ∧ ∀ H', Ini H p C dx [(a, x0), (b, x1)] H' → Q .non H'
abbrev s_Add_init : Stmt := inClass (top 28) 0
abbrev N_Add_init : List Str := ["self", "one", "other"]
theorem sc_Add_init : FnScope N_Add_init ["self", "one", "other"] (defScope s_Add_init) := ⟨rfl, rfl, rfl, by decide +kernel, rfl, by decide +kernel, by decide +kernel⟩
theorem ok_Add_init {f C : Addr} {fd : FuncData} (F : Fun K "__init__" "Add.__init__" s_Add_init f fd) (cl : Cls K C) (n1 : NoAttr K C "one") (n2 : NoAttr K C "other") : FnOk P w K mg base CX0 1 f fd ["self", "one", "other"] (spI2 C "one" "other") := by
  refine F.ok sc_Add_init (fun vs H Q E h => ?_) (fun cdv A outer s H vs Q E hr h => ?_)
  · obtain ⟨p, dx, x0, x1, rfl, _⟩ := h
    rfl
  · obtain ⟨p, dx, x0, x1, rfl, hp, k⟩ := h
    refine ⟨_, (pss_cons (ps_fld (pv 0) (pv 1) rfl)
    (pss_one (ps_fld (pv 0) (pv 2) rfl))), ?_⟩
    refine ⟨_, rfl, _, rfl, p, C, dx, _, rfl, hp, cl, n1, (by show 0 < 1000; decide), _, rfl, _, rfl, p, C, dx, _, rfl, upd_same, cl, n2, (by show 1 < 1000; decide), k _ ⟨?_, fun b o e hb => ?_⟩⟩
    · rw [upd_same]
      show some (HO.ins C dx (putF "other" x1 (("one", x0) :: []))) = _
      rw [putF_ne (by decide +kernel)]
      rfl
    · rw [upd_ne hb, upd_ne hb]
      exact e
abbrev s_Subtract_init : Stmt := inClass (top 29) 1
abbrev N_Subtract_init : List Str := ["self", "one", "other"]
theorem sc_Subtract_init : FnScope N_Subtract_init ["self", "one", "other"] (defScope s_Subtract_init) := ⟨rfl, rfl, rfl, by decide +kernel, rfl, by decide +kernel, by decide +kernel⟩
theorem ok_Subtract_init {f C : Addr} {fd : FuncData} (F : Fun K "__init__" "Subtract.__init__" s_Subtract_init f fd) (cl : Cls K C) (n1 : NoAttr K C "one") (n2 : NoAttr K C "other") : FnOk P w K mg base CX0 1 f fd ["self", "one", "other"] (spI2 C "one" "other") := by
  refine F.ok sc_Subtract_init (fun vs H Q E h => ?_) (fun cdv A outer s H vs Q E hr h => ?_)
  · obtain ⟨p, dx, x0, x1, rfl, _⟩ := h
    rfl
  · obtain ⟨p, dx, x0, x1, rfl, hp, k⟩ := h
    refine ⟨_, (pss_cons (ps_fld (pv 0) (pv 1) rfl)
    (pss_one (ps_fld (pv 0) (pv 2) rfl))), ?_⟩
    refine ⟨_, rfl, _, rfl, p, C, dx, _, rfl, hp, cl, n1, (by show 0 < 1000; decide), _, rfl, _, rfl, p, C, dx, _, rfl, upd_same, cl, n2, (by show 1 < 1000; decide), k _ ⟨?_, fun b o e hb => ?_⟩⟩
    · rw [upd_same]
      show some (HO.ins C dx (putF "other" x1 (("one", x0) :: []))) = _
      rw [putF_ne (by decide +kernel)]
      rfl
    · rw [upd_ne hb, upd_ne hb]
      exact e
abbrev s_Multiply_init : Stmt := inClass (top 30) 2
abbrev N_Multiply_init : List Str := ["self", "one", "other"]
theorem sc_Multiply_init : FnScope N_Multiply_init ["self", "one", "other"] (defScope s_Multiply_init) := ⟨rfl, rfl, rfl, by decide +kernel, rfl, by decide +kernel, by decide +kernel⟩
theorem ok_Multiply_init {f C : Addr} {fd : FuncData} (F : Fun K "__init__" "Multiply.__init__" s_Multiply_init f fd) (cl : Cls K C) (n1 : NoAttr K C "one") (n2 : NoAttr K C "other") : FnOk P w K mg base CX0 1 f fd ["self", "one", "other"] (spI2 C "one" "other") := by
  refine F.ok sc_Multiply_init (fun vs H Q E h => ?_) (fun cdv A outer s H vs Q E hr h => ?_)
  · obtain ⟨p, dx, x0, x1, rfl, _⟩ := h
    rfl
  · obtain ⟨p, dx, x0, x1, rfl, hp, k⟩ := h
    refine ⟨_, (pss_cons (ps_fld (pv 0) (pv 1) rfl)
    (pss_one (ps_fld (pv 0) (pv 2) rfl))), ?_⟩
    refine ⟨_, rfl, _, rfl, p, C, dx, _, rfl, hp, cl, n1, (by show 0 < 1000; decide), _, rfl, _, rfl, p, C, dx, _, rfl, upd_same, cl, n2, (by show 1 < 1000; decide), k _ ⟨?_, fun b o e hb => ?_⟩⟩
    · rw [upd_same]
      show some (HO.ins C dx (putF "other" x1 (("one", x0) :: []))) = _
      rw [putF_ne (by decide +kernel)]
      rfl
    · rw [upd_ne hb, upd_ne hb]
      exact e
/-- one field -/
def spI1 (C : Addr) (a : Str) : Sp := fun vs H Q _ => ∃ (p dx : Addr) (x0 : V), vs = [.ref p, x0] ∧ H p = some (.ins C dx []) ∧ ∀ H', Ini H p C dx [(a, x0)] H' → Q .non H'
abbrev s_Half_init : Stmt := inClass (top 31) 1
abbrev N_Half_init : List Str := ["self", "inner"]
theorem sc_Half_init : FnScope N_Half_init ["self", "inner"] (defScope s_Half_init) := ⟨rfl, rfl, rfl, by decide +kernel, rfl, by decide +kernel, by decide +kernel⟩
theorem ok_Half_init {f C : Addr} {fd : FuncData} (F : Fun K "__init__" "Half.__init__" s_Half_init f fd) (cl : Cls K C) (n1 : NoAttr K C "inner") : FnOk P w K mg base CX0 1 f fd ["self", "inner"] (spI1 C "inner") := by
  refine F.ok sc_Half_init (fun vs H Q E h => ?_) (fun cdv A outer s H vs Q E hr h => ?_)
  · obtain ⟨p, dx, x0, rfl, _⟩ := h
    rfl
  · obtain ⟨p, dx, x0, rfl, hp, k⟩ := h
    refine ⟨_, (pss_one (ps_fld (pv 0) (pv 1) rfl)), ?_⟩
    refine ⟨_, rfl, _, rfl, p, C, dx, _, rfl, hp, cl, n1, (by show 0 < 1000; decide), k _ ⟨upd_same, fun b o e hb => ?_⟩⟩
    rw [upd_ne hb]
    exact e
abbrev s_Over_init : Stmt := inClass (top 32) 2
abbrev N_Over_init : List Str := ["self", "top", "bottom"]
theorem sc_Over_init : FnScope N_Over_init ["self", "top", "bottom"] (defScope s_Over_init) := ⟨rfl, rfl, rfl, by decide +kernel, rfl, by decide +kernel, by decide +kernel⟩
theorem ok_Over_init {f C : Addr} {fd : FuncData} (F : Fun K "__init__" "Over.__init__" s_Over_init f fd) (cl : Cls K C) (n1 : NoAttr K C "top") (n2 : NoAttr K C "bottom") : FnOk P w K mg base CX0 1 f fd ["self", "top", "bottom"] (spI2 C "top" "bottom") := by
  refine F.ok sc_Over_init (fun vs H Q E h => ?_) (fun cdv A outer s H vs Q E hr h => ?_)
  · obtain ⟨p, dx, x0, x1, rfl, _⟩ := h
    rfl
  · obtain ⟨p, dx, x0, x1, rfl, hp, k⟩ := h
    refine ⟨_, (pss_cons (ps_fld (pv 0) (pv 1) rfl)
    (pss_one (ps_fld (pv 0) (pv 2) rfl))), ?_⟩
    refine ⟨_, rfl, _, rfl, p, C, dx, _, rfl, hp, cl, n1, (by show 0 < 1000; decide), _, rfl, _, rfl, p, C, dx, _, rfl, upd_same, cl, n2, (by show 1 < 1000; decide), k _ ⟨?_, fun b o e hb => ?_⟩⟩
    · rw [upd_same]
      show some (HO.ins C dx (putF "bottom" x1 (("top", x0) :: []))) = _
      rw [putF_ne (by decide +kernel)]
      rfl
    · rw [upd_ne hb, upd_ne hb]
      exact e
abbrev s_Raised_init : Stmt := inClass (top 34) 1
abbrev N_Raised_init : List Str := ["self", "base", "exponent"]
theorem sc_Raised_init : FnScope N_Raised_init ["self", "base", "exponent"] (defScope s_Raised_init) := ⟨rfl, rfl, rfl, by decide +kernel, rfl, by decide +kernel, by decide +kernel⟩
theorem ok_Raised_init {f C : Addr} {fd : FuncData} (F : Fun K "__init__" "Raised.__init__" s_Raised_init f fd) (cl : Cls K C) (n1 : NoAttr K C "base") (n2 : NoAttr K C "exponent") : FnOk P w K mg base CX0 1 f fd ["self", "base", "exponent"] (spI2 C "base" "exponent") := by
  refine F.ok sc_Raised_init (fun vs H Q E h => ?_) (fun cdv A outer s H vs Q E hr h => ?_)
  · obtain ⟨p, dx, x0, x1, rfl, _⟩ := h
    rfl
  · obtain ⟨p, dx, x0, x1, rfl, hp, k⟩ := h
    refine ⟨_, (pss_cons (ps_fld (pv 0) (pv 1) rfl)
    (pss_one (ps_fld (pv 0) (pv 2) rfl))), ?_⟩
    refine ⟨_, rfl, _, rfl, p, C, dx, _, rfl, hp, cl, n1, (by show 0 < 1000; decide), _, rfl, _, rfl, p, C, dx, _, rfl, upd_same, cl, n2, (by show 1 < 1000; decide), k _ ⟨?_, fun b o e hb => ?_⟩⟩
    · rw [upd_same]
      show some (HO.ins C dx (putF "exponent" x1 (("base", x0) :: []))) = _
      rw [putF_ne (by decide +kernel)]
      rfl
    · rw [upd_ne hb, upd_ne hb]
      exact e
end
end My

set_option Elab.async false
set_option linter.all false
set_option maxRecDepth 100000
set_option maxHeartbeats 1000000
namespace My
open PySem L2 MyR

theorem bnot_t {b : Bool} (h : (!b) = true) : b = false := by cases b <;> simp_all
theorem bnot_f {b : Bool} (h : ¬ (!b) = true) : b = true := by cases b <;> simp_all
def okN (v : V) : Bool := btw v (-18446744073709551615) 18446744073709551615
def okCh (m r : V) : Bool := match m with
  | .int i => ([2, 4, 8, 16, 32, 64] : List Int).contains i && btw r 0 (i - 1)
  | _ => false
theorem in_moduli (i : Int) : inV (.int i) (([2, 4, 8, 16, 32, 64] : List Int).map V.int) = ([2, 4, 8, 16, 32, 64] : List Int).contains i := by
  unfold inV
  rw [List.any_map]
  generalize ([2, 4, 8, 16, 32, 64] : List Int) = ks
  induction ks with
  | nil => rfl
  | cons k ks ih =>
    rw [List.any_cons, List.contains_cons, ih]
    congr 1
    show (k == i) = (i == k)
    exact Bool.beq_comm
/-- a constructor that checks: ok of the values that it is given, the fields that it makes of them -/
def spCk (C cI : Addr) (n : Nat) (arg : List V → Hp → Prop) (ok : List V → Bool) (fs : List V → List (Str × V)) : Sp := fun vs H Q E => ∃ (p dx : Addr) (xs : List V), vs = .ref p :: xs ∧ xs.length = n ∧ H p = some (.ins C dx []) ∧ arg xs H ∧
  (ok xs = true → ∀ H1 H', Same H H1 → Ini H1 p C dx (fs xs) H' → Q .non H') ∧ (ok xs = false → ∀ H', Same H H' → E (.ref cI) none H')
/-- the same of values that are right -/
def spOk (C : Addr) (n : Nat) (arg : List V → Hp → Prop) (ok : List V → Bool) (fs : List V → List (Str × V)) : Sp := fun vs H Q _ => ∃ (p dx : Addr) (xs : List V), vs = .ref p :: xs ∧ xs.length = n ∧ H p = some (.ins C dx []) ∧ arg xs H ∧ ok xs = true ∧
  ∀ H1 H', Same H H1 → Ini H1 p C dx (fs xs) H' → Q .non H'
abbrev a1 : List V → Hp → Prop := fun xs H => ∃ v, xs = [v] ∧ Arg H v
abbrev a2 : List V → Hp → Prop := fun xs H => ∃ b v, xs = [b, v] ∧ Arg H v
abbrev a5 : List V → Hp → Prop := fun xs H => ∃ t m r y n, xs = [t, m, r, y, n] ∧ Arg H m ∧ Arg H r
abbrev oN : List V → Bool := fun xs => match xs with | [v] => okN v | _ => false
abbrev oM : List V → Bool := fun xs => match xs with | [v] => nmV v | _ => false
abbrev oP : List V → Bool := fun xs => match xs with | [_, v] => btw v 0 64 | _ => false
abbrev oC : List V → Bool := fun xs => match xs with | [_, m, r, _, _] => okCh m r | _ => false
abbrev fN : List V → List (Str × V) := fun xs => match xs with | [v] => [("value", v)] | _ => []
abbrev fM : List V → List (Str × V) := fun xs => match xs with | [v] => [("name", v)] | _ => []
abbrev fP : List V → List (Str × V) := fun xs => match xs with | [b, v] => [("base", b), ("times", v)] | _ => []
abbrev fC : List V → List (Str × V) := fun xs => match xs with | [t, m, r, y, n] => [("tested", t), ("modulus", m), ("rest", r), ("yes", y), ("no", n)] | _ => []
section
variable {P : Program} {w : World} {K : PySem.W.Frag} {mg : Str → Option Value} {base : Heap}
abbrev s_Number_init : Stmt := inClass (top 25) 0
abbrev N_Number_init : List Str := ["self", "value"]
theorem sc_Number_init : FnScope N_Number_init ["self", "value"] (defScope s_Number_init) := ⟨rfl, rfl, rfl, by decide +kernel, rfl, by decide +kernel, by decide +kernel⟩
theorem okX_Number_init {f C cI : Addr} {fd : FuncData} (F : Fun K "__init__" "Number.__init__" s_Number_init f fd) (T : Glob mg) (T2 : Tabs K mg) (IV : InvN K mg cI) (cl : Cls K C) (n0 : NoAttr K C "value") (D_is_small : Df P w K mg base 2 "is_small" ["value"] spSmall) : FnOk P w K mg base (L2.CX P w) 3 f fd ["self", "value"] (spCk C cI 1 a1 oN fN) := by
  refine F.okX sc_Number_init (fun vs H Q E h => ?_) (fun cdv A outer s H vs Q E hr h => ?_)
  · obtain ⟨p, dx, xs, rfl, hl, _⟩ := h
    exact congrArg (· + 1) hl
  · obtain ⟨p, dx, xs, rfl, hl, hp, ⟨v, rfl, ha⟩, k, kE⟩ := h
    have hu := hu_of hr
    have nd := sc_Number_init.nd
    have no : ∀ (b : Bool) (H1 : Hp), b = oN [v] → Same H H1 → (!b) = true → E (.ref cI) none H1 := fun b H1 hb sm hz => kE (by rw [← hb]; exact bnot_t hz) H1 sm
    refine ⟨_, (pss_cons (ps_if (pt_not (pt_val (pe_call D_is_small.ok (hr.mono (by decide)) (by rfl) D_is_small.g D_is_small.kp D_is_small.b .nil pass0 (pa_cons (pv 1) pa_nil))))
    (pss_one (ps_raise rfl (takes_of rfl rfl rfl rfl) (pmk_own0 PySem.F.excBase_ValueError IV.x IV.g IV.k (raises_own IV.b IV.t) rfl)))
    pss_nil)
    (pss_one (ps_fld (pv 0) (pv 1) rfl))), ?_⟩
    refine ⟨_, rfl, v, rfl, ha, _, rfl, ?_⟩
    refine ite2 (fun hz => no _ H rfl (Same.refl H) hz) (fun hz => ?_)
    have hv := bnot_f hz
    exact ⟨_, rfl, _, rfl, p, C, dx, _, rfl, hp, cl, n0, (by show 0 < 1000; decide), k hv H _ (Same.refl H) ⟨upd_same, fun b o e hb => by rw [upd_ne hb]; exact e⟩⟩

theorem ok_Number_init {f C cI : Addr} {fd : FuncData} (F : Fun K "__init__" "Number.__init__" s_Number_init f fd) (T : Glob mg) (T2 : Tabs K mg) (cl : Cls K C) (n0 : NoAttr K C "value") (D_is_small : Df P w K mg base 2 "is_small" ["value"] spSmall) : FnOk P w K mg base CX0 3 f fd ["self", "value"] (spOk C 1 a1 oN fN) := by
  refine F.ok sc_Number_init (fun vs H Q E h => ?_) (fun cdv A outer s H vs Q E hr h => ?_)
  · obtain ⟨p, dx, xs, rfl, hl, _⟩ := h
    exact congrArg (· + 1) hl
  · obtain ⟨p, dx, xs, rfl, hl, hp, ⟨v, rfl, ha⟩, hok, k⟩ := h
    have hu := hu_of hr
    have nd := sc_Number_init.nd
    have no : ∀ (b : Bool) (H1 : Hp), b = oN [v] → Same H H1 → (!b) = true → False := fun b H1 hb sm hz => by rw [hb, hok] at hz; cases hz
    refine ⟨_, (pss_cons (ps_if (pt_not (pt_val (pe_call D_is_small.ok (hr.mono (by decide)) (by rfl) D_is_small.g D_is_small.kp D_is_small.b .nil pass0 (pa_cons (pv 1) pa_nil))))
    (pss_one ps_never)
    pss_nil)
    (pss_one (ps_fld (pv 0) (pv 1) rfl))), ?_⟩
    refine ⟨_, rfl, v, rfl, ha, _, rfl, ?_⟩
    refine ite2 (fun hz => no _ H rfl (Same.refl H) hz) (fun hz => ?_)
    have hv := bnot_f hz
    exact ⟨_, rfl, _, rfl, p, C, dx, _, rfl, hp, cl, n0, (by show 0 < 1000; decide), k H _ (Same.refl H) ⟨upd_same, fun b o e hb => by rw [upd_ne hb]; exact e⟩⟩

abbrev s_Name_init : Stmt := inClass (top 26) 0
abbrev N_Name_init : List Str := ["self", "name"]
theorem sc_Name_init : FnScope N_Name_init ["self", "name"] (defScope s_Name_init) := ⟨rfl, rfl, rfl, by decide +kernel, rfl, by decide +kernel, by decide +kernel⟩
theorem okX_Name_init {f C cI : Addr} {fd : FuncData} (F : Fun K "__init__" "Name.__init__" s_Name_init f fd) (T : Glob mg) (T2 : Tabs K mg) (IV : InvN K mg cI) (cl : Cls K C) (n0 : NoAttr K C "name") (D_is_name : Df P w K mg base 1 "is_name" ["value"] spIsName) : FnOk P w K mg base (L2.CX P w) 2 f fd ["self", "name"] (spCk C cI 1 a1 oM fM) := by
  refine F.okX sc_Name_init (fun vs H Q E h => ?_) (fun cdv A outer s H vs Q E hr h => ?_)
  · obtain ⟨p, dx, xs, rfl, hl, _⟩ := h
    exact congrArg (· + 1) hl
  · obtain ⟨p, dx, xs, rfl, hl, hp, ⟨v, rfl, ha⟩, k, kE⟩ := h
    have hu := hu_of hr
    have nd := sc_Name_init.nd
    have no : ∀ (b : Bool) (H1 : Hp), b = oM [v] → Same H H1 → (!b) = true → E (.ref cI) none H1 := fun b H1 hb sm hz => kE (by rw [← hb]; exact bnot_t hz) H1 sm
    refine ⟨_, (pss_cons (ps_if (pt_not (pt_val (pe_call D_is_name.ok (hr.mono (by decide)) (by rfl) D_is_name.g D_is_name.kp D_is_name.b .nil pass0 (pa_cons (pv 1) pa_nil))))
    (pss_one (ps_raise rfl (takes_of rfl rfl rfl rfl) (pmk_own0 PySem.F.excBase_ValueError IV.x IV.g IV.k (raises_own IV.b IV.t) rfl)))
    pss_nil)
    (pss_one (ps_fld (pv 0) (pv 1) rfl))), ?_⟩
    refine ⟨_, rfl, v, rfl, ha, fun H1 sm => ⟨_, rfl, ?_⟩⟩
    refine ite2 (fun hz => no _ H1 rfl sm hz) (fun hz => ?_)
    have hv := bnot_f hz
    exact ⟨_, rfl, _, rfl, p, C, dx, _, rfl, sm _ _ hp, cl, n0, (by show 0 < 1000; decide), k hv H1 _ sm ⟨upd_same, fun b o e hb => by rw [upd_ne hb]; exact e⟩⟩

theorem ok_Name_init {f C cI : Addr} {fd : FuncData} (F : Fun K "__init__" "Name.__init__" s_Name_init f fd) (T : Glob mg) (T2 : Tabs K mg) (cl : Cls K C) (n0 : NoAttr K C "name") (D_is_name : Df P w K mg base 1 "is_name" ["value"] spIsName) : FnOk P w K mg base CX0 2 f fd ["self", "name"] (spOk C 1 a1 oM fM) := by
  refine F.ok sc_Name_init (fun vs H Q E h => ?_) (fun cdv A outer s H vs Q E hr h => ?_)
  · obtain ⟨p, dx, xs, rfl, hl, _⟩ := h
    exact congrArg (· + 1) hl
  · obtain ⟨p, dx, xs, rfl, hl, hp, ⟨v, rfl, ha⟩, hok, k⟩ := h
    have hu := hu_of hr
    have nd := sc_Name_init.nd
    have no : ∀ (b : Bool) (H1 : Hp), b = oM [v] → Same H H1 → (!b) = true → False := fun b H1 hb sm hz => by rw [hb, hok] at hz; cases hz
    refine ⟨_, (pss_cons (ps_if (pt_not (pt_val (pe_call D_is_name.ok (hr.mono (by decide)) (by rfl) D_is_name.g D_is_name.kp D_is_name.b .nil pass0 (pa_cons (pv 1) pa_nil))))
    (pss_one ps_never)
    pss_nil)
    (pss_one (ps_fld (pv 0) (pv 1) rfl))), ?_⟩
    refine ⟨_, rfl, v, rfl, ha, fun H1 sm => ⟨_, rfl, ?_⟩⟩
    refine ite2 (fun hz => no _ H1 rfl sm hz) (fun hz => ?_)
    have hv := bnot_f hz
    exact ⟨_, rfl, _, rfl, p, C, dx, _, rfl, sm _ _ hp, cl, n0, (by show 0 < 1000; decide), k H1 _ sm ⟨upd_same, fun b o e hb => by rw [upd_ne hb]; exact e⟩⟩

abbrev s_Power_init : Stmt := inClass (top 33) 1
abbrev N_Power_init : List Str := ["self", "base", "times"]
theorem sc_Power_init : FnScope N_Power_init ["self", "base", "times"] (defScope s_Power_init) := ⟨rfl, rfl, rfl, by decide +kernel, rfl, by decide +kernel, by decide +kernel⟩
theorem okX_Power_init {f C cI : Addr} {fd : FuncData} (F : Fun K "__init__" "Power.__init__" s_Power_init f fd) (T : Glob mg) (T2 : Tabs K mg) (IV : InvN K mg cI) (cl : Cls K C) (n0 : NoAttr K C "base") (n1 : NoAttr K C "times") (D_is_between : Df P w K mg base 2 "is_between" ["value", "least", "most"] spBtw) : FnOk P w K mg base (L2.CX P w) 3 f fd ["self", "base", "times"] (spCk C cI 2 a2 oP fP) := by
  obtain ⟨tT, hT⟩ := T2.times
  refine F.okX sc_Power_init (fun vs H Q E h => ?_) (fun cdv A outer s H vs Q E hr h => ?_)
  · obtain ⟨p, dx, xs, rfl, hl, _⟩ := h
    exact congrArg (· + 1) hl
  · obtain ⟨p, dx, xs, rfl, hl, hp, ⟨x, v, rfl, ha⟩, k, kE⟩ := h
    have hu := hu_of hr
    have nd := sc_Power_init.nd
    have no : ∀ (b : Bool) (H1 : Hp), b = oP [x, v] → Same H H1 → (!b) = true → E (.ref cI) none H1 := fun b H1 hb sm hz => kE (by rw [← hb]; exact bnot_t hz) H1 sm
    refine ⟨_, (pss_cons (ps_if (pt_not (pt_val (pe_call D_is_between.ok (hr.mono (by decide)) (by rfl) D_is_between.g D_is_between.kp D_is_between.b .nil pass0 (pa_cons (pv 2) (pa_cons pe_int (pa_cons (pe_glob (v := .int 64) rfl hT ⟨_, rfl⟩) pa_nil))))))
    (pss_one (ps_raise rfl (takes_of rfl rfl rfl rfl) (pmk_own0 PySem.F.excBase_ValueError IV.x IV.g IV.k (raises_own IV.b IV.t) rfl)))
    pss_nil)
    (pss_cons (ps_fld (pv 0) (pv 1) rfl)
    (pss_one (ps_fld (pv 0) (pv 2) rfl)))), ?_⟩
    refine ⟨_, rfl, v, 0, 64, rfl, ha, _, rfl, ?_⟩
    refine ite2 (fun hz => no _ H rfl (Same.refl H) hz) (fun hz => ?_)
    have hv := bnot_f hz
    refine ⟨_, rfl, _, rfl, p, C, dx, _, rfl, hp, cl, n0, (by show 0 < 1000; decide), ?_⟩
    refine ⟨_, rfl, _, rfl, p, C, dx, _, rfl, upd_same, cl, n1, (by show 1 < 1000; decide), k hv H _ (Same.refl H) ⟨?_, fun b o e hb => by rw [upd_ne hb, upd_ne hb]; exact e⟩⟩
    rw [upd_same]
    show some (HO.ins C dx (putF "times" v (("base", x) :: []))) = _
    rw [putF_ne (by decide +kernel)]
    rfl

theorem ok_Power_init {f C cI : Addr} {fd : FuncData} (F : Fun K "__init__" "Power.__init__" s_Power_init f fd) (T : Glob mg) (T2 : Tabs K mg) (cl : Cls K C) (n0 : NoAttr K C "base") (n1 : NoAttr K C "times") (D_is_between : Df P w K mg base 2 "is_between" ["value", "least", "most"] spBtw) : FnOk P w K mg base CX0 3 f fd ["self", "base", "times"] (spOk C 2 a2 oP fP) := by
  obtain ⟨tT, hT⟩ := T2.times
  refine F.ok sc_Power_init (fun vs H Q E h => ?_) (fun cdv A outer s H vs Q E hr h => ?_)
  · obtain ⟨p, dx, xs, rfl, hl, _⟩ := h
    exact congrArg (· + 1) hl
  · obtain ⟨p, dx, xs, rfl, hl, hp, ⟨x, v, rfl, ha⟩, hok, k⟩ := h
    have hu := hu_of hr
    have nd := sc_Power_init.nd
    have no : ∀ (b : Bool) (H1 : Hp), b = oP [x, v] → Same H H1 → (!b) = true → False := fun b H1 hb sm hz => by rw [hb, hok] at hz; cases hz
    refine ⟨_, (pss_cons (ps_if (pt_not (pt_val (pe_call D_is_between.ok (hr.mono (by decide)) (by rfl) D_is_between.g D_is_between.kp D_is_between.b .nil pass0 (pa_cons (pv 2) (pa_cons pe_int (pa_cons (pe_glob (v := .int 64) rfl hT ⟨_, rfl⟩) pa_nil))))))
    (pss_one ps_never)
    pss_nil)
    (pss_cons (ps_fld (pv 0) (pv 1) rfl)
    (pss_one (ps_fld (pv 0) (pv 2) rfl)))), ?_⟩
    refine ⟨_, rfl, v, 0, 64, rfl, ha, _, rfl, ?_⟩
    refine ite2 (fun hz => no _ H rfl (Same.refl H) hz) (fun hz => ?_)
    have hv := bnot_f hz
    refine ⟨_, rfl, _, rfl, p, C, dx, _, rfl, hp, cl, n0, (by show 0 < 1000; decide), ?_⟩
    refine ⟨_, rfl, _, rfl, p, C, dx, _, rfl, upd_same, cl, n1, (by show 1 < 1000; decide), k H _ (Same.refl H) ⟨?_, fun b o e hb => by rw [upd_ne hb, upd_ne hb]; exact e⟩⟩
    rw [upd_same]
    show some (HO.ins C dx (putF "times" v (("base", x) :: []))) = _
    rw [putF_ne (by decide +kernel)]
    rfl

abbrev s_Choose_init : Stmt := inClass (top 35) 0
abbrev N_Choose_init : List Str := ["self", "tested", "modulus", "rest", "yes", "no"]
theorem sc_Choose_init : FnScope N_Choose_init ["self", "tested", "modulus", "rest", "yes", "no"] (defScope s_Choose_init) := ⟨rfl, rfl, rfl, by decide +kernel, rfl, by decide +kernel, by decide +kernel⟩
theorem okX_Choose_init {f C cI : Addr} {fd : FuncData} (F : Fun K "__init__" "Choose.__init__" s_Choose_init f fd) (T : Glob mg) (T2 : Tabs K mg) (IV : InvN K mg cI) (cl : Cls K C) (n0 : NoAttr K C "tested") (n1 : NoAttr K C "modulus") (n2 : NoAttr K C "rest") (n3 : NoAttr K C "yes") (n4 : NoAttr K C "no") (D_is_integer : Df P w K mg base 1 "is_integer" ["value"] spIsInt) (D_is_between : Df P w K mg base 2 "is_between" ["value", "least", "most"] spBtw) : FnOk P w K mg base (L2.CX P w) 3 f fd ["self", "tested", "modulus", "rest", "yes", "no"] (spCk C cI 5 a5 oC fC) := by
  obtain ⟨aM, hM, hMs⟩ := T2.moduli
  refine F.okX sc_Choose_init (fun vs H Q E h => ?_) (fun cdv A outer s H vs Q E hr h => ?_)
  · obtain ⟨p, dx, xs, rfl, hl, _⟩ := h
    exact congrArg (· + 1) hl
  · obtain ⟨p, dx, xs, rfl, hl, hp, ⟨x, m, r, y, z, rfl, ha, hb⟩, k, kE⟩ := h
    have hu := hu_of hr
    have nd := sc_Choose_init.nd
    have no : ∀ (b : Bool) (H1 : Hp), b = oC [x, m, r, y, z] → Same H H1 → (!b) = true → E (.ref cI) none H1 := fun b H1 hb sm hz => kE (by rw [← hb]; exact bnot_t hz) H1 sm
    refine ⟨_, (pss_cons (ps_if (PW.pt (pw_or (pt_not (pt_val (pe_call D_is_integer.ok (hr.mono (by decide)) (by rfl) D_is_integer.g D_is_integer.kp D_is_integer.b .nil pass0 (pa_cons (pv 2) pa_nil)))) (pw_or (pt_cmpR op_notIn_seq (pv 2) (pe_glob (v := .ref aM) rfl hM rfl) (by rfl)) (pw_or1 (pt_not (pt_val (pe_call D_is_between.ok (hr.mono (by decide)) (by rfl) D_is_between.g D_is_between.kp D_is_between.b .nil pass0 (pa_cons (pv 3) (pa_cons pe_int (pa_cons (pe_op op_sub (pv 2) pe_int) pa_nil))))))))))
    (pss_one (ps_raise rfl (takes_of rfl rfl rfl rfl) (pmk_own0 PySem.F.excBase_ValueError IV.x IV.g IV.k (raises_own IV.b IV.t) rfl)))
    pss_nil)
    (pss_cons (ps_fld (pv 0) (pv 1) rfl)
    (pss_cons (ps_fld (pv 0) (pv 2) rfl)
    (pss_cons (ps_fld (pv 0) (pv 3) rfl)
    (pss_cons (ps_fld (pv 0) (pv 4) rfl)
    (pss_one (ps_fld (pv 0) (pv 5) rfl))))))), ?_⟩
    refine ⟨_, rfl, m, rfl, ha, _, rfl, ?_⟩
    cases ha with
    | non => exact no _ H rfl (Same.refl H) rfl
    | bl b => exact no _ H rfl (Same.refl H) rfl
    | str q hq => exact no _ H rfl (Same.refl H) rfl
    | tup e => exact no _ H rfl (Same.refl H) rfl
    | int i =>
      refine ⟨_, rfl, aM, _, rfl, .inr (hMs H), rfl, by decide +kernel, _, rfl, ?_⟩
      have ei := in_moduli i
      refine ite2 (fun hz => ?_) (fun hz => ?_)
      · have hz2 : (!inV (.int i) (([2, 4, 8, 16, 32, 64] : List Int).map V.int)) = true := hz
        rw [ei] at hz2
        refine no false H ?_ (Same.refl H) rfl
        show false = (([2, 4, 8, 16, 32, 64] : List Int).contains i && btw r 0 (i - 1))
        rw [bnot_t hz2, Bool.false_and]
      · have hz2 : ¬ (!inV (.int i) (([2, 4, 8, 16, 32, 64] : List Int).map V.int)) = true := hz
        rw [ei] at hz2
        have hi := bnot_f hz2
        refine ⟨_, rfl, _, rfl, _, _, rfl, rfl, r, 0, i - 1, rfl, hb, _, rfl, ?_⟩
        refine ite2 (fun hz => ?_) (fun hz => ?_)
        · refine no (btw r 0 (i - 1)) H ?_ (Same.refl H) hz
          show btw r 0 (i - 1) = (([2, 4, 8, 16, 32, 64] : List Int).contains i && btw r 0 (i - 1))
          rw [hi, Bool.true_and]
        have hv : oC [x, .int i, r, y, z] = true := by
          show (([2, 4, 8, 16, 32, 64] : List Int).contains i && btw r 0 (i - 1)) = true
          rw [hi, bnot_f hz]
          rfl
        refine ⟨_, rfl, _, rfl, p, C, dx, _, rfl, hp, cl, n0, (by show 0 < 1000; decide), ?_⟩
        refine ⟨_, rfl, _, rfl, p, C, dx, _, rfl, upd_same, cl, n1, (by show 1 < 1000; decide), ?_⟩
        have e2 : putF "modulus" (.int i) (putF "tested" x []) = ([("tested", x), ("modulus", .int i)] : List (Str × V)) := by
          show putF "modulus" (.int i) (("tested", x) :: []) = _
          rw [putF_ne (by decide +kernel)]
          rfl
        refine ⟨_, rfl, _, rfl, p, C, dx, _, rfl, upd_same, cl, n2, by rw [e2]; show 2 < 1000; decide, ?_⟩
        rw [e2]
        have e3 : putF "rest" r [("tested", x), ("modulus", .int i)] = ([("tested", x), ("modulus", .int i), ("rest", r)] : List (Str × V)) := by
          rw [putF_ne (by decide +kernel), putF_ne (by decide +kernel)]
          rfl
        refine ⟨_, rfl, _, rfl, p, C, dx, _, rfl, upd_same, cl, n3, by rw [e3]; show 3 < 1000; decide, ?_⟩
        rw [e3]
        have e4 : putF "yes" y [("tested", x), ("modulus", .int i), ("rest", r)] = ([("tested", x), ("modulus", .int i), ("rest", r), ("yes", y)] : List (Str × V)) := by
          rw [putF_ne (by decide +kernel), putF_ne (by decide +kernel), putF_ne (by decide +kernel)]
          rfl
        refine ⟨_, rfl, _, rfl, p, C, dx, _, rfl, upd_same, cl, n4, by rw [e4]; show 4 < 1000; decide, ?_⟩
        rw [e4]
        have e5 : putF "no" z [("tested", x), ("modulus", .int i), ("rest", r), ("yes", y)] = ([("tested", x), ("modulus", .int i), ("rest", r), ("yes", y), ("no", z)] : List (Str × V)) := by
          rw [putF_ne (by decide +kernel), putF_ne (by decide +kernel), putF_ne (by decide +kernel), putF_ne (by decide +kernel)]
          rfl
        rw [e5]
        exact k hv H _ (Same.refl H) ⟨upd_same, fun b o e hb => by rw [upd_ne hb, upd_ne hb, upd_ne hb, upd_ne hb, upd_ne hb]; exact e⟩

theorem ok_Choose_init {f C cI : Addr} {fd : FuncData} (F : Fun K "__init__" "Choose.__init__" s_Choose_init f fd) (T : Glob mg) (T2 : Tabs K mg) (cl : Cls K C) (n0 : NoAttr K C "tested") (n1 : NoAttr K C "modulus") (n2 : NoAttr K C "rest") (n3 : NoAttr K C "yes") (n4 : NoAttr K C "no") (D_is_integer : Df P w K mg base 1 "is_integer" ["value"] spIsInt) (D_is_between : Df P w K mg base 2 "is_between" ["value", "least", "most"] spBtw) : FnOk P w K mg base CX0 3 f fd ["self", "tested", "modulus", "rest", "yes", "no"] (spOk C 5 a5 oC fC) := by
  obtain ⟨aM, hM, hMs⟩ := T2.moduli
  refine F.ok sc_Choose_init (fun vs H Q E h => ?_) (fun cdv A outer s H vs Q E hr h => ?_)
  · obtain ⟨p, dx, xs, rfl, hl, _⟩ := h
    exact congrArg (· + 1) hl
  · obtain ⟨p, dx, xs, rfl, hl, hp, ⟨x, m, r, y, z, rfl, ha, hb⟩, hok, k⟩ := h
    have hu := hu_of hr
    have nd := sc_Choose_init.nd
    have no : ∀ (b : Bool) (H1 : Hp), b = oC [x, m, r, y, z] → Same H H1 → (!b) = true → False := fun b H1 hb sm hz => by rw [hb, hok] at hz; cases hz
    refine ⟨_, (pss_cons (ps_if (PW.pt (pw_or (pt_not (pt_val (pe_call D_is_integer.ok (hr.mono (by decide)) (by rfl) D_is_integer.g D_is_integer.kp D_is_integer.b .nil pass0 (pa_cons (pv 2) pa_nil)))) (pw_or (pt_cmpR op_notIn_seq (pv 2) (pe_glob (v := .ref aM) rfl hM rfl) (by rfl)) (pw_or1 (pt_not (pt_val (pe_call D_is_between.ok (hr.mono (by decide)) (by rfl) D_is_between.g D_is_between.kp D_is_between.b .nil pass0 (pa_cons (pv 3) (pa_cons pe_int (pa_cons (pe_op op_sub (pv 2) pe_int) pa_nil))))))))))
    (pss_one ps_never)
    pss_nil)
    (pss_cons (ps_fld (pv 0) (pv 1) rfl)
    (pss_cons (ps_fld (pv 0) (pv 2) rfl)
    (pss_cons (ps_fld (pv 0) (pv 3) rfl)
    (pss_cons (ps_fld (pv 0) (pv 4) rfl)
    (pss_one (ps_fld (pv 0) (pv 5) rfl))))))), ?_⟩
    refine ⟨_, rfl, m, rfl, ha, _, rfl, ?_⟩
    cases ha with
    | non => exact no _ H rfl (Same.refl H) rfl
    | bl b => exact no _ H rfl (Same.refl H) rfl
    | str q hq => exact no _ H rfl (Same.refl H) rfl
    | tup e => exact no _ H rfl (Same.refl H) rfl
    | int i =>
      refine ⟨_, rfl, aM, _, rfl, .inr (hMs H), rfl, by decide +kernel, _, rfl, ?_⟩
      have ei := in_moduli i
      refine ite2 (fun hz => ?_) (fun hz => ?_)
      · have hz2 : (!inV (.int i) (([2, 4, 8, 16, 32, 64] : List Int).map V.int)) = true := hz
        rw [ei] at hz2
        refine no false H ?_ (Same.refl H) rfl
        show false = (([2, 4, 8, 16, 32, 64] : List Int).contains i && btw r 0 (i - 1))
        rw [bnot_t hz2, Bool.false_and]
      · have hz2 : ¬ (!inV (.int i) (([2, 4, 8, 16, 32, 64] : List Int).map V.int)) = true := hz
        rw [ei] at hz2
        have hi := bnot_f hz2
        refine ⟨_, rfl, _, rfl, _, _, rfl, rfl, r, 0, i - 1, rfl, hb, _, rfl, ?_⟩
        refine ite2 (fun hz => ?_) (fun hz => ?_)
        · refine no (btw r 0 (i - 1)) H ?_ (Same.refl H) hz
          show btw r 0 (i - 1) = (([2, 4, 8, 16, 32, 64] : List Int).contains i && btw r 0 (i - 1))
          rw [hi, Bool.true_and]
        have hv : oC [x, .int i, r, y, z] = true := by
          show (([2, 4, 8, 16, 32, 64] : List Int).contains i && btw r 0 (i - 1)) = true
          rw [hi, bnot_f hz]
          rfl
        refine ⟨_, rfl, _, rfl, p, C, dx, _, rfl, hp, cl, n0, (by show 0 < 1000; decide), ?_⟩
        refine ⟨_, rfl, _, rfl, p, C, dx, _, rfl, upd_same, cl, n1, (by show 1 < 1000; decide), ?_⟩
        have e2 : putF "modulus" (.int i) (putF "tested" x []) = ([("tested", x), ("modulus", .int i)] : List (Str × V)) := by
          show putF "modulus" (.int i) (("tested", x) :: []) = _
          rw [putF_ne (by decide +kernel)]
          rfl
        refine ⟨_, rfl, _, rfl, p, C, dx, _, rfl, upd_same, cl, n2, by rw [e2]; show 2 < 1000; decide, ?_⟩
        rw [e2]
        have e3 : putF "rest" r [("tested", x), ("modulus", .int i)] = ([("tested", x), ("modulus", .int i), ("rest", r)] : List (Str × V)) := by
          rw [putF_ne (by decide +kernel), putF_ne (by decide +kernel)]
          rfl
        refine ⟨_, rfl, _, rfl, p, C, dx, _, rfl, upd_same, cl, n3, by rw [e3]; show 3 < 1000; decide, ?_⟩
        rw [e3]
        have e4 : putF "yes" y [("tested", x), ("modulus", .int i), ("rest", r)] = ([("tested", x), ("modulus", .int i), ("rest", r), ("yes", y)] : List (Str × V)) := by
          rw [putF_ne (by decide +kernel), putF_ne (by decide +kernel), putF_ne (by decide +kernel)]
          rfl
        refine ⟨_, rfl, _, rfl, p, C, dx, _, rfl, upd_same, cl, n4, by rw [e4]; show 4 < 1000; decide, ?_⟩
        rw [e4]
        have e5 : putF "no" z [("tested", x), ("modulus", .int i), ("rest", r), ("yes", y)] = ([("tested", x), ("modulus", .int i), ("rest", r), ("yes", y), ("no", z)] : List (Str × V)) := by
          rw [putF_ne (by decide +kernel), putF_ne (by decide +kernel), putF_ne (by decide +kernel), putF_ne (by decide +kernel)]
          rfl
        rw [e5]
        exact k H _ (Same.refl H) ⟨upd_same, fun b o e hb => by rw [upd_ne hb, upd_ne hb, upd_ne hb, upd_ne hb, upd_ne hb]; exact e⟩

end
end My

set_option Elab.async false
set_option linter.all false
set_option maxRecDepth 100000
set_option maxHeartbeats 1000000
namespace My
open PySem L2 MyR

/-- Call: of a list of arguments; the fields are the name and a new tuple -/
def spCallX (K : PySem.W.Frag) (C cI : Addr) : Sp := fun vs H Q E => ∃ (p dx a : Addr) (v : V) (xs : List V), vs = [.ref p, v, .ref a] ∧ H p = some (.ins C dx []) ∧ Arg H v ∧ SqL K H a xs ∧ xs.length ≤ 100 ∧
  ((nmV v && !xs.isEmpty) = true → ∀ (t : Addr) H1 H', Same H H1 → H' t = some (.tup xs) → Ini H1 p C dx [("name", v), ("arguments", .ref t)] H' → Q .non H') ∧ ((nmV v && !xs.isEmpty) = false → ∀ H', Same H H' → E (.ref cI) none H')
def spCall (K : PySem.W.Frag) (C : Addr) : Sp := fun vs H Q _ => ∃ (p dx a : Addr) (v : V) (xs : List V), vs = [.ref p, v, .ref a] ∧ H p = some (.ins C dx []) ∧ Arg H v ∧ SqL K H a xs ∧ xs.length ≤ 100 ∧ (nmV v && !xs.isEmpty) = true ∧
  ∀ (t : Addr) H1 H', Same H H1 → H' t = some (.tup xs) → Ini H1 p C dx [("name", v), ("arguments", .ref t)] H' → Q .non H'
section
variable {P : Program} {w : World} {K : PySem.W.Frag} {mg : Str → Option Value} {base : Heap}
abbrev s_Call_init : Stmt := inClass (top 36) 0
abbrev N_Call_init : List Str := ["self", "name", "arguments"]
theorem sc_Call_init : FnScope N_Call_init ["self", "name", "arguments"] (defScope s_Call_init) := ⟨rfl, rfl, rfl, by decide +kernel, rfl, by decide +kernel, by decide +kernel⟩
theorem okX_Call_init {f C cI : Addr} {fd : FuncData} (F : Fun K "__init__" "Call.__init__" s_Call_init f fd) (T : Glob mg) (IV : InvN K mg cI) (cl : Cls K C) (n0 : NoAttr K C "name") (n1 : NoAttr K C "arguments") (D_is_name : Df P w K mg base 1 "is_name" ["value"] spIsName) : FnOk P w K mg base (L2.CX P w) 2 f fd ["self", "name", "arguments"] (spCallX K C cI) := by
  refine F.okX sc_Call_init (fun vs H Q E h => ?_) (fun cdv A outer s H vs Q E hr h => ?_)
  · obtain ⟨p, dx, a, v, xs, rfl, _⟩ := h
    rfl
  · obtain ⟨p, dx, a, v, xs, rfl, hp, ha, hS, hl, k, kE⟩ := h
    have nd := sc_Call_init.nd
    have no : ∀ (H1 : Hp), Same H H1 → (nmV v && !xs.isEmpty) = false → E (.ref cI) none H1 := fun H1 sm hz => kE hz H1 sm
    refine ⟨_, (pss_cons (ps_if (PW.pt (pw_or (pt_not (pt_val (pe_call D_is_name.ok (hr.mono (by decide)) (by rfl) D_is_name.g D_is_name.kp D_is_name.b .nil pass0 (pa_cons (pv 1) pa_nil)))) (pw_or1 (pt_cmpR op_eq (pe_callB call_len_seq (by rfl) T.g_len PySem.boot_len (pa_cons (pv 2) pa_nil)) pe_int (nomark _)))))
    (pss_one (ps_raise rfl (takes_of rfl rfl rfl rfl) (pmk_own0 PySem.F.excBase_ValueError IV.x IV.g IV.k (raises_own IV.b IV.t) rfl)))
    pss_nil)
    (pss_cons (ps_fld (pv 0) (pv 1) rfl)
    (pss_one (ps_fld (pv 0) (pe_callTy call_tuple_of (by rfl) T.g_tuple (by decide +kernel) (pa_cons (pv 2) pa_nil)) rfl)))), ?_⟩
    refine ⟨_, rfl, v, rfl, ha, fun H1 sm => ⟨_, rfl, ?_⟩⟩
    refine ite2 (fun hz => no H1 sm (by rw [bnot_t hz, Bool.false_and])) (fun hz => ?_)
    have hn := bnot_f hz
    refine ⟨_, rfl, a, _, rfl, .inl (sm.seq hS), rfl, _, rfl, ?_⟩
    refine ite2 (fun hz => no H1 sm ?_) (fun hz => ?_)
    · have := V.int.inj (of_decide_eq_true hz)
      have e : xs = [] := List.length_eq_zero_iff.mp (by omega)
      rw [e, List.isEmpty_nil, Bool.not_true, Bool.and_false]
    have hv : (nmV v && !xs.isEmpty) = true := by
      rw [hn, Bool.true_and]
      cases xs with
      | nil => exact absurd rfl hz
      | cons y ys => rfl
    refine ⟨_, rfl, _, rfl, p, C, dx, _, rfl, sm _ _ hp, cl, n0, (by show 0 < 1000; decide), ?_⟩
    have sm1 : ∀ b o, H1 b = some o → b ≠ p → (upd H1 p (.ins C dx (putF "name" v []))) b = some o := fun b o e hb => by rw [upd_ne hb]; exact e
    have hS1 : SqL K (upd H1 p (.ins C dx (putF "name" v []))) a xs := by
      rcases sm.seq hS with (h | ⟨o, h⟩) | h
      · exact .inl (.inl (sm1 _ _ h (ne_of h (sm _ _ hp) (by intro z; cases z))))
      · exact .inl (.inr ⟨o, sm1 _ _ h (ne_of h (sm _ _ hp) (by intro z; cases z))⟩)
      · exact .inr h
    refine ⟨_, rfl, a, xs, rfl, .inl ⟨hS1, fun t ht => ?_⟩⟩
    have npt : p ≠ t := ne_of_none upd_same ht
    refine ⟨_, rfl, p, C, dx, _, rfl, by rw [upd_ne npt]; exact upd_same, cl, n1, (by show 1 < 1000; decide), k hv t H1 _ sm ?_ ⟨?_, fun b o e hb => ?_⟩⟩
    · rw [upd_ne (Ne.symm npt), upd_same]
    · rw [upd_same]
      show some (HO.ins C dx (putF "arguments" (.ref t) (("name", v) :: []))) = _
      rw [putF_ne (by decide +kernel)]
      rfl
    · rw [upd_ne hb, upd_ne (ne_of_none (sm1 b o e hb) ht)]
      exact sm1 b o e hb
theorem ok_Call_init {f C cI : Addr} {fd : FuncData} (F : Fun K "__init__" "Call.__init__" s_Call_init f fd) (T : Glob mg) (cl : Cls K C) (n0 : NoAttr K C "name") (n1 : NoAttr K C "arguments") (D_is_name : Df P w K mg base 1 "is_name" ["value"] spIsName) : FnOk P w K mg base CX0 2 f fd ["self", "name", "arguments"] (spCall K C) := by
  refine F.ok sc_Call_init (fun vs H Q E h => ?_) (fun cdv A outer s H vs Q E hr h => ?_)
  · obtain ⟨p, dx, a, v, xs, rfl, _⟩ := h
    rfl
  · obtain ⟨p, dx, a, v, xs, rfl, hp, ha, hS, hl, hok, k⟩ := h
    have nd := sc_Call_init.nd
    have no : ∀ (H1 : Hp), Same H H1 → (nmV v && !xs.isEmpty) = false → False := fun H1 sm hz => by rw [hok] at hz; cases hz
    refine ⟨_, (pss_cons (ps_if (PW.pt (pw_or (pt_not (pt_val (pe_call D_is_name.ok (hr.mono (by decide)) (by rfl) D_is_name.g D_is_name.kp D_is_name.b .nil pass0 (pa_cons (pv 1) pa_nil)))) (pw_or1 (pt_cmpR op_eq (pe_callB call_len_seq (by rfl) T.g_len PySem.boot_len (pa_cons (pv 2) pa_nil)) pe_int (nomark _)))))
    (pss_one ps_never)
    pss_nil)
    (pss_cons (ps_fld (pv 0) (pv 1) rfl)
    (pss_one (ps_fld (pv 0) (pe_callTy call_tuple_of (by rfl) T.g_tuple (by decide +kernel) (pa_cons (pv 2) pa_nil)) rfl)))), ?_⟩
    refine ⟨_, rfl, v, rfl, ha, fun H1 sm => ⟨_, rfl, ?_⟩⟩
    refine ite2 (fun hz => no H1 sm (by rw [bnot_t hz, Bool.false_and])) (fun hz => ?_)
    have hn := bnot_f hz
    refine ⟨_, rfl, a, _, rfl, .inl (sm.seq hS), rfl, _, rfl, ?_⟩
    refine ite2 (fun hz => no H1 sm ?_) (fun hz => ?_)
    · have := V.int.inj (of_decide_eq_true hz)
      have e : xs = [] := List.length_eq_zero_iff.mp (by omega)
      rw [e, List.isEmpty_nil, Bool.not_true, Bool.and_false]
    have hv : (nmV v && !xs.isEmpty) = true := by
      rw [hn, Bool.true_and]
      cases xs with
      | nil => exact absurd rfl hz
      | cons y ys => rfl
    refine ⟨_, rfl, _, rfl, p, C, dx, _, rfl, sm _ _ hp, cl, n0, (by show 0 < 1000; decide), ?_⟩
    have sm1 : ∀ b o, H1 b = some o → b ≠ p → (upd H1 p (.ins C dx (putF "name" v []))) b = some o := fun b o e hb => by rw [upd_ne hb]; exact e
    have hS1 : SqL K (upd H1 p (.ins C dx (putF "name" v []))) a xs := by
      rcases sm.seq hS with (h | ⟨o, h⟩) | h
      · exact .inl (.inl (sm1 _ _ h (ne_of h (sm _ _ hp) (by intro z; cases z))))
      · exact .inl (.inr ⟨o, sm1 _ _ h (ne_of h (sm _ _ hp) (by intro z; cases z))⟩)
      · exact .inr h
    refine ⟨_, rfl, a, xs, rfl, .inl ⟨hS1, fun t ht => ?_⟩⟩
    have npt : p ≠ t := ne_of_none upd_same ht
    refine ⟨_, rfl, p, C, dx, _, rfl, by rw [upd_ne npt]; exact upd_same, cl, n1, (by show 1 < 1000; decide), k t H1 _ sm ?_ ⟨?_, fun b o e hb => ?_⟩⟩
    · rw [upd_ne (Ne.symm npt), upd_same]
    · rw [upd_same]
      show some (HO.ins C dx (putF "arguments" (.ref t) (("name", v) :: []))) = _
      rw [putF_ne (by decide +kernel)]
      rfl
    · rw [upd_ne hb, upd_ne (ne_of_none (sm1 b o e hb) ht)]
      exact sm1 b o e hb
end
end My

set_option Elab.async false
set_option linter.all false
set_option maxRecDepth 100000
set_option maxHeartbeats 1000000
namespace My
open PySem L2 MyR

/-! ### nodes in the heap -/
structure CA where
  num : Addr
  nam : Addr
  add : Addr
  sub : Addr
  mul : Addr
  half : Addr
  over : Addr
  pow : Addr
  rai : Addr
  cho : Addr
def CA.bk (c : CA) : Bk → Addr
  | .add => c.add
  | .sub => c.sub
  | .mul => c.mul
  | .over => c.over
  | .rai => c.rai
def CA.of (c : CA) : Tm → Addr
  | .num _ => c.num
  | .nam _ => c.nam
  | .two k _ _ => c.bk k
  | .half _ => c.half
  | .pow _ _ => c.pow
  | .cho _ _ _ _ _ => c.cho
def Bk.f1 : Bk → Str
  | .add => "one"
  | .sub => "one"
  | .mul => "one"
  | .over => "top"
  | .rai => "base"
def Bk.f2 : Bk → Str
  | .add => "other"
  | .sub => "other"
  | .mul => "other"
  | .over => "bottom"
  | .rai => "exponent"
def kids : Tm → List Tm
  | .num _ => []
  | .nam _ => []
  | .two _ a b => [a, b]
  | .half a => [a]
  | .pow a _ => [a]
  | .cho a _ _ b c => [a, b, c]
def NodeAt (c : CA) (H : Hp) : Tm → Addr → Prop
  | .num z, a => ∃ dx, H a = some (.ins c.num dx [("value", .int z)])
  | .nam x, a => ∃ dx, H a = some (.ins c.nam dx [("name", .str (wd x))])
  | .two k x y, a => ∃ dx p q, H a = some (.ins (c.bk k) dx [(k.f1, .ref p), (k.f2, .ref q)]) ∧ NodeAt c H x p ∧ NodeAt c H y q
  | .half x, a => ∃ dx p, H a = some (.ins c.half dx [("inner", .ref p)]) ∧ NodeAt c H x p
  | .pow x n, a => ∃ dx p, H a = some (.ins c.pow dx [("base", .ref p), ("times", .int n)]) ∧ NodeAt c H x p
  | .cho x m r y z, a => ∃ dx p q t, H a = some (.ins c.cho dx [("tested", .ref p), ("modulus", .int m), ("rest", .int r), ("yes", .ref q), ("no", .ref t)]) ∧ NodeAt c H x p ∧ NodeAt c H y q ∧ NodeAt c H z t
theorem NodeAt.map {c : CA} {H H' : Hp} (h : ∀ p C dx fs, H p = some (.ins C dx fs) → H' p = some (.ins C dx fs)) : ∀ {T : Tm} {p : Addr}, NodeAt c H T p → NodeAt c H' T p
  | .num z, p, ⟨dx, e⟩ => ⟨dx, h _ _ _ _ e⟩
  | .nam x, p, ⟨dx, e⟩ => ⟨dx, h _ _ _ _ e⟩
  | .two k a b, p, ⟨dx, q, r, e, ea, eb⟩ => ⟨dx, q, r, h _ _ _ _ e, NodeAt.map h ea, NodeAt.map h eb⟩
  | .half a, p, ⟨dx, q, e, ea⟩ => ⟨dx, q, h _ _ _ _ e, NodeAt.map h ea⟩
  | .pow a n, p, ⟨dx, q, e, ea⟩ => ⟨dx, q, h _ _ _ _ e, NodeAt.map h ea⟩
  | .cho a m r b d, p, ⟨dx, q, s, t, e, ea, eb, ec⟩ => ⟨dx, q, s, t, h _ _ _ _ e, NodeAt.map h ea, NodeAt.map h eb, NodeAt.map h ec⟩
inductive All2 {α β : Type} (R : α → β → Prop) : List α → List β → Prop
  | nil : All2 R [] []
  | cons {x y xs ys} : R x y → All2 R xs ys → All2 R (x :: xs) (y :: ys)
theorem All2.imp {α β : Type} {R S : α → β → Prop} (h : ∀ x y, R x y → S x y) : ∀ {xs : List α} {ys : List β}, All2 R xs ys → All2 S xs ys
  | _, _, .nil => .nil
  | _, _, .cons a b => .cons (h _ _ a) (All2.imp h b)
theorem All2.app {α β : Type} {R : α → β → Prop} : ∀ {xs : List α} {ys : List β} {us : List α} {vs : List β}, All2 R xs ys → All2 R us vs → All2 R (xs ++ us) (ys ++ vs)
  | _, _, _, _, .nil, b => b
  | _, _, _, _, .cons a r, b => .cons a (All2.app r b)
theorem All2.len {α β : Type} {R : α → β → Prop} : ∀ {xs : List α} {ys : List β}, All2 R xs ys → xs.length = ys.length
  | _, _, .nil => rfl
  | _, _, .cons _ r => congrArg (· + 1) r.len
theorem All2.rev {α β : Type} {R : α → β → Prop} : ∀ {xs : List α} {ys : List β}, All2 R xs ys → All2 R xs.reverse ys.reverse
  | _, _, .nil => .nil
  | _, _, .cons a r => by
    rw [List.reverse_cons, List.reverse_cons]
    exact r.rev.app (.cons a .nil)
theorem All2.get {α β : Type} {R : α → β → Prop} : ∀ {xs : List α} {ys : List β} {i : Nat} {y : β}, All2 R xs ys → ys[i]? = some y → ∃ x, xs[i]? = some x ∧ R x y
  | _, _, _, _, .nil, h => by simp at h
  | _, _, 0, _, .cons a r, h => by
    simp at h
    subst h
    exact ⟨_, rfl, a⟩
  | _, _, i + 1, _, .cons a r, h => by
    simp at h
    obtain ⟨x, e, q⟩ := r.get h
    exact ⟨x, by simpa using e, q⟩
/-- the fields of a node -/
def fl : Tm → List Addr → List (Str × V)
  | .num z, _ => [("value", .int z)]
  | .nam x, _ => [("name", .str (wd x))]
  | .two k _ _, [p, q] => [(k.f1, .ref p), (k.f2, .ref q)]
  | .half _, [p] => [("inner", .ref p)]
  | .pow _ n, [p] => [("base", .ref p), ("times", .int n)]
  | .cho _ m r _ _, [p, q, t] => [("tested", .ref p), ("modulus", .int m), ("rest", .int r), ("yes", .ref q), ("no", .ref t)]
  | _, _ => []
def nsN : Tm → List Str
  | .num _ => []
  | .nam _ => []
  | .two k _ _ => [k.f1, k.f2]
  | .half _ => ["inner"]
  | .pow _ _ => ["base"]
  | .cho _ _ _ _ _ => ["tested", "yes", "no"]
def nsP : Tm → List Str
  | .num _ => ["value"]
  | .nam _ => ["name"]
  | .two _ _ _ => []
  | .half _ => []
  | .pow _ _ => ["times"]
  | .cho _ _ _ _ _ => ["modulus", "rest"]
def plV : Tm → List V
  | .num z => [.int z]
  | .nam x => [.str (wd x)]
  | .two _ _ _ => []
  | .half _ => []
  | .pow _ n => [.int n]
  | .cho _ m r _ _ => [.int m, .int r]
theorem lk_eq {f : Str} {v : V} {r : List (Str × V)} : ((f, v) :: r).lookup f = some v := by simp [List.lookup]
theorem lk_ne {f g : Str} {v : V} {r : List (Str × V)} (h : ¬ f = g) : ((g, v) :: r).lookup f = r.lookup f := by
  have : (f == g) = false := by simpa using h
  simp [List.lookup, this]
theorem NodeAt.split {c : CA} {H : Hp} : ∀ {T : Tm} {a : Addr}, NodeAt c H T a → ∃ dx ks, H a = some (.ins (c.of T) dx (fl T ks)) ∧ All2 (NodeAt c H) (kids T) ks ∧
    (nsN T).map (fun n => (fl T ks).lookup n) = ks.map (fun k => some (V.ref k)) ∧ (nsP T).map (fun n => (fl T ks).lookup n) = (plV T).map some
  | .num z, a, ⟨dx, e⟩ => ⟨dx, [], e, .nil, rfl, by
    show [_] = [_]
    exact congrArg (fun x => [x]) lk_eq⟩
  | .nam x, a, ⟨dx, e⟩ => ⟨dx, [], e, .nil, rfl, by
    show [_] = [_]
    exact congrArg (fun x => [x]) lk_eq⟩
  | .two k x y, a, ⟨dx, p, q, e, ea, eb⟩ => ⟨dx, [p, q], e, .cons ea (.cons eb .nil), by
    have h1 : (fl (.two k x y) [p, q]).lookup k.f1 = some (.ref p) := lk_eq
    have h2 : (fl (.two k x y) [p, q]).lookup k.f2 = some (.ref q) := (lk_ne (by cases k <;> decide +kernel)).trans lk_eq
    show [(fl (.two k x y) [p, q]).lookup k.f1, (fl (.two k x y) [p, q]).lookup k.f2] = [some (.ref p), some (.ref q)]
    rw [h1, h2], rfl⟩
  | .half x, a, ⟨dx, p, e, ea⟩ => ⟨dx, [p], e, .cons ea .nil, by
    show [_] = [_]
    exact congrArg (fun x => [x]) lk_eq, rfl⟩
  | .pow x n, a, ⟨dx, p, e, ea⟩ => ⟨dx, [p], e, .cons ea .nil, by
    show [_] = [_]
    exact congrArg (fun x => [x]) lk_eq, by
    show [_] = [_]
    exact congrArg (fun x => [x]) ((lk_ne (by decide +kernel)).trans lk_eq)⟩
  | .cho x m r y z, a, ⟨dx, p, q, t, e, ea, eb, ec⟩ => ⟨dx, [p, q, t], e, .cons ea (.cons eb (.cons ec .nil)), by
    have h1 : (fl (.cho x m r y z) [p, q, t]).lookup ("tested" : Str) = some (.ref p) := lk_eq
    have h2 : (fl (.cho x m r y z) [p, q, t]).lookup ("yes" : Str) = some (.ref q) := (lk_ne (by decide +kernel)).trans ((lk_ne (by decide +kernel)).trans ((lk_ne (by decide +kernel)).trans lk_eq))
    have h3 : (fl (.cho x m r y z) [p, q, t]).lookup ("no" : Str) = some (.ref t) := (lk_ne (by decide +kernel)).trans ((lk_ne (by decide +kernel)).trans ((lk_ne (by decide +kernel)).trans ((lk_ne (by decide +kernel)).trans lk_eq)))
    show [(fl (.cho x m r y z) [p, q, t]).lookup ("tested" : Str), (fl (.cho x m r y z) [p, q, t]).lookup ("yes" : Str), (fl (.cho x m r y z) [p, q, t]).lookup ("no" : Str)] = [some (.ref p), some (.ref q), some (.ref t)]
    rw [h1, h2, h3], by
    have h1 : (fl (.cho x m r y z) [p, q, t]).lookup ("modulus" : Str) = some (.int m) := (lk_ne (by decide +kernel)).trans lk_eq
    have h2 : (fl (.cho x m r y z) [p, q, t]).lookup ("rest" : Str) = some (.int r) := (lk_ne (by decide +kernel)).trans ((lk_ne (by decide +kernel)).trans lk_eq)
    show [(fl (.cho x m r y z) [p, q, t]).lookup ("modulus" : Str), (fl (.cho x m r y z) [p, q, t]).lookup ("rest" : Str)] = [some (.int m), some (.int r)]
    rw [h1, h2]⟩
theorem fl_no {T : Tm} {ks : List Addr} {m : Str} (h : m = "_nodes" ∨ m = "_plain") : (fl T ks).lookup m = none := by
  have key : ∀ g : Str, g ∈ (["value", "name", "one", "other", "top", "bottom", "base", "exponent", "inner", "times", "tested", "modulus", "rest", "yes", "no"] : List Str) → ¬ m = g := by
    intro g hg e
    subst e
    rcases h with h | h <;> rw [h] at hg <;> revert hg <;> decide +kernel
  unfold fl
  split <;> (try rfl) <;> (repeat (rw [lk_ne (key _ (by first | decide +kernel | (rename_i k _ _ _ _; cases k <;> decide +kernel)))])) <;> rfl
theorem out1 {a : Option V} : ∀ {out : List V}, [a] = out.map some → ∃ v0, out = [v0] ∧ a = some v0
  | [], h => by cases h
  | [v], h => ⟨v, rfl, (List.cons.inj h).1⟩
  | v :: w :: r, h => by
    have := congrArg List.length h
    simp at this
theorem out2 {a b : Option V} : ∀ {out : List V}, [a, b] = out.map some → ∃ v0 v1, out = [v0, v1] ∧ a = some v0 ∧ b = some v1
  | [], h => by cases h
  | v :: r, h => by
    obtain ⟨v1, e, q⟩ := out1 (List.cons.inj h).2
    exact ⟨v, v1, by rw [e], (List.cons.inj h).1, q⟩
theorem out3 {a b c : Option V} : ∀ {out : List V}, [a, b, c] = out.map some → ∃ v0 v1 v2, out = [v0, v1, v2] ∧ a = some v0 ∧ b = some v1 ∧ c = some v2
  | [], h => by cases h
  | v :: r, h => by
    obtain ⟨v1, v2, e, q⟩ := out2 (List.cons.inj h).2
    exact ⟨v, v1, v2, by rw [e], (List.cons.inj h).1, q⟩
/-- what a method hands back: a new tuple of these fields -/
def spFT (C : Addr) (ns : List Str) : Sp := fun vs H Q _ => ∃ (a dx : Addr) (fs : List (Str × V)) (out : List V), vs = [.ref a] ∧ H a = some (.ins C dx fs) ∧ ns.map (fun n => fs.lookup n) = out.map some ∧ ∀ t, H t = none → Q (.ref t) (upd H t (.tup out))
section
variable {P : Program} {w : World} {K : PySem.W.Frag} {mg : Str → Option Value} {base : Heap}
abbrev s_Node_nodes : Stmt := inClass (top 24) 12
abbrev N_Node_nodes : List Str := ["self"]
theorem sc_Node_nodes : FnScope N_Node_nodes ["self"] (defScope s_Node_nodes) := ⟨rfl, rfl, rfl, by decide +kernel, rfl, by decide +kernel, by decide +kernel⟩
theorem ok_Node_nodes {f C : Addr} {fd : FuncData} (F : Fun K "_nodes" "Node._nodes" s_Node_nodes f fd) : FnOk P w K mg base CX0 1 f fd ["self"] (spFT C []) := by
  refine F.ok sc_Node_nodes (fun vs H Q E h => ?_) (fun cdv A outer s H vs Q E hr h => ?_)
  · obtain ⟨a, dx, fs, out, rfl, _⟩ := h
    rfl
  · obtain ⟨a, dx, fs, out, rfl, ha, ho, k⟩ := h
    have e0 : out = [] := by
      cases out with
      | nil => rfl
      | cons x xs => cases ho
    subst e0
    refine ⟨_, (pss_one (ps_ret (pe_tup pa_nil))), ?_⟩
    exact ⟨(by show 0 ≤ sizeLine; decide), fun t ht => k t ht⟩
abbrev s_Node_plain : Stmt := inClass (top 24) 13
abbrev N_Node_plain : List Str := ["self"]
theorem sc_Node_plain : FnScope N_Node_plain ["self"] (defScope s_Node_plain) := ⟨rfl, rfl, rfl, by decide +kernel, rfl, by decide +kernel, by decide +kernel⟩
theorem ok_Node_plain {f C : Addr} {fd : FuncData} (F : Fun K "_plain" "Node._plain" s_Node_plain f fd) : FnOk P w K mg base CX0 1 f fd ["self"] (spFT C []) := by
  refine F.ok sc_Node_plain (fun vs H Q E h => ?_) (fun cdv A outer s H vs Q E hr h => ?_)
  · obtain ⟨a, dx, fs, out, rfl, _⟩ := h
    rfl
  · obtain ⟨a, dx, fs, out, rfl, ha, ho, k⟩ := h
    have e0 : out = [] := by
      cases out with
      | nil => rfl
      | cons x xs => cases ho
    subst e0
    refine ⟨_, (pss_one (ps_ret (pe_tup pa_nil))), ?_⟩
    exact ⟨(by show 0 ≤ sizeLine; decide), fun t ht => k t ht⟩
abbrev s_Number_plain : Stmt := inClass (top 25) 1
abbrev N_Number_plain : List Str := ["self"]
theorem sc_Number_plain : FnScope N_Number_plain ["self"] (defScope s_Number_plain) := ⟨rfl, rfl, rfl, by decide +kernel, rfl, by decide +kernel, by decide +kernel⟩
theorem ok_Number_plain {f C : Addr} {fd : FuncData} (F : Fun K "_plain" "Number._plain" s_Number_plain f fd) (cl : Cls K C) (n0 : NoAttr K C "value") : FnOk P w K mg base CX0 1 f fd ["self"] (spFT C ["value"]) := by
  refine F.ok sc_Number_plain (fun vs H Q E h => ?_) (fun cdv A outer s H vs Q E hr h => ?_)
  · obtain ⟨a, dx, fs, out, rfl, _⟩ := h
    rfl
  · obtain ⟨a, dx, fs, out, rfl, ha, ho, k⟩ := h
    obtain ⟨v0, rfl, h0⟩ := out1 ho
    refine ⟨_, (pss_one (ps_ret (pe_tup (pa_cons (pe_fld (pv 0) rfl) pa_nil)))), ?_⟩
    refine ⟨_, rfl, a, C, dx, fs, _, rfl, ha, cl, n0, h0, (by show 1 ≤ sizeLine; decide), fun t ht => k t ht⟩
abbrev s_Name_plain : Stmt := inClass (top 26) 1
abbrev N_Name_plain : List Str := ["self"]
theorem sc_Name_plain : FnScope N_Name_plain ["self"] (defScope s_Name_plain) := ⟨rfl, rfl, rfl, by decide +kernel, rfl, by decide +kernel, by decide +kernel⟩
theorem ok_Name_plain {f C : Addr} {fd : FuncData} (F : Fun K "_plain" "Name._plain" s_Name_plain f fd) (cl : Cls K C) (n0 : NoAttr K C "name") : FnOk P w K mg base CX0 1 f fd ["self"] (spFT C ["name"]) := by
  refine F.ok sc_Name_plain (fun vs H Q E h => ?_) (fun cdv A outer s H vs Q E hr h => ?_)
  · obtain ⟨a, dx, fs, out, rfl, _⟩ := h
    rfl
  · obtain ⟨a, dx, fs, out, rfl, ha, ho, k⟩ := h
    obtain ⟨v0, rfl, h0⟩ := out1 ho
    refine ⟨_, (pss_one (ps_ret (pe_tup (pa_cons (pe_fld (pv 0) rfl) pa_nil)))), ?_⟩
    refine ⟨_, rfl, a, C, dx, fs, _, rfl, ha, cl, n0, h0, (by show 1 ≤ sizeLine; decide), fun t ht => k t ht⟩
abbrev s_Pair_nodes : Stmt := inClass (top 27) 2
abbrev N_Pair_nodes : List Str := ["self"]
theorem sc_Pair_nodes : FnScope N_Pair_nodes ["self"] (defScope s_Pair_nodes) := ⟨rfl, rfl, rfl, by decide +kernel, rfl, by decide +kernel, by decide +kernel⟩
theorem ok_Pair_nodes {f C : Addr} {fd : FuncData} (F : Fun K "_nodes" "Pair._nodes" s_Pair_nodes f fd) (cl : Cls K C) (n0 : NoAttr K C "one") (n1 : NoAttr K C "other") : FnOk P w K mg base CX0 1 f fd ["self"] (spFT C ["one", "other"]) := by
  refine F.ok sc_Pair_nodes (fun vs H Q E h => ?_) (fun cdv A outer s H vs Q E hr h => ?_)
  · obtain ⟨a, dx, fs, out, rfl, _⟩ := h
    rfl
  · obtain ⟨a, dx, fs, out, rfl, ha, ho, k⟩ := h
    obtain ⟨v0, v1, rfl, h0, h1⟩ := out2 ho
    refine ⟨_, (pss_one (ps_ret (pe_tup (pa_cons (pe_fld (pv 0) rfl) (pa_cons (pe_fld (pv 0) rfl) pa_nil))))), ?_⟩
    refine ⟨_, rfl, a, C, dx, fs, _, rfl, ha, cl, n0, h0, _, rfl, a, C, dx, fs, _, rfl, ha, cl, n1, h1, (by show 2 ≤ sizeLine; decide), fun t ht => k t ht⟩
abbrev s_Half_nodes : Stmt := inClass (top 31) 2
abbrev N_Half_nodes : List Str := ["self"]
theorem sc_Half_nodes : FnScope N_Half_nodes ["self"] (defScope s_Half_nodes) := ⟨rfl, rfl, rfl, by decide +kernel, rfl, by decide +kernel, by decide +kernel⟩
theorem ok_Half_nodes {f C : Addr} {fd : FuncData} (F : Fun K "_nodes" "Half._nodes" s_Half_nodes f fd) (cl : Cls K C) (n0 : NoAttr K C "inner") : FnOk P w K mg base CX0 1 f fd ["self"] (spFT C ["inner"]) := by
  refine F.ok sc_Half_nodes (fun vs H Q E h => ?_) (fun cdv A outer s H vs Q E hr h => ?_)
  · obtain ⟨a, dx, fs, out, rfl, _⟩ := h
    rfl
  · obtain ⟨a, dx, fs, out, rfl, ha, ho, k⟩ := h
    obtain ⟨v0, rfl, h0⟩ := out1 ho
    refine ⟨_, (pss_one (ps_ret (pe_tup (pa_cons (pe_fld (pv 0) rfl) pa_nil)))), ?_⟩
    refine ⟨_, rfl, a, C, dx, fs, _, rfl, ha, cl, n0, h0, (by show 1 ≤ sizeLine; decide), fun t ht => k t ht⟩
abbrev s_Over_nodes : Stmt := inClass (top 32) 3
abbrev N_Over_nodes : List Str := ["self"]
theorem sc_Over_nodes : FnScope N_Over_nodes ["self"] (defScope s_Over_nodes) := ⟨rfl, rfl, rfl, by decide +kernel, rfl, by decide +kernel, by decide +kernel⟩
theorem ok_Over_nodes {f C : Addr} {fd : FuncData} (F : Fun K "_nodes" "Over._nodes" s_Over_nodes f fd) (cl : Cls K C) (n0 : NoAttr K C "top") (n1 : NoAttr K C "bottom") : FnOk P w K mg base CX0 1 f fd ["self"] (spFT C ["top", "bottom"]) := by
  refine F.ok sc_Over_nodes (fun vs H Q E h => ?_) (fun cdv A outer s H vs Q E hr h => ?_)
  · obtain ⟨a, dx, fs, out, rfl, _⟩ := h
    rfl
  · obtain ⟨a, dx, fs, out, rfl, ha, ho, k⟩ := h
    obtain ⟨v0, v1, rfl, h0, h1⟩ := out2 ho
    refine ⟨_, (pss_one (ps_ret (pe_tup (pa_cons (pe_fld (pv 0) rfl) (pa_cons (pe_fld (pv 0) rfl) pa_nil))))), ?_⟩
    refine ⟨_, rfl, a, C, dx, fs, _, rfl, ha, cl, n0, h0, _, rfl, a, C, dx, fs, _, rfl, ha, cl, n1, h1, (by show 2 ≤ sizeLine; decide), fun t ht => k t ht⟩
abbrev s_Power_nodes : Stmt := inClass (top 33) 2
abbrev N_Power_nodes : List Str := ["self"]
theorem sc_Power_nodes : FnScope N_Power_nodes ["self"] (defScope s_Power_nodes) := ⟨rfl, rfl, rfl, by decide +kernel, rfl, by decide +kernel, by decide +kernel⟩
theorem ok_Power_nodes {f C : Addr} {fd : FuncData} (F : Fun K "_nodes" "Power._nodes" s_Power_nodes f fd) (cl : Cls K C) (n0 : NoAttr K C "base") : FnOk P w K mg base CX0 1 f fd ["self"] (spFT C ["base"]) := by
  refine F.ok sc_Power_nodes (fun vs H Q E h => ?_) (fun cdv A outer s H vs Q E hr h => ?_)
  · obtain ⟨a, dx, fs, out, rfl, _⟩ := h
    rfl
  · obtain ⟨a, dx, fs, out, rfl, ha, ho, k⟩ := h
    obtain ⟨v0, rfl, h0⟩ := out1 ho
    refine ⟨_, (pss_one (ps_ret (pe_tup (pa_cons (pe_fld (pv 0) rfl) pa_nil)))), ?_⟩
    refine ⟨_, rfl, a, C, dx, fs, _, rfl, ha, cl, n0, h0, (by show 1 ≤ sizeLine; decide), fun t ht => k t ht⟩
abbrev s_Power_plain : Stmt := inClass (top 33) 3
abbrev N_Power_plain : List Str := ["self"]
theorem sc_Power_plain : FnScope N_Power_plain ["self"] (defScope s_Power_plain) := ⟨rfl, rfl, rfl, by decide +kernel, rfl, by decide +kernel, by decide +kernel⟩
theorem ok_Power_plain {f C : Addr} {fd : FuncData} (F : Fun K "_plain" "Power._plain" s_Power_plain f fd) (cl : Cls K C) (n0 : NoAttr K C "times") : FnOk P w K mg base CX0 1 f fd ["self"] (spFT C ["times"]) := by
  refine F.ok sc_Power_plain (fun vs H Q E h => ?_) (fun cdv A outer s H vs Q E hr h => ?_)
  · obtain ⟨a, dx, fs, out, rfl, _⟩ := h
    rfl
  · obtain ⟨a, dx, fs, out, rfl, ha, ho, k⟩ := h
    obtain ⟨v0, rfl, h0⟩ := out1 ho
    refine ⟨_, (pss_one (ps_ret (pe_tup (pa_cons (pe_fld (pv 0) rfl) pa_nil)))), ?_⟩
    refine ⟨_, rfl, a, C, dx, fs, _, rfl, ha, cl, n0, h0, (by show 1 ≤ sizeLine; decide), fun t ht => k t ht⟩
abbrev s_Raised_nodes : Stmt := inClass (top 34) 2
abbrev N_Raised_nodes : List Str := ["self"]
theorem sc_Raised_nodes : FnScope N_Raised_nodes ["self"] (defScope s_Raised_nodes) := ⟨rfl, rfl, rfl, by decide +kernel, rfl, by decide +kernel, by decide +kernel⟩
theorem ok_Raised_nodes {f C : Addr} {fd : FuncData} (F : Fun K "_nodes" "Raised._nodes" s_Raised_nodes f fd) (cl : Cls K C) (n0 : NoAttr K C "base") (n1 : NoAttr K C "exponent") : FnOk P w K mg base CX0 1 f fd ["self"] (spFT C ["base", "exponent"]) := by
  refine F.ok sc_Raised_nodes (fun vs H Q E h => ?_) (fun cdv A outer s H vs Q E hr h => ?_)
  · obtain ⟨a, dx, fs, out, rfl, _⟩ := h
    rfl
  · obtain ⟨a, dx, fs, out, rfl, ha, ho, k⟩ := h
    obtain ⟨v0, v1, rfl, h0, h1⟩ := out2 ho
    refine ⟨_, (pss_one (ps_ret (pe_tup (pa_cons (pe_fld (pv 0) rfl) (pa_cons (pe_fld (pv 0) rfl) pa_nil))))), ?_⟩
    refine ⟨_, rfl, a, C, dx, fs, _, rfl, ha, cl, n0, h0, _, rfl, a, C, dx, fs, _, rfl, ha, cl, n1, h1, (by show 2 ≤ sizeLine; decide), fun t ht => k t ht⟩
abbrev s_Choose_nodes : Stmt := inClass (top 35) 1
abbrev N_Choose_nodes : List Str := ["self"]
theorem sc_Choose_nodes : FnScope N_Choose_nodes ["self"] (defScope s_Choose_nodes) := ⟨rfl, rfl, rfl, by decide +kernel, rfl, by decide +kernel, by decide +kernel⟩
theorem ok_Choose_nodes {f C : Addr} {fd : FuncData} (F : Fun K "_nodes" "Choose._nodes" s_Choose_nodes f fd) (cl : Cls K C) (n0 : NoAttr K C "tested") (n1 : NoAttr K C "yes") (n2 : NoAttr K C "no") : FnOk P w K mg base CX0 1 f fd ["self"] (spFT C ["tested", "yes", "no"]) := by
  refine F.ok sc_Choose_nodes (fun vs H Q E h => ?_) (fun cdv A outer s H vs Q E hr h => ?_)
  · obtain ⟨a, dx, fs, out, rfl, _⟩ := h
    rfl
  · obtain ⟨a, dx, fs, out, rfl, ha, ho, k⟩ := h
    obtain ⟨v0, v1, v2, rfl, h0, h1, h2⟩ := out3 ho
    refine ⟨_, (pss_one (ps_ret (pe_tup (pa_cons (pe_fld (pv 0) rfl) (pa_cons (pe_fld (pv 0) rfl) (pa_cons (pe_fld (pv 0) rfl) pa_nil)))))), ?_⟩
    refine ⟨_, rfl, a, C, dx, fs, _, rfl, ha, cl, n0, h0, _, rfl, a, C, dx, fs, _, rfl, ha, cl, n1, h1, _, rfl, a, C, dx, fs, _, rfl, ha, cl, n2, h2, (by show 3 ≤ sizeLine; decide), fun t ht => k t ht⟩
abbrev s_Choose_plain : Stmt := inClass (top 35) 2
abbrev N_Choose_plain : List Str := ["self"]
theorem sc_Choose_plain : FnScope N_Choose_plain ["self"] (defScope s_Choose_plain) := ⟨rfl, rfl, rfl, by decide +kernel, rfl, by decide +kernel, by decide +kernel⟩
theorem ok_Choose_plain {f C : Addr} {fd : FuncData} (F : Fun K "_plain" "Choose._plain" s_Choose_plain f fd) (cl : Cls K C) (n0 : NoAttr K C "modulus") (n1 : NoAttr K C "rest") : FnOk P w K mg base CX0 1 f fd ["self"] (spFT C ["modulus", "rest"]) := by
  refine F.ok sc_Choose_plain (fun vs H Q E h => ?_) (fun cdv A outer s H vs Q E hr h => ?_)
  · obtain ⟨a, dx, fs, out, rfl, _⟩ := h
    rfl
  · obtain ⟨a, dx, fs, out, rfl, ha, ho, k⟩ := h
    obtain ⟨v0, v1, rfl, h0, h1⟩ := out2 ho
    refine ⟨_, (pss_one (ps_ret (pe_tup (pa_cons (pe_fld (pv 0) rfl) (pa_cons (pe_fld (pv 0) rfl) pa_nil))))), ?_⟩
    refine ⟨_, rfl, a, C, dx, fs, _, rfl, ha, cl, n0, h0, _, rfl, a, C, dx, fs, _, rfl, ha, cl, n1, h1, (by show 2 ≤ sizeLine; decide), fun t ht => k t ht⟩
end
end My

set_option Elab.async false
set_option linter.all false
set_option maxRecDepth 100000
set_option maxHeartbeats 1000000
namespace My
open PySem L2 MyR

open RT
theorem sz {n : Nat} (h : n ≤ 200000) : n < sizeLine := Nat.lt_of_le_of_lt h (by decide)
/-! ### all the parts of a term -/
def pre : Tm → List Tm
  | .num z => [.num z]
  | .nam x => [.nam x]
  | .two k a b => .two k a b :: (pre a ++ pre b)
  | .half a => .half a :: pre a
  | .pow a n => .pow a n :: pre a
  | .cho a m r b c => .cho a m r b c :: (pre a ++ (pre b ++ pre c))
theorem pre_kids (T : Tm) : pre T = T :: (kids T).flatMap pre := by
  cases T <;> simp [pre, kids]
def preL (Ts : List Tm) : List Tm := Ts.flatMap pre
theorem preL_app (a b : List Tm) : preL (a ++ b) = preL a ++ preL b := by simp [preL]
theorem preL_len (Ts : List Tm) : Ts.length ≤ (preL Ts).length := by
  induction Ts with
  | nil => exact Nat.le_refl _
  | cons T Ts ih =>
    have : 1 ≤ (pre T).length := by rw [pre_kids]; simp
    show Ts.length + 1 ≤ (List.flatMap pre (T :: Ts)).length
    rw [List.flatMap_cons, List.length_append]
    have : Ts.length ≤ (List.flatMap pre Ts).length := ih
    omega
def MOk (P : Program) (w : World) (K : PySem.W.Frag) (mg : Str → Option Value) (base : Heap) (C : Addr) (m : Str) (ns : List Str) : Prop := ∃ (f : Addr) (fd : FuncData), Meth K C m f ∧ FnOk P w K mg base CX0 1 f fd ["self"] (spFT C ns) ∧ Binds K fd ["self"] []
def nmC : Tm → Str
  | .num _ => "Number"
  | .nam _ => "Name"
  | .two .add _ _ => "Add"
  | .two .sub _ _ => "Subtract"
  | .two .mul _ _ => "Multiply"
  | .two .over _ _ => "Over"
  | .two .rai _ _ => "Raised"
  | .half _ => "Half"
  | .pow _ _ => "Power"
  | .cho _ _ _ _ _ => "Choose"
/-- what is known of the classes of nodes -/
structure NodesOk (P : Program) (w : World) (K : PySem.W.Frag) (mg : Str → Option Value) (base : Heap) (c : CA) : Prop where
  cl : ∀ T, Cls K (c.of T)
  nm : ∀ T, NameOf K (c.of T) (nmC T)
  nd : ∀ T, MOk P w K mg base (c.of T) "_nodes" (nsN T)
  pl : ∀ T, MOk P w K mg base (c.of T) "_plain" (nsP T)
/-- flat: a new list of all the nodes -/
def spFlat (c : CA) : Sp := fun vs H Q _ => ∃ (a : Addr) (T : Tm), vs = [.ref a] ∧ NodeAt c H T a ∧ (pre T).length ≤ 100000 ∧
  ∀ (p : Addr) (as : List Addr) (H' : Hp), H p = none → Same H H' → H' p = some (.lst (as.map V.ref)) → All2 (NodeAt c H') (pre T) as → Q (.ref p) H'
theorem All2.same {c : CA} {H H' : Hp} (sm : ∀ p C dx fs, H p = some (.ins C dx fs) → H' p = some (.ins C dx fs)) {Ts : List Tm} {as : List Addr} (h : All2 (NodeAt c H) Ts as) : All2 (NodeAt c H') Ts as := h.imp fun _ _ n => n.map sm
theorem All2.snoc {α β : Type} {R : α → β → Prop} : ∀ {xs : List α} {ys : List β} {y : β}, All2 R xs (ys ++ [y]) → ∃ xs' x, xs = xs' ++ [x] ∧ All2 R xs' ys ∧ R x y
  | _, [], _, .cons a .nil => ⟨[], _, rfl, .nil, a⟩
  | _, y :: ys, _, .cons a r => by
    obtain ⟨xs', x, e, q, z⟩ := All2.snoc r
    exact ⟨_ :: xs', x, by rw [e]; rfl, .cons a q, z⟩
section
variable {P : Program} {w : World} {K : PySem.W.Frag} {mg : Str → Option Value} {base : Heap}
abbrev s_flat : Stmt := top 20
abbrev N_flat : List Str := ["node", "found", "waiting", "part", "inner"]
theorem sc_flat : FnScope N_flat ["node"] (defScope s_flat) := ⟨rfl, rfl, rfl, by decide +kernel, rfl, by decide +kernel, by decide +kernel⟩
theorem ok_flat {f : Addr} {fd : FuncData} (F : Fun K "flat" "flat" s_flat f fd) (T : Glob mg) {c : CA} (N : NodesOk P w K mg base c) : FnOk P w K mg base CX0 2 f fd ["node"] (spFlat c) := by
  refine F.ok sc_flat (fun vs H Q E h => ?_) (fun cdv A outer s H vs Q E hr h => ?_)
  · obtain ⟨a, T, rfl, _⟩ := h
    rfl
  · obtain ⟨a, Tm0, rfl, hN, hsz, k⟩ := h
    have hu := hu_of hr
    have nd := sc_flat.nd
    refine ⟨_, (pss_cons (ps_set (i := 1) nd rfl (Or.inl rfl) (pe_lst pa_nil))
    (pss_cons (ps_set (i := 2) nd rfl (Or.inl rfl) (pe_lst (pa_cons (pv 0) pa_nil)))
    (pss_cons (ps_while PassesOwn.never (pt_truth (pv 2) (by intro _; rfl))
    (pss_cons (ps_set (i := 3) nd rfl (Or.inl rfl) (pe_bm0 PySem.F.plainAttrs_list PySem.F.slot_list_pop PySem.F.type_list_pop mt_pop (pv 2)))
    (pss_cons (ps_expr (pe_bm PySem.F.plainAttrs_list PySem.F.slot_list_append PySem.F.type_list_append mt_append (pv 1) (pa_cons (pv 3) pa_nil)))
    (pss_one (ps_for PassesOwn.never rfl (pi_revA (by rfl) T.g_reversed (pe_meth0V (pv 3))) (pg_name (i := 4) nd rfl (Or.inl rfl))
    (pss_one (ps_expr (pe_bm PySem.F.plainAttrs_list PySem.F.slot_list_append PySem.F.type_list_append mt_append (pv 2) (pa_cons (pv 4) pa_nil)))))))))
    (pss_one (ps_ret (pv 1)))))), ?_⟩
    refine ⟨(by show 0 ≤ sizeLine; decide), fun F0 hF => ?_⟩
    refine ⟨_, rfl, (by show 1 ≤ sizeLine; decide), fun W0 hW => ?_⟩
    have nFW : F0 ≠ W0 := fun e => by rw [e, upd_same] at hW; cases hW
    have hW0 : H W0 = none := by rw [← upd_ne (H := H) (Ne.symm nFW)]; exact hW
    have smI : ∀ b o, H b = some o → (upd (upd H F0 (.lst [])) W0 (.lst [V.ref a])) b = some o := fun b o e => by rw [upd_ne (ne_of_none e hW0), upd_ne (ne_of_none e hF)]; exact e
    refine ⟨fun m σ H1 => ∃ (v3 v4 : Option V) (fT wT : List Tm) (fa wa : List Addr), σ = [some (.ref a), some (.ref F0), some (.ref W0), v3, v4] ∧ Same H H1 ∧ H1 F0 = some (.lst (fa.map V.ref)) ∧ H1 W0 = some (.lst (wa.map V.ref)) ∧
      All2 (NodeAt c H1) fT fa ∧ All2 (NodeAt c H1) wT wa ∧ pre Tm0 = fT ++ preL wT.reverse ∧ m = (preL wT.reverse).length,
      ⟨_, none, none, [], [Tm0], [], [a], rfl, smI, by rw [upd_ne nFW, upd_same]; rfl, upd_same, .nil, .cons (hN.map fun p C dx fs e => smI p _ e) .nil, by simp [preL], rfl⟩, ?_⟩
    rintro m σ H1 ⟨v3, v4, fT, wT, fa, wa, rfl, sm, h1, h2, af, aw, hpre, rfl⟩
    refine ⟨_, rfl, !(wa.map V.ref).isEmpty, .inl ⟨_, SqL.of h2, rfl⟩, ?_⟩
    have hlen : fT.length + (preL wT.reverse).length ≤ 100000 := by rw [← List.length_append, ← hpre]; exact hsz
    refine ite2 (fun hz => ?_) (fun hz => ?_)
    · -- a part is taken
      obtain ⟨wa', w1, rfl⟩ : ∃ wa' w1, wa = wa' ++ [w1] := by
        rcases List.eq_nil_or_concat wa with e | ⟨l, x, e⟩
        · rw [e] at hz; cases hz
        · exact ⟨l, x, by rw [e]; simp⟩
      obtain ⟨wT', T1, rfl, aw', n1⟩ := aw.snoc
      have hpl : preL (wT' ++ [T1]).reverse = T1 :: ((kids T1).flatMap pre ++ preL wT'.reverse) := by
        rw [List.reverse_append]
        show preL (T1 :: wT'.reverse) = _
        show List.flatMap pre (T1 :: wT'.reverse) = _
        rw [List.flatMap_cons, pre_kids]
        rfl
      rw [hpl] at hpre hlen ⊢
      have hfl := af.len
      have hwl := aw'.len
      have hwl2 : wT'.length ≤ (preL wT'.reverse).length := by have := preL_len wT'.reverse; rwa [List.length_reverse] at this
      have hkl : (kids T1).length ≤ ((kids T1).flatMap pre).length := preL_len (kids T1)
      rw [List.length_cons, List.length_append] at hlen
      refine ⟨fun σ' H' => ∃ (v3 v4 : Option V) (fT wT : List Tm) (fa wa : List Addr), σ' = [some (.ref a), some (.ref F0), some (.ref W0), v3, v4] ∧ Same H H' ∧ H' F0 = some (.lst (fa.map V.ref)) ∧ H' W0 = some (.lst (wa.map V.ref)) ∧
        All2 (NodeAt c H') fT fa ∧ All2 (NodeAt c H') wT wa ∧ pre Tm0 = fT ++ preL wT.reverse ∧ (preL wT.reverse).length < (T1 :: ((kids T1).flatMap pre ++ preL wT'.reverse)).length,
        fun σ' H' ⟨v3, v4, fT, wT, fa, wa, e1, e2, e3, e4, e5, e6, e7, e8⟩ => ⟨_, e8, v3, v4, fT, wT, fa, wa, e1, e2, e3, e4, e5, e6, e7, rfl⟩, ?_⟩
      have hlast : ((wa' ++ [w1]).map V.ref)[((wa' ++ [w1]).map V.ref).length - 1]? = some (V.ref w1) := by simp
      have hdrop : ((wa' ++ [w1]).map V.ref).dropLast = wa'.map V.ref := by simp
      refine ⟨_, rfl, .inl ⟨rfl, _, SqL.of h2⟩, W0, _, _, rfl, rfl, h2, hlast, ?_⟩
      rw [hdrop]
      refine ⟨_, rfl, .inl ⟨rfl, _, SqL.of (by rw [upd_ne nFW]; exact h1)⟩, _, rfl, F0, _, _, rfl, rfl, by rw [upd_ne nFW]; exact h1, by rw [List.length_map]; exact sz (by omega), ?_⟩
      have smA : ∀ p C dx fs, H1 p = some (.ins C dx fs) → (upd (upd H1 W0 (.lst (wa'.map V.ref))) F0 (.lst (fa.map V.ref ++ [V.ref w1]))) p = some (.ins C dx fs) := fun p C dx fs e => by
        rw [upd_ne (ne_of e h1 (by intro z; cases z)), upd_ne (ne_of e h2 (by intro z; cases z))]
        exact e
      have smB : Same H (upd (upd H1 W0 (.lst (wa'.map V.ref))) F0 (.lst (fa.map V.ref ++ [V.ref w1]))) := fun b o e => by
        rw [upd_ne (ne_of_none e hF), upd_ne (ne_of_none e hW0)]
        exact sm b o e
      have hA1 : (upd (upd H1 W0 (.lst (wa'.map V.ref))) F0 (.lst (fa.map V.ref ++ [V.ref w1]))) F0 = some (.lst ((fa ++ [w1]).map V.ref)) := by rw [upd_same, List.map_append]; rfl
      have hA2 : (upd (upd H1 W0 (.lst (wa'.map V.ref))) F0 (.lst (fa.map V.ref ++ [V.ref w1]))) W0 = some (.lst (wa'.map V.ref)) := by rw [upd_ne (Ne.symm nFW), upd_same]
      have n1' := n1.map smA
      have af' := (af.app (All2.cons n1 .nil)).same smA
      have aw'' := aw'.same smA
      generalize (upd (upd H1 W0 (.lst (wa'.map V.ref))) F0 (.lst (fa.map V.ref ++ [V.ref w1]))) = H2 at smB hA1 hA2 n1' af' aw'' ⊢
      obtain ⟨dx, ks, hx, hks, hns, _⟩ := n1'.split
      obtain ⟨fm, fdm, me, Fm, bm⟩ := N.nd T1
      refine ⟨_, rfl, w1, _, dx, _, fm, fdm, _, _, 1, CX0, E0, rfl, hx, fl_no (.inl rfl), N.cl T1, me, Fm, hr, bm, pass0, w1, dx, _, ks.map V.ref, rfl, hx, by rw [hns, List.map_map]; rfl, fun t ht => ?_⟩
      have nFt : F0 ≠ t := ne_of_none hA1 ht
      have nWt : W0 ≠ t := ne_of_none hA2 ht
      refine ⟨t, ks.map V.ref, rfl, .inr ⟨SqT.of upd_same, ?_⟩⟩
      have hk : ks.length = (kids T1).length := hks.len.symm
      refine for_ItvT (K := K) (a := t) (xs := ks.map V.ref) (fun i σ' H' => ∃ (v4 : Option V), σ' = [some (.ref a), some (.ref F0), some (.ref W0), some (.ref w1), v4] ∧ Same H H' ∧ H' t = some (.tup (ks.map V.ref)) ∧ H' F0 = some (.lst ((fa ++ [w1]).map V.ref)) ∧ H' W0 = some (.lst ((wa' ++ ks.reverse.take i).map V.ref)) ∧
        (∀ p C dx fs, H2 p = some (.ins C dx fs) → H' p = some (.ins C dx fs)))
        ⟨v4, rfl, fun b o e => by rw [upd_ne (ne_of_none (smB b o e) ht)]; exact smB b o e, upd_same, by rw [upd_ne nFt]; exact hA1, by rw [upd_ne nWt, List.take_zero, List.append_nil]; exact hA2, fun p C dx fs e => by rw [upd_ne (ne_of_none e ht)]; exact e⟩
        (fun i σ' H' ⟨_, _, _, e, _⟩ => SqT.of e) ?_ ?_
      · rintro i x σ' H' hi hx2 ⟨v4', rfl, sm3, ht3, hF3, hW3, sm4⟩
        rw [List.length_map] at hi hx2
        have hxe : ks.reverse[i]? = some (ks[ks.length - 1 - i]'(by omega)) := by
          rw [List.getElem?_reverse hi]
          exact List.getElem?_eq_getElem (by omega)
        have hxv : x = V.ref (ks[ks.length - 1 - i]'(by omega)) := by
          rw [List.getElem?_map, List.getElem?_eq_getElem (show ks.length - 1 - i < ks.length by omega)] at hx2
          exact (Option.some.inj hx2).symm
        subst hxv
        refine ⟨_, rfl, .inl ⟨rfl, _, SqL.of hW3⟩, _, rfl, W0, _, _, rfl, rfl, hW3, ?_, ?_⟩
        · rw [List.length_map, List.length_append, List.length_take, List.length_reverse]
          exact sz (by omega)
        · refine ⟨_, rfl, fun b o e => by rw [upd_ne (ne_of_none e hW0)]; exact sm3 b o e, by rw [upd_ne (Ne.symm nWt)]; exact ht3, by rw [upd_ne nFW]; exact hF3, ?_, fun p C dx fs e => ?_⟩
          · rw [upd_same, List.take_add_one, hxe]
            simp
          · rw [upd_ne (ne_of (sm4 p C dx fs e) hW3 (by intro z; cases z))]
            exact sm4 p C dx fs e
      · rintro σ' H' ⟨v4', rfl, sm3, ht3, hF3, hW3, sm4⟩
        rw [List.length_map, List.take_of_length_le (by rw [List.length_reverse]; exact Nat.le_refl _)] at hW3
        refine ⟨_, _, fT ++ [T1], wT' ++ (kids T1).reverse, fa ++ [w1], wa' ++ ks.reverse, rfl, sm3, hF3, hW3, af'.same sm4, (aw''.app hks.rev).same sm4, ?_, ?_⟩
        · rw [hpre, List.reverse_append, List.reverse_reverse, preL_app]
          simp [preL]
        · rw [List.reverse_append, List.reverse_reverse, preL_app]
          simp [preL]
    · -- the end
      have he : wa = [] := by
        cases wa with
        | nil => rfl
        | cons x xs => exact absurd rfl hz
      subst he
      have hw : wT = [] := List.length_eq_zero_iff.mp aw.len
      subst hw
      refine ⟨_, rfl, k F0 fa H1 hF sm h1 ?_⟩
      rw [hpre]
      simpa [preL] using af
end
end My

set_option Elab.async false
set_option linter.all false
set_option maxRecDepth 100000
set_option maxHeartbeats 1000000
namespace My
open PySem L2 MyR

open RT
/-! ### the outline of a node -/
def OutAt (H : Hp) (T : Tm) (x : Addr) : Prop := ∃ u, H x = some (.tup [.str (nmC T), .ref u]) ∧ H u = some (.tup (plV T))
theorem OutAt.map {H H' : Hp} (h : ∀ p xs, H p = some (.tup xs) → H' p = some (.tup xs)) {T : Tm} {x : Addr} : OutAt H T x → OutAt H' T x
  | ⟨u, a, b⟩ => ⟨u, h _ _ a, h _ _ b⟩
def plD : Tm → List PyData
  | .num z => [.int z]
  | .nam x => [.str (wd x)]
  | .two _ _ _ => []
  | .half _ => []
  | .pow _ n => [.int n]
  | .cho _ m r _ _ => [.int m, .int r]
theorem plD_dp {K : PySem.W.Frag} {H : Hp} : ∀ T : Tm, DpAll K H (plV T) (plD T)
  | .num _ => .cons (.int _) .nil
  | .nam _ => .cons (.str _) .nil
  | .two _ _ _ => .nil
  | .half _ => .nil
  | .pow _ _ => .cons (.int _) .nil
  | .cho _ _ _ _ _ => .cons (.int _) (.cons (.int _) .nil)
def oneD (T : Tm) : PyData := .tuple [.str (nmC T), .tuple (plD T)]
def outD (T : Tm) : PyData := .list ((pre T).map oneD)
theorem out_dp {K : PySem.W.Frag} {H : Hp} : ∀ {Ts : List Tm} {xs : List Addr}, All2 (OutAt H) Ts xs → DpAll K H (xs.map V.ref) (Ts.map oneD)
  | _, _, .nil => .nil
  | _, _, .cons ⟨u, a, b⟩ r => .cons (.tup (SqT.of a) (.cons (.str _) (.cons (.tup (SqT.of b) (plD_dp _)) .nil))) (out_dp r)
theorem pre_ok : ∀ {T : Tm}, T.ok → ∀ t ∈ pre T, t.ok
  | .num z, h, t, ht => by simp [pre] at ht; subst ht; exact h
  | .nam x, h, t, ht => by simp [pre] at ht; subst ht; exact h
  | .two k a b, h, t, ht => by
    simp only [pre, List.mem_cons, List.mem_append] at ht
    rcases ht with rfl | ht | ht
    · exact h
    · exact pre_ok h.1 t ht
    · exact pre_ok h.2 t ht
  | .half a, h, t, ht => by
    simp only [pre, List.mem_cons] at ht
    rcases ht with rfl | ht
    · exact h
    · exact pre_ok (T := a) h t ht
  | .pow a n, h, t, ht => by
    simp only [pre, List.mem_cons] at ht
    rcases ht with rfl | ht
    · exact h
    · exact pre_ok h.1 t ht
  | .cho a m r b c, h, t, ht => by
    simp only [pre, List.mem_cons, List.mem_append] at ht
    rcases ht with rfl | ht | ht | ht
    · exact h
    · exact pre_ok h.1 t ht
    · exact pre_ok h.2.1 t ht
    · exact pre_ok h.2.2.1 t ht
theorem nmC_lay (T : Tm) : PyData.canLay0 (.str (nmC T)) = true := by
  cases T with
  | two k a b => cases k <;> (simp only [nmC]; decide +kernel)
  | _ => simp only [nmC]; decide +kernel
theorem plD_lay : ∀ {T : Tm}, T.ok → PyData.canLayAll0 (plD T) = true
  | .num _, _ => rfl
  | .nam x, h => by
    show (PyData.canLay0 (.str (wd x)) && PyData.canLayAll0 []) = true
    rw [nm_ok h]
    rfl
  | .two _ _ _, _ => rfl
  | .half _, _ => rfl
  | .pow _ _, _ => rfl
  | .cho _ _ _ _ _, _ => rfl
theorem oneD_lay {T : Tm} (h : T.ok) : PyData.canLay0 (oneD T) = true := by
  show (PyData.canLay0 (.str (nmC T)) && (PyData.canLayAll0 (plD T) && PyData.canLayAll0 [])) = true
  rw [nmC_lay, plD_lay h]
  rfl
theorem oneD_depth (T : Tm) : PyData.depth (oneD T) = 2 := by
  cases T <;> rfl
theorem outD_lay {T : Tm} (h : T.ok) : PyData.canLay0 (outD T) = true := by
  show PyData.canLayAll0 ((pre T).map oneD) = true
  have := pre_ok h
  generalize pre T = l at this
  induction l with
  | nil => rfl
  | cons t l ih =>
    show (PyData.canLay0 (oneD t) && PyData.canLayAll0 (l.map oneD)) = true
    rw [oneD_lay (this t List.mem_cons_self), ih fun y hy => this y (List.mem_cons_of_mem _ hy)]
    rfl
theorem outD_shaped {T : Tm} (h : T.ok) : SeqAt.shaped (outD T) = true := by
  unfold SeqAt.shaped
  rw [outD_lay h]
  have : PyData.depthAll ((pre T).map oneD) ≤ 2 := by
    generalize pre T = l
    induction l with
    | nil => exact Nat.zero_le _
    | cons t l ih =>
      show max (PyData.depth (oneD t)) (PyData.depthAll (l.map oneD)) ≤ 2
      rw [oneD_depth]
      omega
  have h4 : PyData.depth (outD T) = PyData.depthAll ((pre T).map oneD) + 1 := rfl
  rw [h4]
  simp
  omega
/-- outline: a new list of a pair for each node -/
def spOut (c : CA) : Sp := fun vs H Q _ => ∃ (a : Addr) (T : Tm), vs = [.ref a] ∧ NodeAt c H T a ∧ (pre T).length ≤ 100000 ∧
  ∀ (p : Addr) (xs : List Addr) (H' : Hp), Same H H' → H' p = some (.lst (xs.map V.ref)) → All2 (OutAt H') (pre T) xs → Q (.ref p) H'
/-- == of two equal trees -/
def spEqN (c : CA) : Sp := fun vs H Q _ => ∃ (a b : Addr) (T : Tm), vs = [.ref a, .ref b] ∧ NodeAt c H T a ∧ NodeAt c H T b ∧ T.ok ∧ (pre T).length ≤ 100000 ∧ ∀ H', Same H H' → Q (.bl true) H'
section
variable {P : Program} {w : World} {K : PySem.W.Frag} {mg : Str → Option Value} {base : Heap}
abbrev s_outline : Stmt := top 21
abbrev N_outline : List Str := ["node", "found", "part"]
theorem sc_outline : FnScope N_outline ["node"] (defScope s_outline) := ⟨rfl, rfl, rfl, by decide +kernel, rfl, by decide +kernel, by decide +kernel⟩
theorem All2.getL {α β : Type} {R : α → β → Prop} : ∀ {xs : List α} {ys : List β} {i : Nat}, All2 R xs ys → (hi : i < ys.length) → ∃ h : i < xs.length, R xs[i] ys[i]
  | _, _, 0, .cons a _, _ => ⟨Nat.succ_pos _, a⟩
  | _, _, i + 1, .cons _ r, hi => by
    obtain ⟨h, q⟩ := r.getL (i := i) (Nat.lt_of_succ_lt_succ hi)
    exact ⟨Nat.succ_lt_succ h, q⟩
theorem ok_outline {f : Addr} {fd : FuncData} (F : Fun K "outline" "outline" s_outline f fd) (T : Glob mg) {c : CA} (N : NodesOk P w K mg base c) (D_flat : Df P w K mg base 2 "flat" ["node"] (spFlat c)) : FnOk P w K mg base CX0 3 f fd ["node"] (spOut c) := by
  refine F.ok sc_outline (fun vs H Q E h => ?_) (fun cdv A outer s H vs Q E hr h => ?_)
  · obtain ⟨a, T, rfl, _⟩ := h
    rfl
  · obtain ⟨a, Tm0, rfl, hN, hsz, k⟩ := h
    have hu := hu_of hr
    have nd := sc_outline.nd
    refine ⟨_, (pss_cons (ps_set (i := 1) nd rfl (Or.inl rfl) (pe_lst pa_nil))
    (pss_cons (ps_for PassesOwn.never rfl (pi_list (pe_call D_flat.ok (hr.mono (by decide)) (by rfl) D_flat.g D_flat.kp D_flat.b .nil pass0 (pa_cons (pv 0) pa_nil))) (pg_name (i := 2) nd rfl (Or.inl rfl))
    (pss_one (ps_expr (pe_bm PySem.F.plainAttrs_list PySem.F.slot_list_append PySem.F.type_list_append mt_append (pv 1) (pa_cons (pe_tup (pa_cons (pe_clsName (pv 2) rfl rfl) (pa_cons (pe_meth0V (pv 2)) pa_nil))) pa_nil)))))
    (pss_one (ps_ret (pv 1))))), ?_⟩
    refine ⟨(by show 0 ≤ sizeLine; decide), fun F0 hF => ?_⟩
    have smF : Same H (upd H F0 (.lst [])) := fun b o e => by rw [upd_ne (ne_of_none e hF)]; exact e
    refine ⟨_, rfl, a, Tm0, rfl, hN.map fun p C dx fs e => smF p _ e, hsz, fun p as H1 hp sm1 h1 af => ?_⟩
    have hF1 : H1 F0 = some (.lst []) := sm1 _ _ upd_same
    have nFp : F0 ≠ p := ne_of_none upd_same hp
    have hlen := af.len
    refine ⟨p, rfl, ⟨_, SqL.of h1⟩, ?_⟩
    refine for_list (K := K) (a := p) (xs := as.map V.ref) (fun i σ H2 => ∃ (v : Option V) (xs : List Addr), σ = [some (.ref a), some (.ref F0), v] ∧ Same H H2 ∧ H2 p = some (.lst (as.map V.ref)) ∧ H2 F0 = some (.lst (xs.map V.ref)) ∧
      (∀ q C dx fs, H1 q = some (.ins C dx fs) → H2 q = some (.ins C dx fs)) ∧ All2 (OutAt H2) ((pre Tm0).take i) xs)
      ⟨_, [], rfl, fun b o e => sm1 b o (smF b o e), h1, hF1, fun _ _ _ _ e => e, by rw [List.take_zero]; exact .nil⟩ (fun i σ H2 _ ⟨_, _, _, _, e, _⟩ => SqL.of e) ?_ ?_
    · rintro i x σ H2 hx ⟨v, xs, rfl, sm, hp2, hF2, smI, ao⟩
      obtain ⟨hi, rfl⟩ : ∃ h : i < as.length, x = V.ref as[i] := by
        rw [List.getElem?_map] at hx
        by_cases hi : i < as.length
        · rw [List.getElem?_eq_getElem hi] at hx
          exact ⟨hi, (Option.some.inj hx).symm⟩
        · rw [List.getElem?_eq_none (by omega)] at hx
          cases hx
      obtain ⟨hi2, hn⟩ := af.getL hi
      have hn2 := hn.map smI
      obtain ⟨dx, ks, hx2, hks, _, hps⟩ := hn2.split
      obtain ⟨fm, fdm, me, Fm, bm⟩ := N.pl (pre Tm0)[i]
      have hol := ao.len
      rw [List.length_take] at hol
      refine ⟨_, rfl, .inl ⟨rfl, _, SqL.of hF2⟩, ?_⟩
      refine ⟨_, rfl, _, _, dx, _, _, rfl, hx2, N.cl _, N.nm _, ?_⟩
      refine ⟨_, rfl, _, _, dx, _, fm, fdm, _, _, 1, CX0, E0, rfl, hx2, fl_no (.inr rfl), N.cl _, me, Fm, hr.mono (by decide), bm, pass0, _, dx, _, plV (pre Tm0)[i], rfl, hx2, hps, fun t ht => ?_⟩
      refine ⟨(by show 2 ≤ sizeLine; decide), fun u hu2 => ?_⟩
      have nFt : F0 ≠ t := ne_of_none hF2 ht
      have ntu : t ≠ u := fun e => by rw [e, upd_same] at hu2; cases hu2
      have hu0 : H2 u = none := by rw [← upd_ne (H := H2) (Ne.symm ntu)]; exact hu2
      have nFu : F0 ≠ u := ne_of_none hF2 hu0
      have npt : p ≠ t := ne_of_none hp2 ht
      have npu : p ≠ u := ne_of_none hp2 hu0
      refine ⟨F0, _, _, rfl, rfl, by rw [upd_ne nFu, upd_ne nFt]; exact hF2, by rw [List.length_map]; exact sz (by omega), ?_⟩
      refine ⟨_, xs ++ [u], rfl, fun b o e => ?_, by rw [upd_ne (Ne.symm nFp), upd_ne npu, upd_ne npt]; exact hp2, by rw [upd_same, List.map_append]; rfl, fun q C dx fs e => ?_, ?_⟩
      · rw [upd_ne (ne_of_none e hF), upd_ne (ne_of_none (sm b o e) hu0), upd_ne (ne_of_none (sm b o e) ht)]
        exact sm b o e
      · have e2 := smI q C dx fs e
        rw [upd_ne (ne_of e2 hF2 (by intro z; cases z)), upd_ne (ne_of_none e2 hu0), upd_ne (ne_of_none e2 ht)]
        exact e2
      · rw [List.take_add_one, List.getElem?_eq_getElem hi2]
        refine (ao.imp fun T x o => o.map fun q zs e => ?_).app (.cons ⟨t, by rw [upd_ne (Ne.symm nFu), upd_same], by rw [upd_ne (Ne.symm nFt), upd_ne ntu, upd_same]⟩ .nil)
        rw [upd_ne (ne_of e hF2 (by intro z; cases z)), upd_ne (ne_of_none e hu0), upd_ne (ne_of_none e ht)]
        exact e
    · rintro σ H2 ⟨v, xs, rfl, sm, hp2, hF2, smI, ao⟩
      rw [List.length_map, ← hlen, List.take_length] at ao
      exact ⟨_, rfl, k F0 xs H2 sm hF2 ao⟩
abbrev s_Node_eq : Stmt := inClass (top 24) 6
abbrev N_Node_eq : List Str := ["self", "other"]
theorem sc_Node_eq : FnScope N_Node_eq ["self", "other"] (defScope s_Node_eq) := ⟨rfl, rfl, rfl, by decide +kernel, rfl, by decide +kernel, by decide +kernel⟩
theorem ok_Node_eq {f : Addr} {fd : FuncData} (F : Fun K "__eq__" "Node.__eq__" s_Node_eq f fd) (T : Glob mg) {c : CA} (N : NodesOk P w K mg base c) (D_outline : Df P w K mg base 3 "outline" ["node"] (spOut c)) (hi : mg "isinstance" = none) {Cn : Addr} (hn : mg "Node" = some (.ref Cn))
    (hk : ∀ T, PySem.W.kitOne K (.ref (c.of T)) (.ref Cn) = some true) : FnOk P w K mg base CX0 4 f fd ["self", "other"] (spEqN c) := by
  refine F.ok sc_Node_eq (fun vs H Q E h => ?_) (fun cdv A outer s H vs Q E hr h => ?_)
  · obtain ⟨a, b, T, rfl, _⟩ := h
    rfl
  · obtain ⟨a, b, Tm0, rfl, hA, hB, hok, hsz, k⟩ := h
    have hu := hu_of hr
    have nd := sc_Node_eq.nd
    refine ⟨_, (pss_one (ps_ret (pe_and (pe_callB call_isi (by rfl) hi (by decide +kernel) (pa_cons (pv 1) (pa_cons (pe_glob (v := .ref Cn) rfl hn rfl) pa_nil))) (pe_one (pe_cmpR (op_eqD hr.units) (pe_call D_outline.ok (hr.mono (by decide)) (by rfl) D_outline.g D_outline.kp D_outline.b .nil pass0 (pa_cons (pv 0) pa_nil)) (pe_call D_outline.ok (hr.mono (by decide)) (by rfl) D_outline.g D_outline.kp D_outline.b .nil pass0 (pa_cons (pv 1) pa_nil)) (nomark _)))))), ?_⟩
    obtain ⟨dx, ks, hx, _⟩ := hB.split
    have nm := N.nm Tm0
    refine ⟨_, rfl, ?_⟩
    refine ⟨_, _, _, _, true, rfl, .own Cn, .base (.ins hx (N.cl Tm0) nm.ca nm.cn nm.ct nm.cm), hk Tm0, ?_⟩
    refine ⟨true, rfl, ?_⟩
    refine ⟨_, rfl, a, Tm0, rfl, hA, hsz, fun p xs H1 sm1 h1 o1 => ?_⟩
    refine ⟨_, rfl, b, Tm0, rfl, hB.map fun q C dx fs e => sm1 q _ e, hsz, fun q ys H2 sm2 h2 o2 => ?_⟩
    refine ⟨_, _, .lst (SqL.of (sm2 _ _ h1)) (out_dp (o1.imp fun T x o => o.map fun q zs e => sm2 q _ e)), .lst (SqL.of h2) (out_dp o2), outD_shaped hok, outD_shaped hok, ?_⟩
    have : PyData.eqv (.list ((pre Tm0).map oneD)) (.list ((pre Tm0).map oneD)) = true := SeqAt.eqv_refl _ (outD_lay hok)
    rw [this]
    exact k H2 (sm1.trans sm2)
end
end My

set_option Elab.async false
set_option linter.all false
set_option maxRecDepth 100000
set_option maxHeartbeats 1000000
namespace My
open PySem L2 MyR RT
/-! ### trees of all kinds, with calls (for k03) -/
inductive Tag
  | num (z : Int)
  | nam (x : List Nat)
  | two (k : Bk)
  | half
  | pow (n : Int)
  | cho (m r : Int)
  | call (x : List Nat)
  deriving DecidableEq
inductive Tr
  | mk (t : Tag) (ks : List Tr)
def Tag.ar (t : Tag) (n : Nat) : Prop := match t with
  | .num _ => n = 0
  | .nam _ => n = 0
  | .two _ => n = 2
  | .half => n = 1
  | .pow _ => n = 1
  | .cho _ _ => n = 3
  | .call _ => 1 ≤ n
def Tag.ok : Tag → Prop
  | .num z => -18446744073709551616 < z ∧ z < 18446744073709551616
  | .nam x => isNm x = true
  | .two _ => True
  | .half => True
  | .pow n => 0 ≤ n ∧ n ≤ 64
  | .cho m r => OkM m ∧ 0 ≤ r ∧ r < m
  | .call x => isNm x = true
mutual
def Tr.ok : Tr → Prop
  | .mk t ks => t.ok ∧ t.ar ks.length ∧ okL ks
def okL : List Tr → Prop
  | [] => True
  | k :: ks => k.ok ∧ okL ks
end
mutual
def preT : Tr → List (Tag × Nat)
  | .mk t ks => (t, ks.length) :: preTs ks
def preTs : List Tr → List (Tag × Nat)
  | [] => []
  | k :: ks => preT k ++ preTs ks
end
-- the order of the parts tells the tree
mutual
theorem preT_inj : ∀ (a b : Tr) (r s : List (Tag × Nat)), preT a ++ r = preT b ++ s → a = b ∧ r = s
  | .mk t ks, .mk u ls, r, s, h => by
    simp only [preT, List.cons_append, List.cons.injEq, Prod.mk.injEq] at h
    obtain ⟨⟨rfl, hl⟩, h⟩ := h
    obtain ⟨rfl, rfl⟩ := preTs_inj ks ls r s hl h
    exact ⟨rfl, rfl⟩
theorem preTs_inj : ∀ (as bs : List Tr) (r s : List (Tag × Nat)), as.length = bs.length → preTs as ++ r = preTs bs ++ s → as = bs ∧ r = s
  | [], [], r, s, _, h => ⟨rfl, by simpa [preTs] using h⟩
  | [], _ :: _, _, _, hl, _ => by simp at hl
  | _ :: _, [], _, _, hl, _ => by simp at hl
  | a :: as, b :: bs, r, s, hl, h => by
    simp only [preTs, List.append_assoc] at h
    obtain ⟨rfl, h2⟩ := preT_inj a b _ _ h
    obtain ⟨rfl, rfl⟩ := preTs_inj as bs r s (by simpa using hl) h2
    exact ⟨rfl, rfl⟩
end
theorem preT_eq {a b : Tr} : preT a = preT b ↔ a = b := ⟨fun h => (preT_inj a b [] [] (by rw [List.append_nil, List.append_nil]; exact h)).1, fun h => by rw [h]⟩
-- all the parts of a tree, the first one first
mutual
def subT : Tr → List Tr
  | .mk t ks => .mk t ks :: subTs ks
def subTs : List Tr → List Tr
  | [] => []
  | k :: ks => subT k ++ subTs ks
end
def Tr.tag : Tr → Tag
  | .mk t _ => t
def Tr.kids : Tr → List Tr
  | .mk _ ks => ks
def Tr.one (T : Tr) : Tag × Nat := (T.tag, T.kids.length)
mutual
theorem sub_pre : ∀ a : Tr, (subT a).map Tr.one = preT a
  | .mk t ks => by
    simp only [subT, preT, List.map_cons]
    rw [subs_pre ks]
    rfl
theorem subs_pre : ∀ as : List Tr, (subTs as).map Tr.one = preTs as
  | [] => rfl
  | a :: as => by
    simp only [subTs, preTs, List.map_append]
    rw [sub_pre a, subs_pre as]
end
theorem subTs_flat : ∀ ks : List Tr, subTs ks = ks.flatMap subT
  | [] => rfl
  | k :: ks => by
    simp only [subTs, List.flatMap_cons]
    rw [subTs_flat ks]
theorem subT_kids (T : Tr) : subT T = T :: T.kids.flatMap subT := by
  cases T with
  | mk t ks =>
    simp only [subT]
    rw [subTs_flat]
    rfl
-- another tree in the place of each name x
mutual
def putT (x : List Nat) (o : Tr) : Tr → Tr
  | .mk t ks => if t = .nam x then o else .mk t (putTs x o ks)
def putTs (x : List Nat) (o : Tr) : List Tr → List Tr
  | [] => []
  | k :: ks => putT x o k :: putTs x o ks
end
theorem putTs_map {x : List Nat} {o : Tr} : ∀ ks : List Tr, putTs x o ks = ks.map (putT x o)
  | [] => rfl
  | k :: ks => by
    simp only [putTs, List.map_cons]
    rw [putTs_map ks]
/-- the terms of k02's texts are trees -/
def Tm.tr : Tm → Tr
  | .num z => .mk (.num z) []
  | .nam x => .mk (.nam x) []
  | .two k a b => .mk (.two k) [a.tr, b.tr]
  | .half a => .mk .half [a.tr]
  | .pow a n => .mk (.pow n) [a.tr]
  | .cho a m r b c => .mk (.cho m r) [a.tr, b.tr, c.tr]
theorem Tm.tr_ok : ∀ {T : Tm}, T.ok → T.tr.ok
  | .num _, h => ⟨h, rfl, trivial⟩
  | .nam _, h => ⟨h, rfl, trivial⟩
  | .two _ _ _, h => ⟨trivial, rfl, Tm.tr_ok h.1, Tm.tr_ok h.2, trivial⟩
  | .half a, h => ⟨trivial, rfl, Tm.tr_ok (T := a) h, trivial⟩
  | .pow _ _, h => ⟨h.2, rfl, Tm.tr_ok h.1, trivial⟩
  | .cho _ _ _ _ _, h => ⟨h.2.2.2, rfl, Tm.tr_ok h.1, Tm.tr_ok h.2.1, Tm.tr_ok h.2.2.1, trivial⟩
/-! ### in the heap -/
def Tag.cls (c : CA) (cC : Addr) : Tag → Addr
  | .num _ => c.num
  | .nam _ => c.nam
  | .two k => c.bk k
  | .half => c.half
  | .pow _ => c.pow
  | .cho _ _ => c.cho
  | .call _ => cC
/-- the node at a has this tag and these nodes within -/
def Holds1 (c : CA) (cC : Addr) (H : Hp) (t : Tag) (ks : List Addr) (a : Addr) : Prop := ∃ dx, match t, ks with
  | .num z, [] => H a = some (.ins c.num dx [("value", .int z)])
  | .nam x, [] => H a = some (.ins c.nam dx [("name", .str (wd x))])
  | .two k, [p, q] => H a = some (.ins (c.bk k) dx [(k.f1, .ref p), (k.f2, .ref q)])
  | .half, [p] => H a = some (.ins c.half dx [("inner", .ref p)])
  | .pow n, [p] => H a = some (.ins c.pow dx [("base", .ref p), ("times", .int n)])
  | .cho m r, [p, q, t] => H a = some (.ins c.cho dx [("tested", .ref p), ("modulus", .int m), ("rest", .int r), ("yes", .ref q), ("no", .ref t)])
  | .call x, ks => ∃ u, H a = some (.ins cC dx [("name", .str (wd x)), ("arguments", .ref u)]) ∧ H u = some (.tup (ks.map V.ref))
  | _, _ => False
mutual
def NdAt (c : CA) (cC : Addr) (H : Hp) : Tr → Addr → Prop
  | .mk t ks, a => ∃ as, Holds1 c cC H t as a ∧ NdAll c cC H ks as
def NdAll (c : CA) (cC : Addr) (H : Hp) : List Tr → List Addr → Prop
  | [], as => as = []
  | k :: ks, as => ∃ a bs, as = a :: bs ∧ NdAt c cC H k a ∧ NdAll c cC H ks bs
end
theorem Holds1.map {c : CA} {cC : Addr} {H H' : Hp} (h1 : ∀ p C dx fs, H p = some (.ins C dx fs) → H' p = some (.ins C dx fs)) (h2 : ∀ p xs, H p = some (.tup xs) → H' p = some (.tup xs)) {t : Tag} {ks : List Addr} {a : Addr} (h : Holds1 c cC H t ks a) : Holds1 c cC H' t ks a := by
  obtain ⟨dx, h⟩ := h
  refine ⟨dx, ?_⟩
  split at h
  · exact h1 _ _ _ _ h
  · exact h1 _ _ _ _ h
  · exact h1 _ _ _ _ h
  · exact h1 _ _ _ _ h
  · exact h1 _ _ _ _ h
  · exact h1 _ _ _ _ h
  · obtain ⟨u, a, b⟩ := h
    exact ⟨u, h1 _ _ _ _ a, h2 _ _ b⟩
  · exact h.elim
mutual
theorem NdAt.map {c : CA} {cC : Addr} {H H' : Hp} (h1 : ∀ p C dx fs, H p = some (.ins C dx fs) → H' p = some (.ins C dx fs)) (h2 : ∀ p xs, H p = some (.tup xs) → H' p = some (.tup xs)) : ∀ {T : Tr} {a : Addr}, NdAt c cC H T a → NdAt c cC H' T a
  | .mk t ks, a, h => by
    simp only [NdAt] at h ⊢
    obtain ⟨as, q, r⟩ := h
    exact ⟨as, q.map h1 h2, NdAll.map h1 h2 r⟩
theorem NdAll.map {c : CA} {cC : Addr} {H H' : Hp} (h1 : ∀ p C dx fs, H p = some (.ins C dx fs) → H' p = some (.ins C dx fs)) (h2 : ∀ p xs, H p = some (.tup xs) → H' p = some (.tup xs)) : ∀ {Ts : List Tr} {as : List Addr}, NdAll c cC H Ts as → NdAll c cC H' Ts as
  | [], as, h => by
    simp only [NdAll] at h ⊢
    exact h
  | k :: ks, as, h => by
    simp only [NdAll] at h ⊢
    obtain ⟨a, bs, e, q, r⟩ := h
    exact ⟨a, bs, e, NdAt.map h1 h2 q, NdAll.map h1 h2 r⟩
end
theorem NdAll.all2 {c : CA} {cC : Addr} {H : Hp} : ∀ {Ts : List Tr} {as : List Addr}, NdAll c cC H Ts as ↔ All2 (NdAt c cC H) Ts as
  | [], as => by
    simp only [NdAll]
    exact ⟨fun e => by subst e; exact .nil, fun h => by cases h; rfl⟩
  | k :: ks, as => by
    simp only [NdAll]
    constructor
    · rintro ⟨a, bs, rfl, q, r⟩
      exact .cons q (NdAll.all2.mp r)
    · intro h
      cases h with
      | cons q r => exact ⟨_, _, rfl, q, NdAll.all2.mpr r⟩
end My

set_option Elab.async false
set_option linter.all false
set_option maxRecDepth 100000
set_option maxHeartbeats 1000000
namespace My
open PySem L2 MyR

open RT
/-! ### _nodes and _plain of every kind -/
def spCN (C : Addr) : Sp := fun vs H Q _ => ∃ (a dx u : Addr) (v : V), vs = [.ref a] ∧ H a = some (.ins C dx [("name", v), ("arguments", .ref u)]) ∧ Q (.ref u) H
def spCP (K : PySem.W.Frag) (C : Addr) : Sp := fun vs H Q _ => ∃ (a dx u : Addr) (v : V) (xs : List V), vs = [.ref a] ∧ H a = some (.ins C dx [("name", v), ("arguments", .ref u)]) ∧ H u = some (.tup xs) ∧ ∀ t, H t = none → Q (.ref t) (upd H t (.tup [v, .int xs.length]))
section
variable {P : Program} {w : World} {K : PySem.W.Frag} {mg : Str → Option Value} {base : Heap}
abbrev s_Call_nodes : Stmt := inClass (top 36) 1
abbrev N_Call_nodes : List Str := ["self"]
theorem sc_Call_nodes : FnScope N_Call_nodes ["self"] (defScope s_Call_nodes) := ⟨rfl, rfl, rfl, by decide +kernel, rfl, by decide +kernel, by decide +kernel⟩
theorem ok_Call_nodes {f C : Addr} {fd : FuncData} (F : Fun K "_nodes" "Call._nodes" s_Call_nodes f fd) (cl : Cls K C) (n1 : NoAttr K C "arguments") : FnOk P w K mg base CX0 1 f fd ["self"] (spCN C) := by
  refine F.ok sc_Call_nodes (fun vs H Q E h => ?_) (fun cdv A outer s H vs Q E hr h => ?_)
  · obtain ⟨a, dx, u, v, rfl, _⟩ := h
    rfl
  · obtain ⟨a, dx, u, v, rfl, ha, k⟩ := h
    refine ⟨_, (pss_one (ps_ret (pe_fld (pv 0) rfl))), ?_⟩
    exact ⟨_, rfl, a, C, dx, _, _, rfl, ha, cl, n1, (lk_ne (by decide +kernel)).trans lk_eq, k⟩
abbrev s_Call_plain : Stmt := inClass (top 36) 2
abbrev N_Call_plain : List Str := ["self"]
theorem sc_Call_plain : FnScope N_Call_plain ["self"] (defScope s_Call_plain) := ⟨rfl, rfl, rfl, by decide +kernel, rfl, by decide +kernel, by decide +kernel⟩
theorem ok_Call_plain {f C : Addr} {fd : FuncData} (F : Fun K "_plain" "Call._plain" s_Call_plain f fd) (T : Glob mg) (cl : Cls K C) (n0 : NoAttr K C "name") (n1 : NoAttr K C "arguments") : FnOk P w K mg base CX0 1 f fd ["self"] (spCP K C) := by
  refine F.ok sc_Call_plain (fun vs H Q E h => ?_) (fun cdv A outer s H vs Q E hr h => ?_)
  · obtain ⟨a, dx, u, v, xs, rfl, _⟩ := h
    rfl
  · obtain ⟨a, dx, u, v, xs, rfl, ha, hu, k⟩ := h
    refine ⟨_, (pss_one (ps_ret (pe_tup (pa_cons (pe_fld (pv 0) rfl) (pa_cons (pe_callB call_len_seq (by rfl) T.g_len PySem.boot_len (pa_cons (pe_fld (pv 0) rfl) pa_nil)) pa_nil))))), ?_⟩
    refine ⟨_, rfl, a, C, dx, _, _, rfl, ha, cl, n0, lk_eq, ?_⟩
    refine ⟨_, rfl, a, C, dx, _, _, rfl, ha, cl, n1, (lk_ne (by decide +kernel)).trans lk_eq, u, _, rfl, .inr (SqT.of hu), ?_⟩
    exact ⟨(by show 2 ≤ sizeLine; decide), fun t ht => k t ht⟩
end
def nmT : Tag → Str
  | .num _ => "Number"
  | .nam _ => "Name"
  | .two .add => "Add"
  | .two .sub => "Subtract"
  | .two .mul => "Multiply"
  | .two .over => "Over"
  | .two .rai => "Raised"
  | .half => "Half"
  | .pow _ => "Power"
  | .cho _ _ => "Choose"
  | .call _ => "Call"
def plT : Tag → Nat → List V
  | .num z, _ => [.int z]
  | .nam x, _ => [.str (wd x)]
  | .two _, _ => []
  | .half, _ => []
  | .pow n, _ => [.int n]
  | .cho m r, _ => [.int m, .int r]
  | .call x, n => [.str (wd x), .int n]
theorem Holds1.ins {c : CA} {cC : Addr} {H : Hp} {t : Tag} {ks : List Addr} {a : Addr} (h : Holds1 c cC H t ks a) : ∃ dx fs, H a = some (.ins (t.cls c cC) dx fs) ∧ fs.lookup ("_nodes" : Str) = none ∧ fs.lookup ("_plain" : Str) = none := by
  obtain ⟨dx, h⟩ := h
  have no : ∀ (T : Tm) (ks : List Addr), (fl T ks).lookup ("_nodes" : Str) = none ∧ (fl T ks).lookup ("_plain" : Str) = none := fun T ks => ⟨fl_no (.inl rfl), fl_no (.inr rfl)⟩
  split at h
  · exact ⟨dx, _, h, no (.num 0) []⟩
  · exact ⟨dx, _, h, no (.nam []) []⟩
  · exact ⟨dx, _, h, no (.two _ (.num 0) (.num 0)) [_, _]⟩
  · exact ⟨dx, _, h, no (.half (.num 0)) [_]⟩
  · exact ⟨dx, _, h, no (.pow (.num 0) _) [_]⟩
  · exact ⟨dx, _, h, no (.cho (.num 0) _ _ (.num 0) (.num 0)) [_, _, _]⟩
  · obtain ⟨u, h, _⟩ := h
    exact ⟨dx, _, h, (lk_ne (by decide +kernel)).trans (lk_ne (by decide +kernel)), (lk_ne (by decide +kernel)).trans (lk_ne (by decide +kernel))⟩
  · exact h.elim
/-- one method of one kind: what it hands back is a tuple -/
def MOk3 (P : Program) (w : World) (K : PySem.W.Frag) (mg : Str → Option Value) (base : Heap) (c : CA) (cC : Addr) (m : Str) (out : Tag → List Addr → List V) (t : Tag) : Prop := ∃ (f : Addr) (fd : FuncData) (sp : Sp), Meth K (t.cls c cC) m f ∧ FnOk P w K mg base CX0 1 f fd ["self"] sp ∧ Binds K fd ["self"] [] ∧
  ∀ (ks : List Addr) (a : Addr) (H : Hp) (Q : VK), Holds1 c cC H t ks a → (∀ u H', Same H H' → H' u = some (.tup (out t ks)) → Q (.ref u) H') → sp [.ref a] H Q E0
structure Nodes3 (P : Program) (w : World) (K : PySem.W.Frag) (mg : Str → Option Value) (base : Heap) (c : CA) (cC : Addr) : Prop where
  cl : ∀ t : Tag, Cls K (t.cls c cC)
  nm : ∀ t : Tag, NameOf K (t.cls c cC) (nmT t)
  nd : ∀ t, MOk3 P w K mg base c cC "_nodes" (fun _ ks => ks.map V.ref) t
  pl : ∀ t, MOk3 P w K mg base c cC "_plain" (fun t ks => plT t ks.length) t
end My

set_option Elab.async false
set_option linter.all false
set_option maxRecDepth 100000
set_option maxHeartbeats 1000000
namespace My
open PySem L2 MyR

open RT
/-! ### flat, over trees -/
def subL (Ts : List Tr) : List Tr := Ts.flatMap subT
theorem subL_app (a b : List Tr) : subL (a ++ b) = subL a ++ subL b := by simp [subL]
theorem subL_len (Ts : List Tr) : Ts.length ≤ (subL Ts).length := by
  induction Ts with
  | nil => exact Nat.le_refl _
  | cons T Ts ih =>
    have : 1 ≤ (subT T).length := by rw [subT_kids]; simp
    show Ts.length + 1 ≤ (List.flatMap subT (T :: Ts)).length
    rw [List.flatMap_cons, List.length_append]
    have : Ts.length ≤ (List.flatMap subT Ts).length := ih
    omega
/-- instances and tuples stay -/
def Stay (H H' : Hp) : Prop := (∀ p C dx fs, H p = some (.ins C dx fs) → H' p = some (.ins C dx fs)) ∧ ∀ p xs, H p = some (.tup xs) → H' p = some (.tup xs)
theorem Stay.of {H H' : Hp} (s : Same H H') : Stay H H' := ⟨fun _ _ _ _ e => s _ _ e, fun _ _ e => s _ _ e⟩
theorem Stay.trans {H H1 H2 : Hp} (a : Stay H H1) (b : Stay H1 H2) : Stay H H2 := ⟨fun p C dx fs e => b.1 _ _ _ _ (a.1 _ _ _ _ e), fun p xs e => b.2 _ _ (a.2 _ _ e)⟩
theorem Stay.lst {H : Hp} {p : Addr} {xs ys : List V} (h : H p = some (.lst xs)) : Stay H (upd H p (.lst ys)) := ⟨fun q C dx fs e => by rw [upd_ne (ne_of e h (by intro z; cases z))]; exact e, fun q zs e => by rw [upd_ne (ne_of e h (by intro z; cases z))]; exact e⟩
theorem NdAt.stay {c : CA} {cC : Addr} {H H' : Hp} (s : Stay H H') {T : Tr} {a : Addr} (h : NdAt c cC H T a) : NdAt c cC H' T a := h.map s.1 s.2
theorem NdAt.open' {c : CA} {cC : Addr} {H : Hp} {T : Tr} {a : Addr} (h : NdAt c cC H T a) : ∃ as, Holds1 c cC H T.tag as a ∧ All2 (NdAt c cC H) T.kids as := by
  cases T with
  | mk t ks =>
    simp only [NdAt] at h
    obtain ⟨as, q, r⟩ := h
    exact ⟨as, q, NdAll.all2.mp r⟩
/-- flat: a new list of all the nodes -/
def spFlat3 (c : CA) (cC : Addr) : Sp := fun vs H Q _ => ∃ (a : Addr) (T : Tr), vs = [.ref a] ∧ NdAt c cC H T a ∧ (subT T).length ≤ 1000000 ∧
  ∀ (p : Addr) (as : List Addr) (H' : Hp), H p = none → Same H H' → H' p = some (.lst (as.map V.ref)) → All2 (NdAt c cC H') (subT T) as → Q (.ref p) H'
theorem sz3 {n : Nat} (h : n ≤ 1000000) : n < sizeLine := Nat.lt_of_le_of_lt h (by decide)
section
variable {P : Program} {w : World} {K : PySem.W.Frag} {mg : Str → Option Value} {base : Heap}

theorem ok_flat3 {f : Addr} {fd : FuncData} (F : Fun K "flat" "flat" s_flat f fd) (T : Glob mg) {c : CA} {cC : Addr} (N : Nodes3 P w K mg base c cC) : FnOk P w K mg base CX0 2 f fd ["node"] (spFlat3 c cC) := by
  refine F.ok sc_flat (fun vs H Q E h => ?_) (fun cdv A outer s H vs Q E hr h => ?_)
  · obtain ⟨a, T, rfl, _⟩ := h
    rfl
  · obtain ⟨a, Tm0, rfl, hN, hsz, k⟩ := h
    have hu := hu_of hr
    have nd := sc_flat.nd
    refine ⟨_, (pss_cons (ps_set (i := 1) nd rfl (Or.inl rfl) (pe_lst pa_nil))
    (pss_cons (ps_set (i := 2) nd rfl (Or.inl rfl) (pe_lst (pa_cons (pv 0) pa_nil)))
    (pss_cons (ps_while PassesOwn.never (pt_truth (pv 2) (by intro _; rfl))
    (pss_cons (ps_set (i := 3) nd rfl (Or.inl rfl) (pe_bm0 PySem.F.plainAttrs_list PySem.F.slot_list_pop PySem.F.type_list_pop mt_pop (pv 2)))
    (pss_cons (ps_expr (pe_bm PySem.F.plainAttrs_list PySem.F.slot_list_append PySem.F.type_list_append mt_append (pv 1) (pa_cons (pv 3) pa_nil)))
    (pss_one (ps_for PassesOwn.never rfl (pi_revA (by rfl) T.g_reversed (pe_meth0V (pv 3))) (pg_name (i := 4) nd rfl (Or.inl rfl))
    (pss_one (ps_expr (pe_bm PySem.F.plainAttrs_list PySem.F.slot_list_append PySem.F.type_list_append mt_append (pv 2) (pa_cons (pv 4) pa_nil)))))))))
    (pss_one (ps_ret (pv 1)))))), ?_⟩
    refine ⟨(by show 0 ≤ sizeLine; decide), fun F0 hF => ?_⟩
    refine ⟨_, rfl, (by show 1 ≤ sizeLine; decide), fun W0 hW => ?_⟩
    have nFW : F0 ≠ W0 := fun e => by rw [e, upd_same] at hW; cases hW
    have hW0 : H W0 = none := by rw [← upd_ne (H := H) (Ne.symm nFW)]; exact hW
    have smI : Same H (upd (upd H F0 (.lst [])) W0 (.lst [V.ref a])) := fun b o e => by rw [upd_ne (ne_of_none e hW0), upd_ne (ne_of_none e hF)]; exact e
    refine ⟨fun m σ H1 => ∃ (v3 v4 : Option V) (fT wT : List Tr) (fa wa : List Addr), σ = [some (.ref a), some (.ref F0), some (.ref W0), v3, v4] ∧ Same H H1 ∧ H1 F0 = some (.lst (fa.map V.ref)) ∧ H1 W0 = some (.lst (wa.map V.ref)) ∧
      All2 (NdAt c cC H1) fT fa ∧ All2 (NdAt c cC H1) wT wa ∧ subT Tm0 = fT ++ subL wT.reverse ∧ m = (subL wT.reverse).length,
      ⟨_, none, none, [], [Tm0], [], [a], rfl, smI, by rw [upd_ne nFW, upd_same]; rfl, upd_same, .nil, .cons (hN.stay (.of smI)) .nil, by simp [subL], rfl⟩, ?_⟩
    rintro m σ H1 ⟨v3, v4, fT, wT, fa, wa, rfl, sm, h1, h2, af, aw, hpre, rfl⟩
    refine ⟨_, rfl, !(wa.map V.ref).isEmpty, .inl ⟨_, SqL.of h2, rfl⟩, ?_⟩
    have hlen : fT.length + (subL wT.reverse).length ≤ 1000000 := by rw [← List.length_append, ← hpre]; exact hsz
    refine ite2 (fun hz => ?_) (fun hz => ?_)
    · -- a part is taken
      obtain ⟨wa', w1, rfl⟩ : ∃ wa' w1, wa = wa' ++ [w1] := by
        rcases List.eq_nil_or_concat wa with e | ⟨l, x, e⟩
        · rw [e] at hz; cases hz
        · exact ⟨l, x, by rw [e]; simp⟩
      obtain ⟨wT', T1, rfl, aw', n1⟩ := aw.snoc
      have hpl : subL (wT' ++ [T1]).reverse = T1 :: (T1.kids.flatMap subT ++ subL wT'.reverse) := by
        rw [List.reverse_append]
        show subL (T1 :: wT'.reverse) = _
        show List.flatMap subT (T1 :: wT'.reverse) = _
        rw [List.flatMap_cons, subT_kids]
        rfl
      rw [hpl] at hpre hlen ⊢
      have hfl := af.len
      have hwl := aw'.len
      have hwl2 : wT'.length ≤ (subL wT'.reverse).length := by have := subL_len wT'.reverse; rwa [List.length_reverse] at this
      have hkl : T1.kids.length ≤ (T1.kids.flatMap subT).length := subL_len T1.kids
      rw [List.length_cons, List.length_append] at hlen
      refine ⟨fun σ' H' => ∃ (v3 v4 : Option V) (fT wT : List Tr) (fa wa : List Addr), σ' = [some (.ref a), some (.ref F0), some (.ref W0), v3, v4] ∧ Same H H' ∧ H' F0 = some (.lst (fa.map V.ref)) ∧ H' W0 = some (.lst (wa.map V.ref)) ∧
        All2 (NdAt c cC H') fT fa ∧ All2 (NdAt c cC H') wT wa ∧ subT Tm0 = fT ++ subL wT.reverse ∧ (subL wT.reverse).length < (T1 :: (T1.kids.flatMap subT ++ subL wT'.reverse)).length,
        fun σ' H' ⟨v3, v4, fT, wT, fa, wa, e1, e2, e3, e4, e5, e6, e7, e8⟩ => ⟨_, e8, v3, v4, fT, wT, fa, wa, e1, e2, e3, e4, e5, e6, e7, rfl⟩, ?_⟩
      have hlast : ((wa' ++ [w1]).map V.ref)[((wa' ++ [w1]).map V.ref).length - 1]? = some (V.ref w1) := by simp
      have hdrop : ((wa' ++ [w1]).map V.ref).dropLast = wa'.map V.ref := by simp
      refine ⟨_, rfl, .inl ⟨rfl, _, SqL.of h2⟩, W0, _, _, rfl, rfl, h2, hlast, ?_⟩
      rw [hdrop]
      have h1W : (upd H1 W0 (.lst (wa'.map V.ref))) F0 = some (.lst (fa.map V.ref)) := by rw [upd_ne nFW]; exact h1
      refine ⟨_, rfl, .inl ⟨rfl, _, SqL.of h1W⟩, _, rfl, F0, _, _, rfl, rfl, h1W, by rw [List.length_map]; exact sz3 (by omega), ?_⟩
      have smA : Stay H1 (upd (upd H1 W0 (.lst (wa'.map V.ref))) F0 (.lst (fa.map V.ref ++ [V.ref w1]))) := (Stay.lst h2).trans (Stay.lst h1W)
      have smB : Same H (upd (upd H1 W0 (.lst (wa'.map V.ref))) F0 (.lst (fa.map V.ref ++ [V.ref w1]))) := fun b o e => by
        rw [upd_ne (ne_of_none e hF), upd_ne (ne_of_none e hW0)]
        exact sm b o e
      have hA1 : (upd (upd H1 W0 (.lst (wa'.map V.ref))) F0 (.lst (fa.map V.ref ++ [V.ref w1]))) F0 = some (.lst ((fa ++ [w1]).map V.ref)) := by rw [upd_same, List.map_append]; rfl
      have hA2 : (upd (upd H1 W0 (.lst (wa'.map V.ref))) F0 (.lst (fa.map V.ref ++ [V.ref w1]))) W0 = some (.lst (wa'.map V.ref)) := by rw [upd_ne (Ne.symm nFW), upd_same]
      have n1' := n1.stay smA
      have af' := (af.app (All2.cons n1 .nil)).imp fun T a h => NdAt.stay smA h
      have aw'' := aw'.imp fun T a h => NdAt.stay smA h
      generalize (upd (upd H1 W0 (.lst (wa'.map V.ref))) F0 (.lst (fa.map V.ref ++ [V.ref w1]))) = H2 at smB hA1 hA2 n1' af' aw'' ⊢
      obtain ⟨ks, hold, hks⟩ := n1'.open'
      obtain ⟨dx, fs, hx, hno, _⟩ := hold.ins
      obtain ⟨fm, fdm, sp, me, Fm, bm, Sm⟩ := N.nd T1.tag
      refine ⟨_, rfl, w1, _, dx, fs, fm, fdm, _, sp, 1, CX0, E0, rfl, hx, hno, N.cl _, me, Fm, hr, bm, pass0, Sm ks w1 H2 _ hold fun t H3 sm3 ht => ?_⟩
      have nFt : F0 ≠ t := fun e => by
        have := sm3 _ _ hA1
        rw [e, ht] at this
        cases this
      have nWt : W0 ≠ t := fun e => by
        have := sm3 _ _ hA2
        rw [e, ht] at this
        cases this
      refine ⟨t, ks.map V.ref, rfl, .inr ⟨SqT.of ht, ?_⟩⟩
      have hk : ks.length = T1.kids.length := hks.len.symm
      refine for_ItvT (K := K) (a := t) (xs := ks.map V.ref) (fun i σ' H' => ∃ (v4 : Option V), σ' = [some (.ref a), some (.ref F0), some (.ref W0), some (.ref w1), v4] ∧ Same H H' ∧ H' t = some (.tup (ks.map V.ref)) ∧ H' F0 = some (.lst ((fa ++ [w1]).map V.ref)) ∧ H' W0 = some (.lst ((wa' ++ ks.reverse.take i).map V.ref)) ∧ Stay H2 H')
        ⟨v4, rfl, smB.trans sm3, ht, sm3 _ _ hA1, by rw [List.take_zero, List.append_nil]; exact sm3 _ _ hA2, .of sm3⟩
        (fun i σ' H' ⟨_, _, _, e, _⟩ => SqT.of e) ?_ ?_
      · rintro i x σ' H' hi hx2 ⟨v4', rfl, sm4, ht3, hF3, hW3, st⟩
        rw [List.length_map] at hi hx2
        have hxe : ks.reverse[i]? = some (ks[ks.length - 1 - i]'(by omega)) := by
          rw [List.getElem?_reverse hi]
          exact List.getElem?_eq_getElem (by omega)
        have hxv : x = V.ref (ks[ks.length - 1 - i]'(by omega)) := by
          rw [List.getElem?_map, List.getElem?_eq_getElem (show ks.length - 1 - i < ks.length by omega)] at hx2
          exact (Option.some.inj hx2).symm
        subst hxv
        refine ⟨_, rfl, .inl ⟨rfl, _, SqL.of hW3⟩, _, rfl, W0, _, _, rfl, rfl, hW3, ?_, ?_⟩
        · rw [List.length_map, List.length_append, List.length_take, List.length_reverse]
          exact sz3 (by omega)
        · refine ⟨_, rfl, fun b o e => by rw [upd_ne (ne_of_none e hW0)]; exact sm4 b o e, by rw [upd_ne (Ne.symm nWt)]; exact ht3, by rw [upd_ne nFW]; exact hF3, ?_, st.trans (Stay.lst hW3)⟩
          rw [upd_same, List.take_add_one, hxe]
          simp
      · rintro σ' H' ⟨v4', rfl, sm4, ht3, hF3, hW3, st⟩
        rw [List.length_map, List.take_of_length_le (by rw [List.length_reverse]; exact Nat.le_refl _)] at hW3
        refine ⟨_, _, fT ++ [T1], wT' ++ T1.kids.reverse, fa ++ [w1], wa' ++ ks.reverse, rfl, sm4, hF3, hW3, af'.imp fun T a h => NdAt.stay st h, (aw''.app hks.rev).imp fun T a h => NdAt.stay st h, ?_, ?_⟩
        · rw [hpre, List.reverse_append, List.reverse_reverse, subL_app]
          simp [subL]
        · rw [List.reverse_append, List.reverse_reverse, subL_app]
          simp [subL]
    · -- the end
      have he : wa = [] := by
        cases wa with
        | nil => rfl
        | cons x xs => exact absurd rfl hz
      subst he
      have hw : wT = [] := List.length_eq_zero_iff.mp aw.len
      subst hw
      refine ⟨_, rfl, k F0 fa H1 hF sm h1 ?_⟩
      rw [hpre]
      simpa [subL] using af
end
end My

set_option Elab.async false
set_option linter.all false
set_option maxRecDepth 100000
set_option maxHeartbeats 1000000
namespace My
open PySem L2 MyR

open RT
/-! ### the outline of a tree; == of trees -/
def plDT : Tag → Nat → List PyData
  | .num z, _ => [.int z]
  | .nam x, _ => [.str (wd x)]
  | .two _, _ => []
  | .half, _ => []
  | .pow n, _ => [.int n]
  | .cho m r, _ => [.int m, .int r]
  | .call x, n => [.str (wd x), .int n]
def oneP (p : Tag × Nat) : PyData := .tuple [.str (nmT p.1), .tuple (plDT p.1 p.2)]
def outP (T : Tr) : PyData := .list ((preT T).map oneP)
def kd : Tag → Nat
  | .num _ => 0
  | .nam _ => 1
  | .two .add => 2
  | .two .sub => 3
  | .two .mul => 4
  | .two .over => 5
  | .two .rai => 6
  | .half => 7
  | .pow _ => 8
  | .cho _ _ => 9
  | .call _ => 10
def nms : List Str := ["Number", "Name", "Add", "Subtract", "Multiply", "Over", "Raised", "Half", "Power", "Choose", "Call"]
theorem nm_kd (t : Tag) : nms[kd t]? = some (nmT t) := by
  cases t with
  | two k => cases k <;> rfl
  | _ => rfl
theorem kd_lt (t : Tag) : kd t < 11 := by
  cases t with
  | two k => cases k <;> decide
  | _ => simp [kd]
theorem kd_of {t u : Tag} (h : nmT t = nmT u) : kd t = kd u := by
  have key : ∀ i < 11, ∀ j < 11, nms[i]? = nms[j]? → i = j := by decide +kernel
  exact key _ (kd_lt t) _ (kd_lt u) (by rw [nm_kd, nm_kd, h])
theorem eqv_tup2 {a b c d : PyData} : PyData.eqv (.tuple [a, b]) (.tuple [c, d]) = (PyData.eqv a c && PyData.eqv b d) := by simp [PyData.eqv, PyData.eqvAll]
theorem tup_all {xs ys : List PyData} : PyData.eqv (.tuple xs) (.tuple ys) = PyData.eqvAll xs ys := by simp [PyData.eqv]
theorem one_eq {p q : Tag × Nat} (hp : p.1.ar p.2) (hq : q.1.ar q.2) : PyData.eqv (oneP p) (oneP q) = true ↔ p = q := by
  obtain ⟨t, n⟩ := p
  obtain ⟨u, m⟩ := q
  simp only at hp hq
  constructor
  · intro h
    unfold oneP at h
    rw [eqv_tup2, Bool.and_eq_true] at h
    obtain ⟨h1, h2⟩ := h
    have h1' : nmT t = nmT u := by simpa [PyData.eqv] using h1
    have hk := kd_of h1'
    rw [tup_all] at h2
    clear h1 h1'
    cases t with
    | two k =>
      cases u with
      | two k' =>
        have e : k = k' := by cases k <;> cases k' <;> first | rfl | (simp [kd] at hk)
        subst e
        simp only [Tag.ar] at hp hq
        rw [hp, hq]
      | _ => cases k <;> simp [kd] at hk
    | num z =>
      cases u with
      | num z' =>
        simp only [Tag.ar] at hp hq
        simp [plDT, PyData.eqvAll, PyData.eqv] at h2
        rw [h2, hp, hq]
      | two k => cases k <;> simp [kd] at hk
      | _ => simp [kd] at hk
    | nam x =>
      cases u with
      | nam y =>
        simp only [Tag.ar] at hp hq
        simp [plDT, PyData.eqvAll, PyData.eqv] at h2
        rw [wd_inj h2, hp, hq]
      | two k => cases k <;> simp [kd] at hk
      | _ => simp [kd] at hk
    | half =>
      cases u with
      | half =>
        simp only [Tag.ar] at hp hq
        rw [hp, hq]
      | two k => cases k <;> simp [kd] at hk
      | _ => simp [kd] at hk
    | pow a =>
      cases u with
      | pow b =>
        simp only [Tag.ar] at hp hq
        simp [plDT, PyData.eqvAll, PyData.eqv] at h2
        rw [h2, hp, hq]
      | two k => cases k <;> simp [kd] at hk
      | _ => simp [kd] at hk
    | cho a b =>
      cases u with
      | cho a' b' =>
        simp only [Tag.ar] at hp hq
        simp [plDT, PyData.eqvAll, PyData.eqv] at h2
        rw [h2.1, h2.2, hp, hq]
      | two k => cases k <;> simp [kd] at hk
      | _ => simp [kd] at hk
    | call x =>
      cases u with
      | call y =>
        simp [plDT, PyData.eqvAll, PyData.eqv] at h2
        rw [wd_inj h2.1, Int.ofNat.inj h2.2]
      | two k => cases k <;> simp [kd] at hk
      | _ => simp [kd] at hk
  · intro h
    cases h
    unfold oneP
    rw [eqv_tup2, tup_all]
    cases t <;> simp [plDT, PyData.eqvAll, PyData.eqv]
theorem all_eq : ∀ {xs ys : List (Tag × Nat)}, (∀ p ∈ xs, p.1.ar p.2) → (∀ p ∈ ys, p.1.ar p.2) → (PyData.eqvAll (xs.map oneP) (ys.map oneP) = true ↔ xs = ys)
  | [], [], _, _ => by simp [PyData.eqvAll]
  | [], _ :: _, _, _ => by simp [PyData.eqvAll]
  | _ :: _, [], _, _ => by simp [PyData.eqvAll]
  | p :: xs, q :: ys, hx, hy => by
    have h1 := one_eq (hx p List.mem_cons_self) (hy q List.mem_cons_self)
    have h2 := all_eq (fun r hr => hx r (List.mem_cons_of_mem _ hr)) (fun r hr => hy r (List.mem_cons_of_mem _ hr)) (xs := xs) (ys := ys)
    show (PyData.eqv (oneP p) (oneP q) && PyData.eqvAll (xs.map oneP) (ys.map oneP)) = true ↔ _
    rw [Bool.and_eq_true, h1, h2, List.cons.injEq]
mutual
theorem pre_ok3 : ∀ {T : Tr}, T.ok → ∀ p ∈ preT T, p.1.ar p.2 ∧ p.1.ok
  | .mk t ks, h, p, hp => by
    simp only [Tr.ok] at h
    simp only [preT, List.mem_cons] at hp
    rcases hp with rfl | hp
    · exact ⟨h.2.1, h.1⟩
    · exact pre_okL h.2.2 p hp
theorem pre_okL : ∀ {Ts : List Tr}, okL Ts → ∀ p ∈ preTs Ts, p.1.ar p.2 ∧ p.1.ok
  | [], _, p, hp => by simp [preTs] at hp
  | k :: ks, h, p, hp => by
    simp only [okL] at h
    simp only [preTs, List.mem_append] at hp
    rcases hp with hp | hp
    · exact pre_ok3 h.1 p hp
    · exact pre_okL h.2 p hp
end
/-- == of outlines is == of trees -/
theorem out_eq {A B : Tr} (ha : A.ok) (hb : B.ok) : PyData.eqv (outP A) (outP B) = true ↔ A = B := by
  unfold outP
  have e : PyData.eqv (.list ((preT A).map oneP)) (.list ((preT B).map oneP)) = PyData.eqvAll ((preT A).map oneP) ((preT B).map oneP) := by simp [PyData.eqv]
  rw [e, all_eq (fun p hp => (pre_ok3 ha p hp).1) (fun p hp => (pre_ok3 hb p hp).1), preT_eq]
theorem nmT_lay (t : Tag) : PyData.canLay0 (.str (nmT t)) = true := by
  cases t with
  | two k => cases k <;> (simp only [nmT]; decide +kernel)
  | _ => simp only [nmT]; decide +kernel
theorem plDT_lay {t : Tag} {n : Nat} (h : t.ok) : PyData.canLayAll0 (plDT t n) = true := by
  cases t with
  | nam x =>
    show (PyData.canLay0 (.str (wd x)) && PyData.canLayAll0 []) = true
    rw [nm_ok h]
    rfl
  | call x =>
    show (PyData.canLay0 (.str (wd x)) && PyData.canLayAll0 [.int n]) = true
    rw [nm_ok h]
    rfl
  | _ => rfl
theorem oneP_depth (p : Tag × Nat) : PyData.depth (oneP p) = 2 := by
  obtain ⟨t, n⟩ := p
  cases t <;> rfl
theorem outP_shaped {T : Tr} (h : T.ok) : SeqAt.shaped (outP T) = true := by
  unfold SeqAt.shaped
  have h1 : PyData.canLay0 (outP T) = true := by
    show PyData.canLayAll0 ((preT T).map oneP) = true
    have := pre_ok3 h
    generalize preT T = l at this
    induction l with
    | nil => rfl
    | cons p l ih =>
      show (PyData.canLay0 (oneP p) && PyData.canLayAll0 (l.map oneP)) = true
      have hp : PyData.canLay0 (oneP p) = true := by
        show (PyData.canLay0 (.str (nmT p.1)) && (PyData.canLayAll0 (plDT p.1 p.2) && PyData.canLayAll0 [])) = true
        rw [nmT_lay, plDT_lay (this p List.mem_cons_self).2]
        rfl
      rw [hp, ih fun q hq => this q (List.mem_cons_of_mem _ hq)]
      rfl
  have h2 : PyData.depthAll ((preT T).map oneP) ≤ 2 := by
    generalize preT T = l
    induction l with
    | nil => exact Nat.zero_le _
    | cons p l ih =>
      show max (PyData.depth (oneP p)) (PyData.depthAll (l.map oneP)) ≤ 2
      rw [oneP_depth]
      omega
  have h3 : PyData.depth (outP T) = PyData.depthAll ((preT T).map oneP) + 1 := rfl
  rw [h1, h3]
  simp
  omega
def OutAt3 (H : Hp) (T : Tr) (x : Addr) : Prop := ∃ u, H x = some (.tup [.str (nmT T.tag), .ref u]) ∧ H u = some (.tup (plT T.tag T.kids.length))
theorem plT_dp {K : PySem.W.Frag} {H : Hp} : ∀ (t : Tag) (n : Nat), DpAll K H (plT t n) (plDT t n)
  | .num _, _ => .cons (.int _) .nil
  | .nam _, _ => .cons (.str _) .nil
  | .two _, _ => .nil
  | .half, _ => .nil
  | .pow _, _ => .cons (.int _) .nil
  | .cho _ _, _ => .cons (.int _) (.cons (.int _) .nil)
  | .call _, _ => .cons (.str _) (.cons (.int _) .nil)
theorem out_dp3 {K : PySem.W.Frag} {H : Hp} : ∀ {Ts : List Tr} {xs : List Addr}, All2 (OutAt3 H) Ts xs → DpAll K H (xs.map V.ref) ((Ts.map Tr.one).map oneP)
  | _, _, .nil => .nil
  | _, _, .cons ⟨u, a, b⟩ r => .cons (.tup (SqT.of a) (.cons (.str _) (.cons (.tup (SqT.of b) (plT_dp _ _)) .nil))) (out_dp3 r)
end My

set_option Elab.async false
set_option linter.all false
set_option maxRecDepth 100000
set_option maxHeartbeats 1000000
namespace My
open PySem L2 MyR

open RT
def spOut3 (c : CA) (cC : Addr) : Sp := fun vs H Q _ => ∃ (a : Addr) (T : Tr), vs = [.ref a] ∧ NdAt c cC H T a ∧ (subT T).length ≤ 1000000 ∧
  ∀ (p : Addr) (xs : List Addr) (H' : Hp), Same H H' → H' p = some (.lst (xs.map V.ref)) → All2 (OutAt3 H') (subT T) xs → Q (.ref p) H'
/-- == of two trees -/
def spEq3 (c : CA) (cC : Addr) : Sp := fun vs H Q _ => ∃ (a b : Addr) (A B : Tr), vs = [.ref a, .ref b] ∧ NdAt c cC H A a ∧ NdAt c cC H B b ∧ A.ok ∧ B.ok ∧ (subT A).length ≤ 1000000 ∧ (subT B).length ≤ 1000000 ∧ ∀ (t : Bool) H', Same H H' → (t = true ↔ A = B) → Q (.bl t) H'
theorem OutAt3.stay {H H' : Hp} (s : Stay H H') {T : Tr} {x : Addr} : OutAt3 H T x → OutAt3 H' T x
  | ⟨u, a, b⟩ => ⟨u, s.2 _ _ a, s.2 _ _ b⟩
theorem new_same3 {H : Hp} {p : Addr} {o : HO} (h : H p = none) : Same H (upd H p o) := fun b q e => by rw [upd_ne (ne_of_none e h)]; exact e
section
variable {P : Program} {w : World} {K : PySem.W.Frag} {mg : Str → Option Value} {base : Heap}
theorem ok_outline3 {f : Addr} {fd : FuncData} (F : Fun K "outline" "outline" s_outline f fd) (T : Glob mg) {c : CA} {cC : Addr} (N : Nodes3 P w K mg base c cC) (D_flat : Df P w K mg base 2 "flat" ["node"] (spFlat3 c cC)) : FnOk P w K mg base CX0 3 f fd ["node"] (spOut3 c cC) := by
  refine F.ok sc_outline (fun vs H Q E h => ?_) (fun cdv A outer s H vs Q E hr h => ?_)
  · obtain ⟨a, T, rfl, _⟩ := h
    rfl
  · obtain ⟨a, T0, rfl, hN, hsz, k⟩ := h
    have hu := hu_of hr
    have nd := sc_outline.nd
    refine ⟨_, (pss_cons (ps_set (i := 1) nd rfl (Or.inl rfl) (pe_lst pa_nil))
    (pss_cons (ps_for PassesOwn.never rfl (pi_list (pe_call D_flat.ok (hr.mono (by decide)) (by rfl) D_flat.g D_flat.kp D_flat.b .nil pass0 (pa_cons (pv 0) pa_nil))) (pg_name (i := 2) nd rfl (Or.inl rfl))
    (pss_one (ps_expr (pe_bm PySem.F.plainAttrs_list PySem.F.slot_list_append PySem.F.type_list_append mt_append (pv 1) (pa_cons (pe_tup (pa_cons (pe_clsName (pv 2) rfl rfl) (pa_cons (pe_meth0V (pv 2)) pa_nil))) pa_nil)))))
    (pss_one (ps_ret (pv 1))))), ?_⟩
    refine ⟨(by show 0 ≤ sizeLine; decide), fun F0 hF => ?_⟩
    have smF := new_same3 (o := .lst []) hF
    refine ⟨_, rfl, a, T0, rfl, hN.stay (.of smF), hsz, fun p as H1 hp sm1 h1 af => ?_⟩
    have hF1 : H1 F0 = some (.lst []) := sm1 _ _ upd_same
    have nFp : F0 ≠ p := ne_of_none upd_same hp
    have hlen := af.len
    refine ⟨p, rfl, ⟨_, SqL.of h1⟩, ?_⟩
    refine for_list (K := K) (a := p) (xs := as.map V.ref) (fun i σ H2 => ∃ (v : Option V) (xs : List Addr), σ = [some (.ref a), some (.ref F0), v] ∧ Same H H2 ∧ H2 p = some (.lst (as.map V.ref)) ∧ H2 F0 = some (.lst (xs.map V.ref)) ∧ Stay H1 H2 ∧ All2 (OutAt3 H2) ((subT T0).take i) xs)
      ⟨_, [], rfl, smF.trans sm1, h1, hF1, .of (Same.refl _), by rw [List.take_zero]; exact .nil⟩ (fun i σ H2 _ ⟨_, _, _, _, e, _⟩ => SqL.of e) ?_ ?_
    · rintro i x σ H2 hx ⟨v, xs, rfl, sm, hp2, hF2, st, ao⟩
      obtain ⟨hi, rfl⟩ : ∃ h : i < as.length, x = V.ref as[i] := by
        rw [List.getElem?_map] at hx
        by_cases hi : i < as.length
        · rw [List.getElem?_eq_getElem hi] at hx
          exact ⟨hi, (Option.some.inj hx).symm⟩
        · rw [List.getElem?_eq_none (by omega)] at hx
          cases hx
      obtain ⟨hi2, hn⟩ := af.getL hi
      obtain ⟨ks, hold, hks⟩ := (hn.stay st).open'
      obtain ⟨dx, fs, hx2, _, hno⟩ := hold.ins
      obtain ⟨fm, fdm, sp, me, Fm, bm, Sm⟩ := N.pl ((subT T0)[i]).tag
      have hol := ao.len
      rw [List.length_take] at hol
      refine ⟨_, rfl, .inl ⟨rfl, _, SqL.of hF2⟩, ?_⟩
      refine ⟨_, rfl, _, _, dx, _, _, rfl, hx2, N.cl _, N.nm _, ?_⟩
      refine ⟨_, rfl, _, _, dx, _, fm, fdm, _, sp, 1, CX0, E0, rfl, hx2, hno, N.cl _, me, Fm, hr.mono (by decide), bm, pass0, Sm ks _ H2 _ hold fun t H3 sm3 ht => ?_⟩
      refine ⟨(by show 2 ≤ sizeLine; decide), fun u hu2 => ?_⟩
      have hF3 := sm3 _ _ hF2
      have nFu : F0 ≠ u := ne_of_none hF3 hu2
      have s4 := new_same3 (o := .tup [V.str (nmT ((subT T0)[i]).tag), .ref t]) hu2
      have hF4 := s4 _ _ hF3
      refine ⟨F0, _, _, rfl, rfl, hF4, by rw [List.length_map]; exact sz3 (by omega), ?_⟩
      have s34 := sm3.trans s4
      refine ⟨_, xs ++ [u], rfl, fun b o e => ?_, by rw [upd_ne (Ne.symm nFp)]; exact s34 _ _ hp2, by rw [upd_same, List.map_append]; rfl, st.trans ((Stay.of s34).trans (Stay.lst hF4)), ?_⟩
      · rw [upd_ne (ne_of_none e hF)]
        exact s34 _ _ (sm _ _ e)
      · have stF := (Stay.lst (ys := xs.map V.ref ++ [V.ref u]) hF4)
        rw [List.take_add_one, List.getElem?_eq_getElem hi2]
        have hkl : ks.length = ((subT T0)[i]).kids.length := hks.len.symm
        have ht' := ht
        simp only [hkl] at ht'
        exact (ao.imp fun T x o => o.stay ((Stay.of s34).trans stF)).app (.cons ⟨t, stF.2 _ _ upd_same, stF.2 _ _ (s4 _ _ ht')⟩ .nil)
    · rintro σ H2 ⟨v, xs, rfl, sm, hp2, hF2, st, ao⟩
      rw [List.length_map, ← hlen, List.take_length] at ao
      exact ⟨_, rfl, k F0 xs H2 sm hF2 ao⟩

theorem ok_Node_eq3 {f : Addr} {fd : FuncData} (F : Fun K "__eq__" "Node.__eq__" s_Node_eq f fd) {c : CA} {cC : Addr} (N : Nodes3 P w K mg base c cC) (D_outline : Df P w K mg base 3 "outline" ["node"] (spOut3 c cC)) (hi : mg "isinstance" = none) {Cn : Addr} (hn : mg "Node" = some (.ref Cn))
    (hk : ∀ t : Tag, PySem.W.kitOne K (.ref (t.cls c cC)) (.ref Cn) = some true) : FnOk P w K mg base CX0 4 f fd ["self", "other"] (spEq3 c cC) := by
  refine F.ok sc_Node_eq (fun vs H Q E h => ?_) (fun cdv Ar outer s H vs Q E hr h => ?_)
  · obtain ⟨a, b, A, B, rfl, _⟩ := h
    rfl
  · obtain ⟨a, b, A, B, rfl, hA, hB, okA, okB, szA, szB, k⟩ := h
    have hu := hu_of hr
    have nd := sc_Node_eq.nd
    refine ⟨_, (pss_one (ps_ret (pe_and (pe_callB call_isi (by rfl) hi (by decide +kernel) (pa_cons (pv 1) (pa_cons (pe_glob (v := .ref Cn) rfl hn rfl) pa_nil))) (pe_one (pe_cmpR (op_eqD hr.units) (pe_call D_outline.ok (hr.mono (by decide)) (by rfl) D_outline.g D_outline.kp D_outline.b .nil pass0 (pa_cons (pv 0) pa_nil)) (pe_call D_outline.ok (hr.mono (by decide)) (by rfl) D_outline.g D_outline.kp D_outline.b .nil pass0 (pa_cons (pv 1) pa_nil)) (nomark _)))))), ?_⟩
    obtain ⟨ks, hold, _⟩ := hB.open'
    obtain ⟨dx, fs, hx, _, _⟩ := hold.ins
    have nm := N.nm B.tag
    refine ⟨_, rfl, ?_⟩
    refine ⟨_, _, _, _, true, rfl, .own Cn, .base (.ins hx (N.cl B.tag) nm.ca nm.cn nm.ct nm.cm), hk B.tag, ?_⟩
    refine ⟨true, rfl, ?_⟩
    refine ⟨_, rfl, a, A, rfl, hA, szA, fun p xs H1 sm1 h1 o1 => ?_⟩
    refine ⟨_, rfl, b, B, rfl, hB.stay (.of sm1), szB, fun q ys H2 sm2 h2 o2 => ?_⟩
    have d1 : Dp K H2 (.ref p) (outP A) := by
      have := out_dp3 (K := K) (o1.imp fun T x o => o.stay (Stay.of sm2))
      rw [sub_pre] at this
      exact .lst (SqL.of (sm2 _ _ h1)) this
    have d2 : Dp K H2 (.ref q) (outP B) := by
      have := out_dp3 (K := K) o2
      rw [sub_pre] at this
      exact .lst (SqL.of h2) this
    exact ⟨_, _, d1, d2, outP_shaped okA, outP_shaped okB, k _ H2 (sm1.trans sm2) (out_eq okA okB)⟩
end
end My

set_option Elab.async false
set_option linter.all false
set_option maxRecDepth 100000
set_option maxHeartbeats 1000000
namespace My
open PySem L2 MyR

open RT
def isRf : V → Bool
  | .ref _ => true
  | _ => false
/-- a number, a text or a tuple -/
def Part (H : Hp) (v : V) : Prop := (∃ i, v = .int i) ∨ (∃ x, v = .str x) ∨ ∃ k xs, v = .ref k ∧ H k = some (.tup xs)
theorem isi_tup {K : PySem.W.Frag} {H : Hp} {v : V} (h : Part H v) : ∃ t, TyX K H v t ∧ PySem.W.kitOne K t (.type "tuple") = some (isRf v) := by
  rcases h with ⟨i, rfl⟩ | ⟨x, rfl⟩ | ⟨k, xs, rfl, e⟩
  · exact ⟨_, .base (.int i), kit_ty (a := "int") (b := "tuple") (r := false) (by decide +kernel)⟩
  · exact ⟨_, .base (.str x), kit_ty (a := "str") (b := "tuple") (r := false) (by decide +kernel)⟩
  · exact ⟨_, .base (.tup e), kit_ty (a := "tuple") (b := "tuple") (r := true) (by decide +kernel)⟩
theorem filter_snoc {α : Type} {p : α → Bool} {xs : List α} {i : Nat} {x : α} (h : xs[i]? = some x) : (xs.take (i + 1)).filter p = (xs.take i).filter p ++ (if p x = true then [x] else []) := by
  rw [List.take_add_one, h, List.filter_append]
  by_cases q : p x = true
  · simp [q]
  · simp [q]
theorem call_isiN {X : Cx} {K : PySem.W.Frag} (h : X.K = K) : CallR X (.builtin "isinstance") (rIsi K) := h ▸ call_isi

/-! ### terms with calls, as tuples -/
def HoldsT (H : Hp) (t : Tag) (ks : List Addr) (a : Addr) : Prop := match t, ks with
  | .num z, [] => H a = some (.tup [.str "number", .int z])
  | .nam x, [] => H a = some (.tup [.str "name", .str (wd x)])
  | .two k, [p, q] => H a = some (.tup [.str k.s, .ref p, .ref q])
  | .half, [p] => H a = some (.tup [.str "half", .ref p])
  | .pow n, [p] => H a = some (.tup [.str "power", .ref p, .int n])
  | .cho m r, [p, q, t] => H a = some (.tup [.str "choose", .ref p, .int m, .int r, .ref q, .ref t])
  | .call x, ks => ∃ u, H a = some (.tup [.str "call", .str (wd x), .ref u]) ∧ H u = some (.tup (ks.map V.ref))
  | _, _ => False
mutual
def TrAt (H : Hp) : Tr → Addr → Prop
  | .mk t ks, a => ∃ as, HoldsT H t as a ∧ TrAll H ks as
def TrAll (H : Hp) : List Tr → List Addr → Prop
  | [], as => as = []
  | k :: ks, as => ∃ a bs, as = a :: bs ∧ TrAt H k a ∧ TrAll H ks bs
end
theorem HoldsT.map {H H' : Hp} (h2 : ∀ p xs, H p = some (.tup xs) → H' p = some (.tup xs)) {t : Tag} {ks : List Addr} {a : Addr} (h : HoldsT H t ks a) : HoldsT H' t ks a := by
  unfold HoldsT at h ⊢
  split at h
  · exact h2 _ _ h
  · exact h2 _ _ h
  · exact h2 _ _ h
  · exact h2 _ _ h
  · exact h2 _ _ h
  · exact h2 _ _ h
  · obtain ⟨u, a, b⟩ := h
    exact ⟨u, h2 _ _ a, h2 _ _ b⟩
  · exact h.elim
mutual
theorem TrAt.map {H H' : Hp} (h2 : ∀ p xs, H p = some (.tup xs) → H' p = some (.tup xs)) : ∀ {T : Tr} {a : Addr}, TrAt H T a → TrAt H' T a
  | .mk t ks, a, h => by
    simp only [TrAt] at h ⊢
    obtain ⟨as, q, r⟩ := h
    exact ⟨as, q.map h2, TrAll.map h2 r⟩
theorem TrAll.map {H H' : Hp} (h2 : ∀ p xs, H p = some (.tup xs) → H' p = some (.tup xs)) : ∀ {Ts : List Tr} {as : List Addr}, TrAll H Ts as → TrAll H' Ts as
  | [], as, h => by
    simp only [TrAll] at h ⊢
    exact h
  | k :: ks, as, h => by
    simp only [TrAll] at h ⊢
    obtain ⟨a, bs, e, q, r⟩ := h
    exact ⟨a, bs, e, TrAt.map h2 q, TrAll.map h2 r⟩
end
theorem TrAll.all2 {H : Hp} : ∀ {Ts : List Tr} {as : List Addr}, TrAll H Ts as ↔ All2 (TrAt H) Ts as
  | [], as => by
    simp only [TrAll]
    exact ⟨fun e => by subst e; exact .nil, fun h => by cases h; rfl⟩
  | k :: ks, as => by
    simp only [TrAll]
    constructor
    · rintro ⟨a, bs, rfl, q, r⟩
      exact .cons q (TrAll.all2.mp r)
    · intro h
      cases h with
      | cons q r => exact ⟨_, _, rfl, q, TrAll.all2.mpr r⟩
theorem TrAt.open' {H : Hp} {T : Tr} {a : Addr} (h : TrAt H T a) : ∃ as, HoldsT H T.tag as a ∧ All2 (TrAt H) T.kids as := by
  cases T with
  | mk t ks =>
    simp only [TrAt] at h
    obtain ⟨as, q, r⟩ := h
    exact ⟨as, q, TrAll.all2.mp r⟩
theorem TrAt.of {H : Hp} {T : Tr} {a : Addr} {as : List Addr} (h : HoldsT H T.tag as a) (k : All2 (TrAt H) T.kids as) : TrAt H T a := by
  cases T with
  | mk t ks =>
    simp only [TrAt]
    exact ⟨as, h, TrAll.all2.mpr k⟩
/-- k02's terms are trees -/
theorem TmAt.tr {H : Hp} : ∀ {T : Tm} {a : Addr}, TmAt H T a → TrAt H T.tr a
  | .num _, a, e => .of (T := .mk _ []) (as := []) e .nil
  | .nam _, a, e => .of (T := .mk _ []) (as := []) e .nil
  | .two _ _ _, a, ⟨p, q, e, ea, eb⟩ => .of (T := .mk _ _) (as := [p, q]) e (.cons ea.tr (.cons eb.tr .nil))
  | .half _, a, ⟨p, e, ea⟩ => .of (T := .mk _ _) (as := [p]) e (.cons ea.tr .nil)
  | .pow _ _, a, ⟨p, e, ea⟩ => .of (T := .mk _ _) (as := [p]) e (.cons ea.tr .nil)
  | .cho _ _ _ _ _, a, ⟨p, q, t, e, ea, eb, ec⟩ => .of (T := .mk _ _) (as := [p, q, t]) e (.cons ea.tr (.cons eb.tr (.cons ec.tr .nil)))
def hdT : Tag → Str
  | .num _ => "number"
  | .nam _ => "name"
  | .two k => k.s
  | .half => "half"
  | .pow _ => "power"
  | .cho _ _ => "choose"
  | .call _ => "call"
theorem HoldsT.tupl {H : Hp} {t : Tag} {ks : List Addr} {a : Addr} (h : HoldsT H t ks a) : ∃ xs, H a = some (.tup (.str (hdT t) :: xs)) := by
  unfold HoldsT at h
  split at h
  · exact ⟨_, h⟩
  · exact ⟨_, h⟩
  · exact ⟨_, h⟩
  · exact ⟨_, h⟩
  · exact ⟨_, h⟩
  · exact ⟨_, h⟩
  · obtain ⟨u, h, _⟩ := h
    exact ⟨_, h⟩
  · exact h.elim
theorem TrAt.tupl {H : Hp} {T : Tr} {a : Addr} (h : TrAt H T a) : ∃ xs, H a = some (.tup xs) := by
  obtain ⟨as, q, _⟩ := h.open'
  obtain ⟨xs, e⟩ := q.tupl
  exact ⟨_, e⟩
/-- what stands behind the kind: the terms are just the references (no calls) -/
theorem HoldsT.rest {H : Hp} {t : Tag} {ks : List Addr} {a : Addr} (h : HoldsT H t ks a) (hc : ∀ x, t ≠ .call x) (hk : ∀ k ∈ ks, ∃ xs, H k = some (.tup xs)) : ∃ vs, H a = some (.tup (.str (hdT t) :: vs)) ∧ vs.filter isRf = ks.map V.ref ∧ (∀ v ∈ vs, Part H v) ∧ vs.length ≤ 5 ∧ 1 ≤ vs.length := by
  have pr : ∀ k ∈ ks, Part H (.ref k) := fun k hk' => by
    obtain ⟨xs, e⟩ := hk k hk'
    exact .inr (.inr ⟨k, xs, rfl, e⟩)
  unfold HoldsT at h
  split at h
  · exact ⟨_, h, rfl, by intro v hv; simp at hv; subst hv; exact .inl ⟨_, rfl⟩, by simp, by simp⟩
  · exact ⟨_, h, rfl, by intro v hv; simp at hv; subst hv; exact .inr (.inl ⟨_, rfl⟩), by simp, by simp⟩
  · refine ⟨_, h, rfl, ?_, by simp, by simp⟩
    intro v hv
    simp at hv
    rcases hv with rfl | rfl <;> exact pr _ (by simp)
  · refine ⟨_, h, rfl, ?_, by simp, by simp⟩
    intro v hv
    simp at hv
    subst hv
    exact pr _ (by simp)
  · refine ⟨_, h, rfl, ?_, by simp, by simp⟩
    intro v hv
    simp at hv
    rcases hv with rfl | rfl
    · exact pr _ (by simp)
    · exact .inl ⟨_, rfl⟩
  · refine ⟨_, h, rfl, ?_, by simp, by simp⟩
    intro v hv
    simp at hv
    rcases hv with rfl | rfl | rfl | rfl | rfl
    · exact pr _ (by simp)
    · exact .inl ⟨_, rfl⟩
    · exact .inl ⟨_, rfl⟩
    · exact pr _ (by simp)
    · exact pr _ (by simp)
  · exact absurd rfl (hc _)
  · exact h.elim
theorem hdT_call {t : Tag} (h : hdT t = ("call" : Str)) : ∃ x, t = .call x := by
  cases t with
  | call x => exact ⟨x, rfl⟩
  | two k => cases k <;> exact absurd h (by simp only [hdT, Bk.s]; decide +kernel)
  | _ => exact absurd h (by simp only [hdT]; decide +kernel)
/-- _law_held: a new list of the parts that are terms -/
def spHeld3 : Sp := fun vs H Q _ => ∃ (p : Addr) (T : Tr), vs = [.ref p] ∧ TrAt H T p ∧
  ∀ (l : Addr) (ks : List Addr) (H' : Hp), H l = none → Same H H' → H' l = some (.lst (ks.map V.ref)) → All2 (TrAt H') T.kids ks → Q (.ref l) H'
section
variable {P : Program} {w : World} {K : PySem.W.Frag} {mg : Str → Option Value} {base : Heap}
abbrev s_law_held : Stmt := top 47
abbrev N_law_held : List Str := ["_law_term", "_law_part"]
theorem sc_law_held : FnScope N_law_held ["_law_term"] (defScope s_law_held) := ⟨rfl, rfl, rfl, by decide +kernel, rfl, by decide +kernel, by decide +kernel⟩
theorem ok_law_held3 {f : Addr} {fd : FuncData} (F : Fun K "_law_held" "_law_held" s_law_held f fd) (g_isinstance : mg "isinstance" = none) (g_tuple : mg "tuple" = none) (g_list : mg "list" = none) : FnOk P w K mg base CX0 1 f fd ["_law_term"] spHeld3 := by
  refine F.ok sc_law_held (fun vs H Q E h => ?_) (fun cdv A outer s H vs Q E hr h => ?_)
  · obtain ⟨p, T, rfl, _⟩ := h
    rfl
  · obtain ⟨p, T, rfl, hT, k⟩ := h
    have hu := hu_of hr
    have nd := sc_law_held.nd
    refine ⟨_, (pss_cons (ps_if (pt_cmpR op_eq (pe_ix ix_tup (pv 0) pe_int (fun _ _ => rfl)) pe_str (nomark _))
    (pss_one (ps_ret (pe_callTy call_list_of (by rfl) g_list (by decide +kernel) (pa_cons (pe_ix ix_tup (pv 0) pe_int (fun _ _ => rfl)) pa_nil))))
    pss_nil)
    (pss_one (ps_ret (pe_lc (own := [("_law_part", 1)]) (g := gName 1) rfl nd (pi_tup (pe_slice sl_tup (pv 0) (po_some pe_int) po_none)) (blkOk_by (N := N_law_held) (sc := defScope s_law_held) (by decide +kernel)) (fun _ _ _ _ _ => pg_name (i := 1) nd rfl (Or.inl rfl)) (fun _ _ _ _ _ => pts_one (pt_val (pe_callB (call_isiN (K := K) rfl) (by rfl) g_isinstance (by decide +kernel) (pa_cons (pv 1) (pa_cons (pe_bltn (v := .ty "tuple") (by rfl) g_tuple (by decide +kernel) rfl) pa_nil))))) (fun _ _ _ _ _ => (pv 1)))))), ?_⟩
    obtain ⟨ks, hold, hk⟩ := hT.open'
    obtain ⟨xs0, hp0⟩ := hold.tupl
    refine ⟨_, rfl, p, _, 0, .str (hdT T.tag), rfl, rfl, SqT.of hp0, atI_nat (j := 0) rfl, rfl, _, rfl, ?_⟩
    refine ite2 (fun hz => ?_) (fun hz => ?_)
    · -- a call
      obtain ⟨x, hx⟩ := hdT_call (V.str.inj (of_decide_eq_true hz))
      rw [hx] at hold
      obtain ⟨u, ha, hu2⟩ : ∃ u, H p = some (.tup [.str "call", .str (wd x), .ref u]) ∧ H u = some (.tup (ks.map V.ref)) := by
        cases ks <;> exact hold
      refine ⟨_, rfl, p, _, 2, .ref u, rfl, rfl, SqT.of ha, atI_nat (j := 2) rfl, ?_⟩
      refine ⟨u, _, rfl, .inr (SqT.of hu2), fun l hl => ?_⟩
      have sm := new_same3 (o := .lst (ks.map V.ref)) hl
      exact k l ks _ hl sm upd_same (hk.imp fun T a e => e.map fun q xs z => sm _ _ z)
    have hnc : ∀ x, T.tag ≠ .call x := fun x e => hz (by rw [e]; exact decide_eq_true rfl)
    have hkt : ∀ k ∈ ks, ∃ xs, H k = some (.tup xs) := by
      clear hold hp0 hz
      intro k hk'
      have : ∀ {Ts : List Tr} {as : List Addr}, All2 (TrAt H) Ts as → ∀ k ∈ as, ∃ xs, H k = some (.tup xs) := by
        intro Ts as h
        induction h with
        | nil => intro k h; cases h
        | cons q r ih =>
          intro k h
          rcases List.mem_cons.mp h with rfl | h
          · exact q.tupl
          · exact ih k h
      exact this hk k hk'
    obtain ⟨vs, hp, hf, hpart, hln, hl1⟩ := hold.rest hnc hkt
    refine ⟨_, rfl, _, rfl, p, _, rfl, SqT.of hp, ?_, fun t ht => ?_⟩
    · rintro ⟨h0, _⟩
      have : HT.sIx (V.str (hdT T.tag) :: vs).length 0 (some ((1 : Nat) : Int)) = min 1 (V.str (hdT T.tag) :: vs).length := HT.sIx_nat _ _ _
      have h0' : HT.sIx (V.str (hdT T.tag) :: vs).length 0 (some ((1 : Nat) : Int)) = 0 := h0
      rw [this, List.length_cons] at h0'
      omega
    have hcut : cutV (V.str (hdT T.tag) :: vs) (some 1) none = vs := by
      unfold cutV
      have : HT.sIx (V.str (hdT T.tag) :: vs).length 0 (some ((1 : Nat) : Int)) = min 1 (V.str (hdT T.tag) :: vs).length := HT.sIx_nat _ _ _
      have e1 : HT.sIx (V.str (hdT T.tag) :: vs).length 0 (some 1) = 1 := by
        refine Eq.trans this ?_
        rw [List.length_cons]
        omega
      rw [e1, HT.sIx_none]
      show vs.take (vs.length + 1 - 1) = _
      rw [Nat.add_sub_cancel, List.take_length]
    rw [hcut]
    refine ⟨t, rfl, ⟨_, SqT.of upd_same⟩, fun D hD => ?_⟩
    have ntD : t ≠ D := fun e => by rw [e, upd_same] at hD; cases hD
    have hD0 : H D = none := by rw [← upd_ne (H := H) (Ne.symm ntD)]; exact hD
    have sm0 : Same H (upd (upd H t (.tup vs)) D (.lst [])) := fun b o e => by rw [upd_ne (ne_of_none e hD0), upd_ne (ne_of_none e ht)]; exact e
    refine lc_tup (K := K) (a := t) (xs := vs) (fun i H1 => Same H H1 ∧ H1 t = some (.tup vs) ∧ H1 D = some (.lst ((vs.take i).filter isRf)))
      ⟨sm0, by rw [upd_ne ntD, upd_same], by rw [upd_same, List.take_zero]; rfl⟩ (fun i H1 _ ⟨_, h1, _⟩ => SqT.of h1) ?_ ?_
    · rintro i x H1 hx ⟨sm, h1, h2⟩
      have hxm := List.mem_of_getElem? hx
      have hi := (List.getElem?_eq_some_iff.mp hx).1
      refine ⟨rfl, ?_⟩
      have hpx : Part H1 x := by
        rcases hpart x hxm with h | h | ⟨k, xs, e, e2⟩
        · exact .inl h
        · exact .inr (.inl h)
        · exact .inr (.inr ⟨k, xs, e, sm _ _ e2⟩)
      obtain ⟨ty, hty, hkt⟩ := isi_tup (K := K) hpx
      refine ⟨_, rfl, _, _, _, _, isRf x, rfl, .ty "tuple", hty, hkt, isRf x, rfl, ?_⟩
      refine ite2 (fun q => ?_) (fun q => ?_)
      · refine ⟨_, rfl, _, h2, ?_, fun b o e => ?_, by rw [upd_ne ntD]; exact h1, ?_⟩
        · refine sz3 ?_
          have := List.length_filter_le isRf (vs.take i)
          rw [List.length_take] at this
          omega
        · rw [upd_ne (ne_of_none e hD0)]
          exact sm b o e
        · rw [upd_same, filter_snoc hx, if_pos q]
      · refine ⟨sm, h1, ?_⟩
        rw [filter_snoc hx, if_neg q, List.append_nil]
        exact h2
    · rintro H1 ⟨sm, h1, h2⟩
      rw [List.take_length, hf] at h2
      exact k D ks H1 hD0 sm h2 (hk.imp fun T a e => e.map fun p xs q => sm _ _ q)
end
end My

set_option Elab.async false
set_option linter.all false
set_option maxRecDepth 100000
set_option maxHeartbeats 1000000
namespace My
open PySem L2 MyR

open RT
/-- a class that is called by its name -/
structure Mo (P : Program) (w : World) (K : PySem.W.Frag) (mg : Str → Option Value) (base : Heap) (CX : CXT) (k : Nat) (x : Str) (C : Addr) (ps : List Str) (sp : Sp) where
  f : Addr
  fd : FuncData
  m : Mk K C f
  ok : FnOk P w K mg base CX k f fd ps sp
  g : mg x = some (.ref C)
  b : Binds K fd ps []
structure Mks (P : Program) (w : World) (K : PySem.W.Frag) (mg : Str → Option Value) (base : Heap) (c : CA) where
  num : Mo P w K mg base CX0 3 "Number" c.num ["self", "value"] (spOk c.num 1 a1 oN fN)
  nam : Mo P w K mg base CX0 2 "Name" c.nam ["self", "name"] (spOk c.nam 1 a1 oM fM)
  add : Mo P w K mg base CX0 1 "Add" c.add ["self", "one", "other"] (spI2 c.add "one" "other")
  sub : Mo P w K mg base CX0 1 "Subtract" c.sub ["self", "one", "other"] (spI2 c.sub "one" "other")
  mul : Mo P w K mg base CX0 1 "Multiply" c.mul ["self", "one", "other"] (spI2 c.mul "one" "other")
  over : Mo P w K mg base CX0 1 "Over" c.over ["self", "top", "bottom"] (spI2 c.over "top" "bottom")
  rai : Mo P w K mg base CX0 1 "Raised" c.rai ["self", "base", "exponent"] (spI2 c.rai "base" "exponent")
  half : Mo P w K mg base CX0 1 "Half" c.half ["self", "inner"] (spI1 c.half "inner")
  pow : Mo P w K mg base CX0 3 "Power" c.pow ["self", "base", "times"] (spOk c.pow 2 a2 oP fP)
  cho : Mo P w K mg base CX0 3 "Choose" c.cho ["self", "tested", "modulus", "rest", "yes", "no"] (spOk c.cho 5 a5 oC fC)
theorem mk_done {H H1 H' : Hp} {x dx C : Addr} {fs : List (Str × V)} (hx : H x = none) (hd : H dx = none) (sm : Same (upd (upd H dx (.own x)) x (.ins C dx [])) H1) (ini : Ini H1 x C dx fs H') : Same H H' ∧ H' x = some (.ins C dx fs) :=
  ⟨fun b o e => ini.2 b o (sm _ _ (by rw [upd_ne (ne_of_none e hx), upd_ne (ne_of_none e hd)]; exact e)) (ne_of_none e hx), ini.1⟩
theorem NdAt.of {c : CA} {cC : Addr} {H : Hp} {t : Tag} {ks : List Tr} {a : Addr} {as : List Addr} (h : Holds1 c cC H t as a) (k : All2 (NdAt c cC H) ks as) : NdAt c cC H (.mk t ks) a := by
  simp only [NdAt]
  exact ⟨as, h, NdAll.all2.mpr k⟩
theorem holds_call {c : CA} {cC : Addr} {H : Hp} {x : List Nat} {ks : List Addr} {a : Addr} (h : ∃ dx u, H a = some (.ins cC dx [("name", .str (wd x)), ("arguments", .ref u)]) ∧ H u = some (.tup (ks.map V.ref))) : Holds1 c cC H (.call x) ks a := by
  obtain ⟨dx, u, h1, h2⟩ := h
  cases ks <;> exact ⟨dx, u, h1, h2⟩
theorem TrAt.same {H H' : Hp} (sm : Same H H') {T : Tr} {a : Addr} (h : TrAt H T a) : TrAt H' T a := h.map fun p xs e => sm p _ e
mutual
def Tr.dep : Tr → Nat
  | .mk _ ks => depL ks
def depL : List Tr → Nat
  | [] => 0
  | k :: ks => max (k.dep + 1) (depL ks)
end
mutual
def Tr.nar : Tr → Prop
  | .mk _ ks => ks.length ≤ 100 ∧ narL ks
def narL : List Tr → Prop
  | [] => True
  | k :: ks => k.nar ∧ narL ks
end
theorem okL_in : ∀ {ks : List Tr}, okL ks → ∀ k ∈ ks, k.ok
  | [], _, k, h => by cases h
  | a :: as, h, k, hk => by
    simp only [okL] at h
    rcases List.mem_cons.mp hk with rfl | hk
    · exact h.1
    · exact okL_in h.2 k hk
theorem narL_in : ∀ {ks : List Tr}, narL ks → ∀ k ∈ ks, k.nar
  | [], _, k, h => by cases h
  | a :: as, h, k, hk => by
    simp only [narL] at h
    rcases List.mem_cons.mp hk with rfl | hk
    · exact h.1
    · exact narL_in h.2 k hk
theorem depL_in : ∀ {ks : List Tr}, ∀ k ∈ ks, k.dep < depL ks
  | [], k, h => by cases h
  | a :: as, k, hk => by
    simp only [depL]
    rcases List.mem_cons.mp hk with rfl | hk
    · omega
    · have := depL_in (ks := as) k hk
      omega
theorem kids_in3 {T : Tr} (h : T.ok) (hn : T.nar) : ∀ k ∈ T.kids, k.ok ∧ k.nar ∧ k.dep < T.dep := by
  cases T with
  | mk t ks =>
    simp only [Tr.ok] at h
    simp only [Tr.nar] at hn
    intro k hk
    exact ⟨okL_in h.2.2 k hk, narL_in hn.2 k hk, by simp only [Tr.dep]; exact depL_in k hk⟩
theorem all2_1 {R : Tr → Addr → Prop} {a : Tr} {xs : List Addr} (h : All2 R [a] xs) : ∃ x, xs = [x] ∧ R a x := by
  cases h with
  | cons q r => cases r; exact ⟨_, rfl, q⟩
theorem all2_2 {R : Tr → Addr → Prop} {a b : Tr} {xs : List Addr} (h : All2 R [a, b] xs) : ∃ x y, xs = [x, y] ∧ R a x ∧ R b y := by
  cases h with
  | cons q r => cases r with
    | cons q2 r => cases r; exact ⟨_, _, rfl, q, q2⟩
theorem all2_3 {R : Tr → Addr → Prop} {a b d : Tr} {xs : List Addr} (h : All2 R [a, b, d] xs) : ∃ x y z, xs = [x, y, z] ∧ R a x ∧ R b y ∧ R d z := by
  cases h with
  | cons q r => cases r with
    | cons q2 r => cases r with
      | cons q3 r => cases r; exact ⟨_, _, _, rfl, q, q2, q3⟩
theorem len1 {α : Type} : ∀ {l : List α}, l.length = 1 → ∃ a, l = [a]
  | [a], _ => ⟨a, rfl⟩
theorem len2 {α : Type} : ∀ {l : List α}, l.length = 2 → ∃ a b, l = [a, b]
  | [a, b], _ => ⟨a, b, rfl⟩
theorem len3 {α : Type} : ∀ {l : List α}, l.length = 3 → ∃ a b d, l = [a, b, d]
  | [a, b, d], _ => ⟨a, b, d, rfl⟩
/-- _law_node: the node of a term -/
def spNode3 (c : CA) (cC : Addr) (n : Nat) : Sp := fun vs H Q _ => ∃ (p : Addr) (T : Tr), vs = [.ref p] ∧ TrAt H T p ∧ T.ok ∧ T.nar ∧ T.dep < n ∧ ∀ (x : Addr) H', Same H H' → NdAt c cC H' T x → Q (.ref x) H'
section
variable {P : Program} {w : World} {K : PySem.W.Frag} {mg : Str → Option Value} {base : Heap}
abbrev s_law_node : Stmt := top 48
abbrev N_law_node : List Str := ["_law_term", "_law_kind", "_law_parts", "_law_part", "_law_one", "_law_other"]
theorem sc_law_node : FnScope N_law_node ["_law_term"] (defScope s_law_node) := ⟨rfl, rfl, rfl, by decide +kernel, rfl, by decide +kernel, by decide +kernel⟩
theorem ok_law_node3 {f : Addr} {fd : FuncData} (F : Fun K "_law_node" "_law_node" s_law_node f fd) {c : CA} {cC : Addr} (M : Mks P w K mg base c) (MC : Mo P w K mg base CX0 2 "Call" cC ["self", "name", "arguments"] (spCall K cC)) (D_law_held : Df P w K mg base 1 "_law_held" ["_law_term"] spHeld3) (hg : mg "_law_node" = some (.ref f)) (hb : Binds K fd ["_law_term"] []) :
    ∀ n : Nat, FnOk P w K mg base CX0 (4 + n) f fd ["_law_term"] (spNode3 c cC n)
  | 0 => by
    refine F.ok (k := 3) sc_law_node (fun vs H Q E h => ?_) (fun cdv A outer s H vs Q E hr h => ?_)
    · obtain ⟨p, T, rfl, _⟩ := h
      rfl
    · obtain ⟨p, T, rfl, _, _, _, h0, _⟩ := h
      exact absurd h0 (Nat.not_lt_zero _)
  | n + 1 => by
    have ih : Df P w K mg base (4 + n) "_law_node" ["_law_term"] (spNode3 c cC n) := ⟨f, fd, ok_law_node3 F M MC D_law_held hg hb n, hg, F.kp, hb⟩
    refine F.ok (k := 4 + n) sc_law_node (fun vs H Q E h => ?_) (fun cdv A outer s H vs Q E hr h => ?_)
    · obtain ⟨p, T, rfl, _⟩ := h
      rfl
    · obtain ⟨p, T, rfl, hT, hok, hnar, hdep, k⟩ := h
      have hu := hu_of hr
      have nd := sc_law_node.nd
      refine ⟨_, (pss_cons (ps_par (i := 1) (j := 2) rfl nd rfl rfl (by decide) rfl rfl (pa_cons (pe_ix ix_tup (pv 0) pe_int (fun _ _ => rfl)) (pa_cons (pe_lc (own := [("_law_part", 3)]) (g := gName 3) (tt := tYes) rfl nd (pi_list (pe_call D_law_held.ok (hr.mono (by omega)) (by rfl) D_law_held.g D_law_held.kp D_law_held.b .nil pass0 (pa_cons (pv 0) pa_nil))) (blkOk_by (N := N_law_node) (sc := defScope s_law_node) (by decide +kernel)) (fun _ _ _ _ _ => pg_name (i := 3) nd rfl (Or.inl rfl)) (fun _ _ _ _ _ => pts_nil) (fun _ _ _ _ _ => (pe_call ih.ok hr (by rfl) ih.g ih.kp ih.b .nil pass0 (pa_cons (pv 3) pa_nil)))) pa_nil)) (by rfl))
    (pss_cons (ps_if (pt_cmpR op_in_seq (pv 1) (pe_tup (pa_cons pe_str (pa_cons pe_str pa_nil))) (by rfl))
    (pss_one (ps_ret (pe_ifExp (pt_cmpR op_eq (pv 1) pe_str (nomark _)) (pe_make M.num.m M.num.ok (hr.mono (by omega)) (by rfl) M.num.g M.num.b .nil pass0 (pa_cons (pe_ix ix_tup (pv 0) pe_int (fun _ _ => rfl)) pa_nil)) (pe_make M.nam.m M.nam.ok (hr.mono (by omega)) (by rfl) M.nam.g M.nam.b .nil pass0 (pa_cons (pe_ix ix_tup (pv 0) pe_int (fun _ _ => rfl)) pa_nil)))))
    pss_nil)
    (pss_cons (ps_if (pt_cmpR op_eq (pv 1) pe_str (nomark _))
    (pss_one (ps_ret (pe_make M.half.m M.half.ok (hr.mono (by omega)) (by rfl) M.half.g M.half.b .nil pass0 (pa_cons (pe_ix ix_list (pv 2) pe_int (fun _ _ => rfl)) pa_nil))))
    pss_nil)
    (pss_cons (ps_if (pt_cmpR op_eq (pv 1) pe_str (nomark _))
    (pss_one (ps_ret (pe_make M.pow.m M.pow.ok (hr.mono (by omega)) (by rfl) M.pow.g M.pow.b .nil pass0 (pa_cons (pe_ix ix_list (pv 2) pe_int (fun _ _ => rfl)) (pa_cons (pe_ix ix_tup (pv 0) pe_int (fun _ _ => rfl)) pa_nil)))))
    pss_nil)
    (pss_cons (ps_if (pt_cmpR op_eq (pv 1) pe_str (nomark _))
    (pss_one (ps_ret (pe_make M.cho.m M.cho.ok (hr.mono (by omega)) (by rfl) M.cho.g M.cho.b .nil pass0 (pa_cons (pe_ix ix_list (pv 2) pe_int (fun _ _ => rfl)) (pa_cons (pe_ix ix_tup (pv 0) pe_int (fun _ _ => rfl)) (pa_cons (pe_ix ix_tup (pv 0) pe_int (fun _ _ => rfl)) (pa_cons (pe_ix ix_list (pv 2) pe_int (fun _ _ => rfl)) (pa_cons (pe_ix ix_list (pv 2) pe_int (fun _ _ => rfl)) pa_nil))))))))
    pss_nil)
    (pss_cons (ps_if (pt_cmpR op_eq (pv 1) pe_str (nomark _))
    (pss_one (ps_ret (pe_make MC.m MC.ok (hr.mono (by omega)) (by rfl) MC.g MC.b .nil pass0 (pa_cons (pe_ix ix_tup (pv 0) pe_int (fun _ _ => rfl)) (pa_cons (pv 2) pa_nil)))))
    pss_nil)
    (pss_cons (ps_asg (pv 2) (pg_unl (by rfl) (pgs_cons (pg_name (i := 4) nd rfl (Or.inl rfl)) (pgs_cons (pg_name (i := 5) nd rfl (Or.inl rfl)) pgs_nil))))
    (pss_cons (ps_if (pt_cmpR op_eq (pv 1) pe_str (nomark _))
    (pss_one (ps_ret (pe_make M.add.m M.add.ok (hr.mono (by omega)) (by rfl) M.add.g M.add.b .nil pass0 (pa_cons (pv 4) (pa_cons (pv 5) pa_nil)))))
    pss_nil)
    (pss_cons (ps_if (pt_cmpR op_eq (pv 1) pe_str (nomark _))
    (pss_one (ps_ret (pe_make M.sub.m M.sub.ok (hr.mono (by omega)) (by rfl) M.sub.g M.sub.b .nil pass0 (pa_cons (pv 4) (pa_cons (pv 5) pa_nil)))))
    pss_nil)
    (pss_cons (ps_if (pt_cmpR op_eq (pv 1) pe_str (nomark _))
    (pss_one (ps_ret (pe_make M.mul.m M.mul.ok (hr.mono (by omega)) (by rfl) M.mul.g M.mul.b .nil pass0 (pa_cons (pv 4) (pa_cons (pv 5) pa_nil)))))
    pss_nil)
    (pss_one (ps_ret (pe_ifExp (pt_cmpR op_eq (pv 1) pe_str (nomark _)) (pe_make M.over.m M.over.ok (hr.mono (by omega)) (by rfl) M.over.g M.over.b .nil pass0 (pa_cons (pv 4) (pa_cons (pv 5) pa_nil))) (pe_make M.rai.m M.rai.ok (hr.mono (by omega)) (by rfl) M.rai.g M.rai.b .nil pass0 (pa_cons (pv 4) (pa_cons (pv 5) pa_nil)))))))))))))))), ?_⟩
      obtain ⟨ks0, hold0, _⟩ := hT.open'
      obtain ⟨xs0, hp⟩ := hold0.tupl
      refine ⟨_, rfl, p, _, 0, .str (hdT T.tag), rfl, rfl, SqT.of hp, atI_nat (j := 0) rfl, ?_⟩
      refine ⟨_, rfl, p, T, rfl, hT, fun l ks H1 _ sm1 hl ak => ?_⟩
      refine ⟨l, rfl, ⟨_, SqL.of hl⟩, fun D hD => ?_⟩
      have nlD : l ≠ D := ne_of_none hl hD
      have hkl := ak.len
      have hk3 : T.kids.length ≤ 100 := by
        cases T with
        | mk t ks =>
          simp only [Tr.nar] at hnar
          exact hnar.1
      have smD : ∀ {H2 : Hp} {o o' : HO}, H2 D = some o → ∀ {Ha : Hp}, Same Ha H2 → Ha D = none → Same Ha (upd H2 D o') := fun _ _ sm hn b o e => by rw [upd_ne (ne_of_none e hn)]; exact sm b o e
      refine lc_list (K := K) (a := l) (xs := ks.map V.ref) (fun i H2 => ∃ xs : List Addr, Same H1 H2 ∧ H2 D = some (.lst (xs.map V.ref)) ∧ All2 (NdAt c cC H2) (T.kids.take i) xs)
        ⟨[], fun b o e => by rw [upd_ne (ne_of_none e hD)]; exact e, upd_same, .nil⟩ (fun i H2 _ ⟨_, sm, _⟩ => SqL.of (sm _ _ hl)) ?_ ?_
      · rintro i x H2 hx ⟨xs, sm2, hD2, aN⟩
        obtain ⟨hi, rfl⟩ : ∃ h : i < ks.length, x = V.ref ks[i] := by
          rw [List.getElem?_map] at hx
          by_cases hi : i < ks.length
          · rw [List.getElem?_eq_getElem hi] at hx
            exact ⟨hi, (Option.some.inj hx).symm⟩
          · rw [List.getElem?_eq_none (by omega)] at hx
            cases hx
        obtain ⟨hi2, hTk⟩ := ak.getL hi
        have hkin := kids_in3 hok hnar _ (List.getElem_mem hi2)
        have hxl := aN.len
        rw [List.length_take] at hxl
        refine ⟨rfl, ?_⟩
        refine ⟨_, rfl, _, (T.kids)[i], rfl, hTk.same sm2, hkin.1, hkin.2.1, by have := hkin.2.2; omega, fun y H3 sm3 hN => ?_⟩
        have hD3 := sm3 _ _ hD2
        have st : Stay H3 (upd H3 D (.lst (xs.map V.ref ++ [V.ref y]))) := Stay.lst hD3
        refine ⟨_, hD3, by rw [List.length_map]; exact sz3 (by omega), xs ++ [y], smD hD3 (sm2.trans sm3) hD, by rw [upd_same, List.map_append]; rfl, ?_⟩
        rw [List.take_add_one, List.getElem?_eq_getElem hi2]
        exact (aN.imp fun T a h => NdAt.stay ((Stay.of sm3).trans st) h).app (.cons (hN.stay st) .nil)
      · rintro H2 ⟨xs, sm2, hD2, aN⟩
        rw [List.length_map, ← hkl, List.take_length] at aN
        refine ⟨_, _, rfl, ?_⟩
        refine ⟨_, rfl, (by show 2 ≤ sizeLine; decide), fun t ht => ?_⟩
        have sm4 : Same H2 (upd H2 t (.tup [V.str "number", V.str "name"])) := fun b o e => by rw [upd_ne (ne_of_none e ht)]; exact e
        have hst : (upd H2 t (.tup [V.str "number", V.str "name"])) t = some (.tup [V.str "number", V.str "name"]) := upd_same
        have hD4 := sm4 _ _ hD2
        have aN4 := aN.imp fun T a h => NdAt.stay (.of sm4) h
        have smA : Same H (upd H2 t (.tup [V.str "number", V.str "name"])) := sm1.trans (sm2.trans sm4)
        have hT4 := hold0.map (H' := upd H2 t (.tup [V.str "number", V.str "name"])) fun p xs e => smA _ _ e
        generalize upd H2 t (.tup [V.str "number", V.str "name"]) = H4 at hst hD4 aN4 smA hT4 ⊢
        generalize hkd : hdT T.tag = kd
        refine ⟨t, _, rfl, .inr (SqT.of hst), rfl, by decide +kernel, _, rfl, ?_⟩
        clear hp hold0 ak hkl hl hD2 aN hst hk3
        obtain ⟨tg, ts⟩ := T
        simp only [Tr.ok] at hok
        simp only [Tr.nar] at hnar
        simp only [Tr.tag, Tr.kids] at hkd hT4 aN4
        obtain ⟨htok, har, _⟩ := hok
        cases tg with
        | num z =>
          have e : kd = "number" := hkd.symm
          subst e
          simp only [Tag.ar] at har
          obtain rfl := List.length_eq_zero_iff.mp har
          cases aN4
          have hp4 : H4 p = some (.tup [.str "number", .int z]) := by
            cases ks0 with
            | nil => exact hT4
            | cons a b => exact hT4.elim
          refine ite2 (fun _ => ?_) (fun hz => absurd (by decide +kernel) hz)
          refine ⟨_, rfl, rfl, _, rfl, ?_⟩
          refine ite2 (fun _ => ?_) (fun hz => absurd (by decide +kernel) hz)
          refine ⟨_, rfl, p, _, 1, .int z, rfl, rfl, SqT.of hp4, atI_nat (j := 1) rfl, fun x dx hx hdx hne => ?_⟩
          refine ⟨x, dx, [.int z], rfl, rfl, upd_same, ⟨_, rfl, .int z⟩, ?_, fun H5 H' sm ini => ?_⟩
          · show (decide (-18446744073709551615 ≤ z) && decide (z ≤ 18446744073709551615)) = true
            have h1 : -18446744073709551616 < z := htok.1
            have h2 : z < 18446744073709551616 := htok.2
            rw [decide_eq_true (show -18446744073709551615 ≤ z by omega), decide_eq_true (show z ≤ 18446744073709551615 by omega)]
            rfl
          · obtain ⟨s1, s2⟩ := mk_done hx hdx sm ini
            exact ⟨rfl, k x H' (smA.trans s1) (.of (as := []) ⟨dx, s2⟩ .nil)⟩
        | nam y =>
          have e : kd = "name" := hkd.symm
          subst e
          simp only [Tag.ar] at har
          obtain rfl := List.length_eq_zero_iff.mp har
          cases aN4
          have hp4 : H4 p = some (.tup [.str "name", .str (wd y)]) := by
            cases ks0 with
            | nil => exact hT4
            | cons a b => exact hT4.elim
          refine ite2 (fun _ => ?_) (fun hz => absurd (by decide +kernel) hz)
          refine ⟨_, rfl, rfl, _, rfl, ?_⟩
          refine ite2 (fun hz => absurd hz (by decide +kernel)) (fun _ => ?_)
          refine ⟨_, rfl, p, _, 1, .str (wd y), rfl, rfl, SqT.of hp4, atI_nat (j := 1) rfl, fun x dx hx hdx hne => ?_⟩
          refine ⟨x, dx, [.str (wd y)], rfl, rfl, upd_same, ⟨_, rfl, .str _ (by rw [wd_len]; have := nm_len (z := y) htok; omega)⟩, htok, fun H5 H' sm ini => ?_⟩
          obtain ⟨s1, s2⟩ := mk_done hx hdx sm ini
          exact ⟨rfl, k x H' (smA.trans s1) (.of (as := []) ⟨dx, s2⟩ .nil)⟩
        | half =>
          have e : kd = "half" := hkd.symm
          subst e
          simp only [Tag.ar] at har
          obtain ⟨a, rfl⟩ := len1 har
          obtain ⟨x1, rfl, n1⟩ := all2_1 aN4
          refine ite2 (fun hz => absurd hz (by decide +kernel)) (fun _ => ?_)
          refine ⟨_, rfl, rfl, _, rfl, ?_⟩
          refine ite2 (fun _ => ?_) (fun hz => absurd (by decide +kernel) hz)
          refine ⟨_, rfl, D, _, 0, .ref x1, rfl, rfl, SqL.of hD4, atI_nat (j := 0) rfl, fun x dx hx hdx hne => ?_⟩
          refine ⟨x, dx, _, rfl, upd_same, fun H' ini => ?_⟩
          obtain ⟨s1, s2⟩ := mk_done hx hdx (Same.refl _) ini
          exact ⟨rfl, k x H' (smA.trans s1) (.of (as := [x1]) ⟨dx, s2⟩ (.cons (n1.stay (.of s1)) .nil))⟩
        | pow m =>
          have e : kd = "power" := hkd.symm
          subst e
          simp only [Tag.ar] at har
          obtain ⟨a, rfl⟩ := len1 har
          obtain ⟨x1, rfl, n1⟩ := all2_1 aN4
          obtain ⟨q, hq⟩ : ∃ q, H4 p = some (.tup [.str "power", .ref q, .int m]) := by
            match ks0, hT4 with
            | [q], h => exact ⟨q, h⟩
            | [], h => exact h.elim
            | _ :: _ :: _, h => exact h.elim
          refine ite2 (fun hz => absurd hz (by decide +kernel)) (fun _ => ?_)
          refine ⟨_, rfl, rfl, _, rfl, ?_⟩
          refine ite2 (fun hz => absurd hz (by decide +kernel)) (fun _ => ?_)
          refine ⟨_, rfl, rfl, _, rfl, ?_⟩
          refine ite2 (fun _ => ?_) (fun hz => absurd (by decide +kernel) hz)
          refine ⟨_, rfl, D, _, 0, .ref x1, rfl, rfl, SqL.of hD4, atI_nat (j := 0) rfl, ?_⟩
          refine ⟨_, rfl, p, _, 2, .int m, rfl, rfl, SqT.of hq, atI_nat (j := 2) rfl, fun x dx hx hdx hne => ?_⟩
          refine ⟨x, dx, [.ref x1, .int m], rfl, rfl, upd_same, ⟨_, _, rfl, .int m⟩, ?_, fun H5 H' sm ini => ?_⟩
          · show (decide (0 ≤ m) && decide (m ≤ 64)) = true
            rw [decide_eq_true htok.1, decide_eq_true htok.2]
            rfl
          · obtain ⟨s1, s2⟩ := mk_done hx hdx sm ini
            exact ⟨rfl, k x H' (smA.trans s1) (.of (as := [x1]) ⟨dx, s2⟩ (.cons (n1.stay (.of s1)) .nil))⟩
        | cho m r =>
          have e : kd = "choose" := hkd.symm
          subst e
          simp only [Tag.ar] at har
          obtain ⟨a, b, d, rfl⟩ := len3 har
          obtain ⟨x1, x2, x3, rfl, n1, n2, n3⟩ := all2_3 aN4
          obtain ⟨q, q2, q3, hq⟩ : ∃ q q2 q3, H4 p = some (.tup [.str "choose", .ref q, .int m, .int r, .ref q2, .ref q3]) := by
            match ks0, hT4 with
            | [q, q2, q3], h => exact ⟨q, q2, q3, h⟩
            | [], h => exact h.elim
            | [_], h => exact h.elim
            | [_, _], h => exact h.elim
            | _ :: _ :: _ :: _ :: _, h => exact h.elim
          refine ite2 (fun hz => absurd hz (by decide +kernel)) (fun _ => ?_)
          refine ⟨_, rfl, rfl, _, rfl, ?_⟩
          refine ite2 (fun hz => absurd hz (by decide +kernel)) (fun _ => ?_)
          refine ⟨_, rfl, rfl, _, rfl, ?_⟩
          refine ite2 (fun hz => absurd hz (by decide +kernel)) (fun _ => ?_)
          refine ⟨_, rfl, rfl, _, rfl, ?_⟩
          refine ite2 (fun _ => ?_) (fun hz => absurd (by decide +kernel) hz)
          refine ⟨_, rfl, D, _, 0, .ref x1, rfl, rfl, SqL.of hD4, atI_nat (j := 0) rfl, ?_⟩
          refine ⟨_, rfl, p, _, 2, .int m, rfl, rfl, SqT.of hq, atI_nat (j := 2) rfl, ?_⟩
          refine ⟨_, rfl, p, _, 3, .int r, rfl, rfl, SqT.of hq, atI_nat (j := 3) rfl, ?_⟩
          refine ⟨_, rfl, D, _, 1, .ref x2, rfl, rfl, SqL.of hD4, atI_nat (j := 1) rfl, ?_⟩
          refine ⟨_, rfl, D, _, 2, .ref x3, rfl, rfl, SqL.of hD4, atI_nat (j := 2) rfl, fun x dx hx hdx hne => ?_⟩
          refine ⟨x, dx, [.ref x1, .int m, .int r, .ref x2, .ref x3], rfl, rfl, upd_same, ⟨_, _, _, _, _, rfl, .int m, .int r⟩, ?_, fun H5 H' sm ini => ?_⟩
          · show (([2, 4, 8, 16, 32, 64] : List Int).contains m && (decide (0 ≤ r) && decide (r ≤ m - 1))) = true
            obtain ⟨hm, h0, h1⟩ := htok
            have hc : ([2, 4, 8, 16, 32, 64] : List Int).contains m = true := by
              rcases hm with rfl | rfl | rfl | rfl | rfl | rfl <;> decide
            rw [hc, decide_eq_true h0, decide_eq_true (show r ≤ m - 1 by omega)]
            rfl
          · obtain ⟨s1, s2⟩ := mk_done hx hdx sm ini
            exact ⟨rfl, k x H' (smA.trans s1) (.of (as := [x1, x2, x3]) ⟨dx, s2⟩ (.cons (n1.stay (.of s1)) (.cons (n2.stay (.of s1)) (.cons (n3.stay (.of s1)) .nil))))⟩
        | call y =>
          have e : kd = "call" := hkd.symm
          subst e
          simp only [Tag.ar] at har
          obtain ⟨u0, hp4⟩ : ∃ u0, H4 p = some (.tup [.str "call", .str (wd y), .ref u0]) := by
            obtain ⟨u0, h1, _⟩ : ∃ u, H4 p = some (.tup [.str "call", .str (wd y), .ref u]) ∧ H4 u = some (.tup (ks0.map V.ref)) := by
              cases ks0 <;> exact hT4
            exact ⟨u0, h1⟩
          have hxl := aN4.len
          refine ite2 (fun hz => absurd hz (by decide +kernel)) (fun _ => ?_)
          refine ⟨_, rfl, rfl, _, rfl, ?_⟩
          refine ite2 (fun hz => absurd hz (by decide +kernel)) (fun _ => ?_)
          refine ⟨_, rfl, rfl, _, rfl, ?_⟩
          refine ite2 (fun hz => absurd hz (by decide +kernel)) (fun _ => ?_)
          refine ⟨_, rfl, rfl, _, rfl, ?_⟩
          refine ite2 (fun hz => absurd hz (by decide +kernel)) (fun _ => ?_)
          refine ⟨_, rfl, rfl, _, rfl, ?_⟩
          refine ite2 (fun _ => ?_) (fun hz => absurd (by decide +kernel) hz)
          refine ⟨_, rfl, p, _, 1, .str (wd y), rfl, rfl, SqT.of hp4, atI_nat (j := 1) rfl, _, rfl, fun x dx hx hdx hne => ?_⟩
          refine ⟨x, dx, D, .str (wd y), xs.map V.ref, rfl, upd_same, .str _ (by rw [wd_len]; have := nm_len (z := y) htok; omega), SqL.of (by rw [upd_ne (ne_of_none hD4 hx), upd_ne (ne_of_none hD4 hdx)]; exact hD4), by rw [List.length_map, ← hxl]; exact hnar.1, ?_, fun u H5 H' sm hu5 ini => ?_⟩
          · have h1 : nmV (.str (wd y)) = true := htok
            rw [h1, Bool.true_and]
            cases xs with
            | nil => rw [hxl] at har; exact absurd har (by decide)
            | cons a b => rfl
          · obtain ⟨s1, s2⟩ := mk_done hx hdx sm ini
            exact ⟨rfl, k x H' (smA.trans s1) (.of (as := xs) (holds_call ⟨dx, u, s2, hu5⟩) (aN4.imp fun T a h => NdAt.stay (.of s1) h))⟩
        | two bk =>
          simp only [Tag.ar] at har
          obtain ⟨a, b, rfl⟩ := len2 har
          obtain ⟨x1, x2, rfl, n1, n2⟩ := all2_2 aN4
          have fin : ∀ (x dx : Addr), H4 x = none → H4 dx = none → ∀ H', Ini (upd (upd H4 dx (.own x)) x (.ins (c.bk bk) dx [])) x (c.bk bk) dx [(bk.f1, .ref x1), (bk.f2, .ref x2)] H' → Q (.ref x) H' := fun x dx hx hdx H' ini => by
            obtain ⟨s1, s2⟩ := mk_done hx hdx (Same.refl _) ini
            exact k x H' (smA.trans s1) (.of (as := [x1, x2]) ⟨dx, s2⟩ (.cons (n1.stay (.of s1)) (.cons (n2.stay (.of s1)) .nil)))
          have hz : kd = bk.s := hkd.symm
          clear hkd hT4
          cases bk with
          | add =>
            subst hz
            refine ite2 (fun hz => absurd hz (by decide +kernel)) (fun _ => ?_)
            refine ⟨_, rfl, rfl, _, rfl, ?_⟩
            refine ite2 (fun hz => absurd hz (by decide +kernel)) (fun _ => ?_)
            refine ⟨_, rfl, rfl, _, rfl, ?_⟩
            refine ite2 (fun hz => absurd hz (by decide +kernel)) (fun _ => ?_)
            refine ⟨_, rfl, rfl, _, rfl, ?_⟩
            refine ite2 (fun hz => absurd hz (by decide +kernel)) (fun _ => ?_)
            refine ⟨_, rfl, rfl, _, rfl, ?_⟩
            refine ite2 (fun hz => absurd hz (by decide +kernel)) (fun _ => ?_)
            refine ⟨_, rfl, D, _, rfl, SqL.of hD4, rfl, _, _, rfl, _, _, rfl, rfl, ?_⟩
            refine ⟨_, rfl, rfl, _, rfl, ?_⟩
            refine ite2 (fun _ => ?_) (fun hz => absurd (by decide +kernel) hz)
            refine ⟨_, rfl, _, rfl, fun x dx hx hdx hne => ⟨x, dx, _, _, rfl, upd_same, fun H' ini => ⟨rfl, fin x dx hx hdx H' ini⟩⟩⟩
          | sub =>
            subst hz
            refine ite2 (fun hz => absurd hz (by decide +kernel)) (fun _ => ?_)
            refine ⟨_, rfl, rfl, _, rfl, ?_⟩
            refine ite2 (fun hz => absurd hz (by decide +kernel)) (fun _ => ?_)
            refine ⟨_, rfl, rfl, _, rfl, ?_⟩
            refine ite2 (fun hz => absurd hz (by decide +kernel)) (fun _ => ?_)
            refine ⟨_, rfl, rfl, _, rfl, ?_⟩
            refine ite2 (fun hz => absurd hz (by decide +kernel)) (fun _ => ?_)
            refine ⟨_, rfl, rfl, _, rfl, ?_⟩
            refine ite2 (fun hz => absurd hz (by decide +kernel)) (fun _ => ?_)
            refine ⟨_, rfl, D, _, rfl, SqL.of hD4, rfl, _, _, rfl, _, _, rfl, rfl, ?_⟩
            refine ⟨_, rfl, rfl, _, rfl, ?_⟩
            refine ite2 (fun hz => absurd hz (by decide +kernel)) (fun _ => ?_)
            refine ⟨_, rfl, rfl, _, rfl, ?_⟩
            refine ite2 (fun _ => ?_) (fun hz => absurd (by decide +kernel) hz)
            refine ⟨_, rfl, _, rfl, fun x dx hx hdx hne => ⟨x, dx, _, _, rfl, upd_same, fun H' ini => ⟨rfl, fin x dx hx hdx H' ini⟩⟩⟩
          | mul =>
            subst hz
            refine ite2 (fun hz => absurd hz (by decide +kernel)) (fun _ => ?_)
            refine ⟨_, rfl, rfl, _, rfl, ?_⟩
            refine ite2 (fun hz => absurd hz (by decide +kernel)) (fun _ => ?_)
            refine ⟨_, rfl, rfl, _, rfl, ?_⟩
            refine ite2 (fun hz => absurd hz (by decide +kernel)) (fun _ => ?_)
            refine ⟨_, rfl, rfl, _, rfl, ?_⟩
            refine ite2 (fun hz => absurd hz (by decide +kernel)) (fun _ => ?_)
            refine ⟨_, rfl, rfl, _, rfl, ?_⟩
            refine ite2 (fun hz => absurd hz (by decide +kernel)) (fun _ => ?_)
            refine ⟨_, rfl, D, _, rfl, SqL.of hD4, rfl, _, _, rfl, _, _, rfl, rfl, ?_⟩
            refine ⟨_, rfl, rfl, _, rfl, ?_⟩
            refine ite2 (fun hz => absurd hz (by decide +kernel)) (fun _ => ?_)
            refine ⟨_, rfl, rfl, _, rfl, ?_⟩
            refine ite2 (fun hz => absurd hz (by decide +kernel)) (fun _ => ?_)
            refine ⟨_, rfl, rfl, _, rfl, ?_⟩
            refine ite2 (fun _ => ?_) (fun hz => absurd (by decide +kernel) hz)
            refine ⟨_, rfl, _, rfl, fun x dx hx hdx hne => ⟨x, dx, _, _, rfl, upd_same, fun H' ini => ⟨rfl, fin x dx hx hdx H' ini⟩⟩⟩
          | over =>
            subst hz
            refine ite2 (fun hz => absurd hz (by decide +kernel)) (fun _ => ?_)
            refine ⟨_, rfl, rfl, _, rfl, ?_⟩
            refine ite2 (fun hz => absurd hz (by decide +kernel)) (fun _ => ?_)
            refine ⟨_, rfl, rfl, _, rfl, ?_⟩
            refine ite2 (fun hz => absurd hz (by decide +kernel)) (fun _ => ?_)
            refine ⟨_, rfl, rfl, _, rfl, ?_⟩
            refine ite2 (fun hz => absurd hz (by decide +kernel)) (fun _ => ?_)
            refine ⟨_, rfl, rfl, _, rfl, ?_⟩
            refine ite2 (fun hz => absurd hz (by decide +kernel)) (fun _ => ?_)
            refine ⟨_, rfl, D, _, rfl, SqL.of hD4, rfl, _, _, rfl, _, _, rfl, rfl, ?_⟩
            refine ⟨_, rfl, rfl, _, rfl, ?_⟩
            refine ite2 (fun hz => absurd hz (by decide +kernel)) (fun _ => ?_)
            refine ⟨_, rfl, rfl, _, rfl, ?_⟩
            refine ite2 (fun hz => absurd hz (by decide +kernel)) (fun _ => ?_)
            refine ⟨_, rfl, rfl, _, rfl, ?_⟩
            refine ite2 (fun hz => absurd hz (by decide +kernel)) (fun _ => ?_)
            refine ⟨_, rfl, rfl, _, rfl, ?_⟩
            refine ite2 (fun _ => ?_) (fun hz => absurd (by decide +kernel) hz)
            refine ⟨_, rfl, _, rfl, fun x dx hx hdx hne => ⟨x, dx, _, _, rfl, upd_same, fun H' ini => ⟨rfl, fin x dx hx hdx H' ini⟩⟩⟩
          | rai =>
            subst hz
            refine ite2 (fun hz => absurd hz (by decide +kernel)) (fun _ => ?_)
            refine ⟨_, rfl, rfl, _, rfl, ?_⟩
            refine ite2 (fun hz => absurd hz (by decide +kernel)) (fun _ => ?_)
            refine ⟨_, rfl, rfl, _, rfl, ?_⟩
            refine ite2 (fun hz => absurd hz (by decide +kernel)) (fun _ => ?_)
            refine ⟨_, rfl, rfl, _, rfl, ?_⟩
            refine ite2 (fun hz => absurd hz (by decide +kernel)) (fun _ => ?_)
            refine ⟨_, rfl, rfl, _, rfl, ?_⟩
            refine ite2 (fun hz => absurd hz (by decide +kernel)) (fun _ => ?_)
            refine ⟨_, rfl, D, _, rfl, SqL.of hD4, rfl, _, _, rfl, _, _, rfl, rfl, ?_⟩
            refine ⟨_, rfl, rfl, _, rfl, ?_⟩
            refine ite2 (fun hz => absurd hz (by decide +kernel)) (fun _ => ?_)
            refine ⟨_, rfl, rfl, _, rfl, ?_⟩
            refine ite2 (fun hz => absurd hz (by decide +kernel)) (fun _ => ?_)
            refine ⟨_, rfl, rfl, _, rfl, ?_⟩
            refine ite2 (fun hz => absurd hz (by decide +kernel)) (fun _ => ?_)
            refine ⟨_, rfl, rfl, _, rfl, ?_⟩
            refine ite2 (fun hz => absurd hz (by decide +kernel)) (fun _ => ?_)
            refine ⟨_, rfl, _, rfl, fun x dx hx hdx hne => ⟨x, dx, _, _, rfl, upd_same, fun H' ini => ⟨rfl, fin x dx hx hdx H' ini⟩⟩⟩
end
end My

set_option Elab.async false
set_option linter.all false
set_option maxRecDepth 100000
set_option maxHeartbeats 1000000
namespace My
open PySem PySem.Spec PyProof.Rows L2 MyR
/-! ### == and != of two trees, of any two kinds -/
structure EqOk3 (P : Program) (w : World) (K : PySem.W.Frag) (mg : Str → Option Value) (base : Heap) (c : CA) (cC : Addr) where
  f : Addr
  fd : FuncData
  e : ∀ t : Tag, EqC K (t.cls c cC) f
  nf : ∀ t u : Tag, PySem.W.notFirst K (t.cls c cC) (.ref (u.cls c cC)) = true
  ok : FnOk P w K mg base CX0 4 f fd ["self", "other"] (spEq3 c cC)
  b : Binds K fd ["self", "other"] []
def rEq3 (c : CA) (cC : Addr) (neg : Bool) : R2 := fun x y H Q => ∃ (a b : Addr) (A B : Tr), x = .ref a ∧ y = .ref b ∧ NdAt c cC H A a ∧ NdAt c cC H B b ∧ A.ok ∧ B.ok ∧ (subT A).length ≤ 1000000 ∧ (subT B).length ≤ 1000000 ∧
  ∀ (t : Bool) H', Same H H' → (t = true ↔ A = B) → Q (.bl (if neg = true then !t else t)) H'
section
variable {X : Cx} {c : CA} {cC : Addr}
theorem op_eq3 (EQ : EqOk3 X.prog X.w X.K X.mg X.base c cC) (hr : Room 5 X.A) : OpR X (compareOp .Eq) (rEq3 c cC false) := by
  intro pins s σ H x y u v Q I rx ry h
  obtain ⟨a, b, A, B, rfl, rfl, hA, hB, okA, okB, szA, szB, q⟩ := h
  obtain ⟨ks, holdA, _⟩ := hA.open'
  obtain ⟨dx, fs, ea, _⟩ := holdA.ins
  obtain ⟨ls, holdB, _⟩ := hB.open'
  obtain ⟨dy, gs, eb, _⟩ := holdB.ins
  cases rx
  cases ry
  obtain ⟨mA, J, _⟩ := ins_get I.hok ea
  obtain ⟨mB, J', _⟩ := ins_get I.hok eb
  obtain ⟨od, J, _⟩ := J.look
  obtain ⟨od', J', _⟩ := J'.look
  obtain ⟨m, hF⟩ := I.fr
  have c0 := EQ.e A.tag
  show wpAny (model X.prog X.w) X.A (richCompare .Eq (.ref a) (.ref b)) (EP X pins σ Q) X.xe s
  refine PySem.W.cmp_K (op := .Eq) (tb := .ref (B.tag.cls c cC)) hr.units0 hF I.ok.mod.kin J J'.type (EQ.nf A.tag B.tag) c0.eq c0.fn ?_
  have e0 := I.env0
  have hsp : spEq3 c cC [V.ref a, V.ref b] H (fun v H' => ∃ t : Bool, v = .bl t ∧ Q (.bl t) H') E0 := ⟨a, b, A, B, rfl, hA, hB, okA, okB, szA, szB, fun t H' sm ht => ⟨t, rfl, q t H' sm ht⟩⟩
  have hl := EQ.ok.len _ _ _ _ hsp
  have r2 : Vals [V.ref a, V.ref b] [Value.ref a, Value.ref b] := .cons rfl (.cons rfl .nil)
  refine wpAny_call (codeAny_mono (EQ.ok.run X.A X.stack s H ⟨[.ref a, .ref b], []⟩ [.ref a, .ref b] [.ref a, .ref b] _ E0 (hr.mono (by decide)) e0 (by
    have := EQ.b s [.ref a, .ref b] I.kIn (by simpa using hl)
    simpa using this) r2 hsp) fun r s' hq => ?_)
  cases r with
  | error e => exact pass0 (X := X) pins σ H s e s' I hq
  | ok fl =>
    cases fl with
    | ret w =>
      obtain ⟨z, H', I', rz, t, ez, q⟩ := I.after hq
      subst ez
      cases rz
      exact ⟨.bl t, H', I', rfl, q⟩
    | next => exact False.elim hq
    | brk => exact False.elim hq
    | cont => exact False.elim hq
theorem op_ne3 (EQ : EqOk3 X.prog X.w X.K X.mg X.base c cC) (hr : Room 5 X.A) : OpR X (compareOp .NotEq) (rEq3 c cC true) := by
  intro pins s σ H x y u v Q I rx ry h
  obtain ⟨a, b, A, B, rfl, rfl, hA, hB, okA, okB, szA, szB, q⟩ := h
  obtain ⟨ks, holdA, _⟩ := hA.open'
  obtain ⟨dx, fs, ea, _⟩ := holdA.ins
  obtain ⟨ls, holdB, _⟩ := hB.open'
  obtain ⟨dy, gs, eb, _⟩ := holdB.ins
  cases rx
  cases ry
  obtain ⟨mA, J, _⟩ := ins_get I.hok ea
  obtain ⟨mB, J', _⟩ := ins_get I.hok eb
  obtain ⟨od, J, _⟩ := J.look
  obtain ⟨od', J', _⟩ := J'.look
  have c0 := EQ.e A.tag
  show wpAny (model X.prog X.w) X.A (richCompare .NotEq (.ref a) (.ref b)) (EP X pins σ Q) X.xe s
  refine MyN.ne_K (tb := .ref (B.tag.cls c cC)) (hu_of hr) I.kIn J J'.type (EQ.nf A.tag B.tag) c0.ne c0.mo c0.eq c0.fn ?_
  have e0 := I.env0
  have hsp : spEq3 c cC [V.ref a, V.ref b] H (fun v H' => ∃ t : Bool, v = .bl t ∧ Q (.bl (!t)) H') E0 := ⟨a, b, A, B, rfl, hA, hB, okA, okB, szA, szB, fun t H' sm ht => ⟨t, rfl, q t H' sm ht⟩⟩
  have hl := EQ.ok.len _ _ _ _ hsp
  have r2 : Vals [V.ref a, V.ref b] [Value.ref a, Value.ref b] := .cons rfl (.cons rfl .nil)
  refine wpAny_call (codeAny_mono (EQ.ok.run X.A.in1 X.stack s H ⟨[.ref a, .ref b], []⟩ [.ref a, .ref b] [.ref a, .ref b] _ E0 hr.in1 e0.in1 (by
    have := EQ.b s [.ref a, .ref b] I.kIn (by simpa using hl)
    simpa using this) r2 hsp) fun r s' hq => ?_)
  cases r with
  | error e => exact pass0 (X := X) pins σ H s e s' I hq
  | ok fl =>
    cases fl with
    | ret w =>
      obtain ⟨z, H', I', rz, t, ez, q⟩ := I.after hq
      subst ez
      cases rz
      exact ⟨t, rfl, .bl (!t), H', I', rfl, q⟩
    | next => exact False.elim hq
    | brk => exact False.elim hq
    | cont => exact False.elim hq
end
theorem op_eq3M {X : Cx} {P : Program} {w : World} {K : PySem.W.Frag} {mg : Str → Option Value} {base : Heap} {c : CA} {cC : Addr} (EQ : EqOk3 P w K mg base c cC) (h1 : X.prog = P) (h2 : X.w = w) (h3 : X.K = K) (h4 : X.mg = mg) (h5 : X.base = base) (hr : Room 5 X.A) : OpR X (compareOp .Eq) (rEq3 c cC false) := by
  subst h1 h2 h3 h4 h5
  exact op_eq3 EQ hr
theorem op_ne3M {X : Cx} {P : Program} {w : World} {K : PySem.W.Frag} {mg : Str → Option Value} {base : Heap} {c : CA} {cC : Addr} (EQ : EqOk3 P w K mg base c cC) (h1 : X.prog = P) (h2 : X.w = w) (h3 : X.K = K) (h4 : X.mg = mg) (h5 : X.base = base) (hr : Room 5 X.A) : OpR X (compareOp .NotEq) (rEq3 c cC true) := by
  subst h1 h2 h3 h4 h5
  exact op_ne3 EQ hr
end My

set_option Elab.async false
set_option linter.all false
set_option maxRecDepth 100000
set_option maxHeartbeats 1000000
namespace My
open PySem L2 MyR
def sg (c : Nat) : Str := ⟨#[c]⟩
theorem sg_inj {a b : Nat} : sg a = sg b ↔ a = b := by
  constructor
  · intro h
    have h1 : (sg a).cps = (sg b).cps := congrArg Str.cps h
    have h2 : (#[a] : Array Nat) = #[b] := h1
    simpa using h2
  · intro h; rw [h]
theorem sg_eq (c b : Nat) (x : Str) (hx : x = sg b) : decide (V.str (sg c) = V.str x) = decide (c = b) := by
  subst hx
  refine decide_eq_decide.mpr ⟨fun h => ?_, fun h => by rw [h]⟩
  exact sg_inj.mp (V.str.inj h)
theorem new_same {H : Hp} {p : Addr} {o : HO} (h : H p = none) : Same H (upd H p o) := fun b q e => by rw [upd_ne (ne_of_none e h)]; exact e
theorem same_free {H H1 : Hp} {p : Addr} (s : Same H H1) (h : H1 p = none) : H p = none := by
  cases e : H p with
  | none => rfl
  | some o => rw [s p o e] at h; cases h
theorem same_up {H H1 : Hp} {a : Addr} {o : HO} (s : Same H H1) (h : H a = none) : Same H (upd H1 a o) := fun c u e => by
  rw [upd_ne (ne_of_none e h)]
  exact s c u e
/-- all but one cell is as it was -/
def SameP (p : Addr) (H H' : Hp) : Prop := ∀ a o, H a = some o → a ≠ p → H' a = some o
theorem SameP.of {p : Addr} {H H' : Hp} (s : Same H H') : SameP p H H' := fun a o e _ => s a o e
theorem SameP.trans {p : Addr} {H H1 H2 : Hp} (a : SameP p H H1) (b : SameP p H1 H2) : SameP p H H2 := fun c o e n => b c o (a c o e n) n
theorem SameP.up {p : Addr} {H H1 : Hp} {o : HO} (a : SameP p H H1) : SameP p H (upd H1 p o) := fun c u e n => by rw [upd_ne n]; exact a c u e n
theorem SameP.rfl' {p : Addr} {H : Hp} : SameP p H H := fun _ _ e _ => e
theorem upd_keep {H : Hp} {a x : Addr} {o u : HO} (e : H a = some o) (n : a ≠ x) : upd H x u a = some o := by rw [upd_ne n]; exact e
end My

set_option Elab.async false
set_option linter.all false
set_option maxRecDepth 100000
set_option maxHeartbeats 1000000
namespace My
open PySem L2 MyR TL NumText
/-! ### numbers written in digits -/
def digB (c : Nat) : Bool := decide (48 ≤ c) && decide (c ≤ 57)
/-- digits that are a number: one to twenty, no zero ahead -/
def numB (l : List Nat) : Bool := decide (1 ≤ l.length) && decide (l.length ≤ 20) && !(decide (l.head? = some 48) && !decide (l = [48])) && l.all digB
def numV (l : List Nat) : Option Int := if numB l = true then some ((digitsVal l : Nat) : Int) else none
def optV : Option Int → V
  | none => .non
  | some z => .int z
theorem all_digits {l : List Nat} (h : l.all digB = true) : AllDigits l := fun c hc => by
  have := List.all_eq_true.mp h c hc
  obtain ⟨h1, h2⟩ := Bool.and_eq_true_iff.mp this
  exact ⟨of_decide_eq_true h1, of_decide_eq_true h2⟩
theorem lt_sign (a b : Nat) : decide (([a] : List Nat) < [b]) = decide (a < b) := decide_eq_decide.mpr ⟨fun h => by
  rcases List.cons_lt_cons_iff.mp h with q | ⟨_, q⟩
  · exact q
  · exact absurd q (List.not_lt_nil _), fun h => List.cons_lt_cons_iff.mpr (.inl h)⟩
theorem le_0 (c : Nat) : (!decide ((sg c).cps.toList < (Str.ofString "0").cps.toList)) = decide (48 ≤ c) := by
  rw [show (Str.ofString "0").cps.toList = [48] from by decide +kernel, show (sg c).cps.toList = [c] from rfl, lt_sign]
  by_cases h : c < 48
  · rw [decide_eq_true h, decide_eq_false (by omega)]; rfl
  · rw [decide_eq_false h, decide_eq_true (by omega)]; rfl
theorem le_9 (c : Nat) : (!decide ((Str.ofString "9").cps.toList < (sg c).cps.toList)) = decide (c ≤ 57) := by
  rw [show (Str.ofString "9").cps.toList = [57] from by decide +kernel, show (sg c).cps.toList = [c] from rfl, lt_sign]
  by_cases h : 57 < c
  · rw [decide_eq_true h, decide_eq_false (by omega)]; rfl
  · rw [decide_eq_false h, decide_eq_true (by omega)]; rfl
/-- a text begins with this sign -/
theorem starts_sign (w : Str) (c : Nat) : Txt.startswith w (sg c) = decide ((tl w).head? = some c) := by
  unfold Txt.startswith Builtin.Str.subAt
  have e1 : (sg c).length = 1 := rfl
  rw [e1, Nat.zero_add]
  have hx : (w.cps.extract 0 1 == (sg c).cps) = decide (w.cps.toList.take 1 = [c]) := by
    rw [Bool.eq_iff_iff, beq_iff_eq, decide_eq_true_iff]
    constructor
    · intro h
      have := congrArg Array.toList h
      rw [Array.toList_extract] at this
      simpa [sg] using this
    · intro h
      apply Array.toList_inj.mp
      rw [Array.toList_extract]
      simpa [sg] using h
  rw [hx, len_tl w]
  show (decide (1 ≤ (tl w).length) && decide ((tl w).take 1 = [c])) = _
  cases tl w with
  | nil => rfl
  | cons a l =>
    have : decide (1 ≤ (a :: l).length) = true := decide_eq_true (by simp)
    rw [this, Bool.true_and]
    exact decide_eq_decide.mpr ⟨fun h => by simpa using h, fun h => by simpa using h⟩
theorem sg_0 : ("0" : Str) = sg 48 := by decide +kernel
theorem str_sg (w : Str) (c : Nat) : decide (V.str w = V.str (sg c)) = decide (tl w = [c]) := decide_eq_decide.mpr ⟨fun h => by rw [V.str.inj h]; rfl, fun h => congrArg V.str (ext_tl (by rw [h]; rfl))⟩
/-- as seq_by, where what is returned counts too -/
theorem seq_rt {t u : TS} {D : Ends} {σ : St} {H : Hp} (Pv : St → Hp → Prop) (h1 : ∀ nx', (∀ σ H, Pv σ H → nx' σ H) → t { D with nx := nx' } σ H) (h2 : ∀ σ H, Pv σ H → u D σ H) : tSeq t u D σ H := h1 (u D) h2
def spDigits : Sp := fun vs H Q _ => ∃ w : Str, vs = [.str w] ∧ w.length ≤ 50000 ∧ ∀ H', Same H H' → Q (optV (numV (tl w))) H'
section
variable {P : Program} {w : World} {K : PySem.W.Frag} {mg : Str → Option Value} {base : Heap}
abbrev s_digits_value : Stmt := top 14
abbrev N_digits_value : List Str := ["word", "letter"]
theorem sc_digits_value : FnScope N_digits_value ["word"] (defScope s_digits_value) := ⟨rfl, rfl, rfl, by decide +kernel, rfl, by decide +kernel, by decide +kernel⟩
theorem ok_digits_value {f : Addr} {fd : FuncData} (F : Fun K "digits_value" "digits_value" s_digits_value f fd) (T : Glob mg) (tD : Tok) (hMD : mg "MOST_DIGITS" = some (.int 20 tD)) : FnOk P w K mg base CX0 1 f fd ["word"] spDigits := by
  refine F.ok sc_digits_value (fun vs H Q E h => ?_) (fun cdv A outer s H vs Q E hr h => ?_)
  · obtain ⟨w, rfl, _⟩ := h
    rfl
  · obtain ⟨w, rfl, hl, k⟩ := h
    have nd := sc_digits_value.nd
    have hu := hu_of hr
    refine ⟨_, (pss_cons (ps_if (PW.pt (pw_or (pt_not (pt_chain op_le op_le pe_int (pe_callB call_len_str (by rfl) T.g_len PySem.boot_len (pa_cons (pv 0) pa_nil)) (pe_glob (v := .int 20) rfl hMD ⟨_, rfl⟩))) (pw_or1 (PW.pt (pw_and (pt_val (pe_m1 PySem.F.slot_str_startswith PySem.F.type_str_startswith mt_startswith (pv 0) pe_str)) (pw_and1 (pt_cmpR op_ne (pv 0) pe_str (nomark _))))))))
    (pss_one (ps_ret pe_non))
    pss_nil)
    (pss_cons (ps_if (pt_not (pt_val (pe_callB (cr_all rfl) (by rfl) T.g_all (by decide +kernel) (pa_cons (pe_lc (own := [("letter", 1)]) (g := gName 1) (tt := tYes) rfl nd (pi_str (pv 0)) (blkOk_by (N := N_digits_value) (sc := defScope s_digits_value) (by decide +kernel)) (fun _ _ _ _ _ => pg_name (i := 1) nd rfl (Or.inl rfl)) (fun _ _ _ _ _ => pts_nil) (fun _ _ _ _ _ => (pe_chain op_le_str op_le_str pe_str (pv 1) pe_str))) pa_nil))))
    (pss_one (ps_ret pe_non))
    pss_nil)
    (pss_one (ps_ret (pe_callTy call_int_str (by rfl) T.g_int (by decide +kernel) (pa_cons (pv 0) pa_nil)))))), ?_⟩
    have hlen : w.length = (tl w).length := len_tl w
    have hls : w.length ≤ sizeLine := Nat.le_trans hl (by decide +kernel)
    have no : ∀ H', Same H H' → numB (tl w) = false → Q .non H' := fun H' s e => by
      have q := k H' s
      unfold numV at q
      rw [e, if_neg Bool.false_ne_true] at q
      exact q
    have hnb : numB (tl w) = (decide (1 ≤ (tl w).length) && decide ((tl w).length ≤ 20) && !(decide ((tl w).head? = some 48) && !decide (tl w = [48])) && (tl w).all digB) := rfl
    have hin : ∀ b : Bool, (decide ((tl w).head? = some 48) && !decide (tl w = [48])) = false → 1 ≤ (tl w).length → (tl w).length ≤ 20 → numB (tl w) = (tl w).all digB := fun _ h0 h1 h20 => by
      rw [hnb, h0, decide_eq_true h1, decide_eq_true h20]
      rfl
    refine seq_rt (fun σ H' => σ = [some (.str w), none] ∧ H' = H ∧ 1 ≤ (tl w).length ∧ (tl w).length ≤ 20 ∧ (decide ((tl w).head? = some 48) && !decide (tl w = [48])) = false) (fun nx' hn => ?_) ?_
    · refine ⟨_, rfl, w, rfl, hls, _, _, rfl, rfl, _, rfl, ?_⟩
      refine ite2 (fun h1 => ?_) (fun h1 => ?_)
      case refine_2 =>
        refine ⟨_, rfl, no H (Same.refl H) ?_⟩
        have h1 := of_decide_eq_false (Bool.eq_false_iff.mpr h1)
        rw [hnb, decide_eq_false (show ¬ 1 ≤ (tl w).length by omega)]
        rfl
      have h1' := of_decide_eq_true h1
      refine ⟨_, _, rfl, rfl, _, rfl, ?_⟩
      by_cases h20 : (w.length : Int) ≤ 20
      case neg =>
        rw [decide_eq_false h20]
        refine no H (Same.refl H) ?_
        rw [hnb, decide_eq_false (show ¬ (tl w).length ≤ 20 by omega)]
        cases decide (1 ≤ (tl w).length) <;> rfl
      rw [decide_eq_true h20]
      refine ⟨_, rfl, ?_⟩
      refine ⟨⟨_, rfl⟩, w, ("0" : Str), rfl, rfl, _, rfl, ?_⟩
      rw [sg_0, starts_sign]
      refine ite2 (fun hz => ?_) (fun hz => ?_)
      · refine ⟨_, rfl, rfl, _, rfl, ?_⟩
        rw [str_sg]
        refine ite2 (fun h0 => ?_) (fun h0 => ?_)
        · refine no H (Same.refl H) ?_
          rw [hnb, hz, h0]
          cases decide (1 ≤ (tl w).length) <;> cases decide ((tl w).length ≤ 20) <;> rfl
        · exact hn _ _ ⟨rfl, rfl, by omega, by omega, by rw [Bool.eq_false_iff.mpr h0, Bool.and_false]⟩
      · exact hn _ _ ⟨rfl, rfl, by omega, by omega, by rw [Bool.eq_false_iff.mpr hz, Bool.false_and]⟩
    rintro σ H' ⟨rfl, rfl, h1, h20, hz⟩
    have hB := hin true hz h1 h20
    refine seq_rt (fun σ H1 => σ = [some (.str w), none] ∧ Same H' H1 ∧ (tl w).all digB = true) (fun nx' hn => ?_) ?_
    · refine ⟨_, rfl, w, rfl, fun D hD => ?_⟩
      refine lc_it walk_str (fun i H1 => Same H' H1 ∧ H1 D = some (.lst (((tl w).take i).map fun c => V.bl (digB c)))) ⟨new_same hD, upd_same⟩ (fun _ _ _ _ => trivial) ?_ ?_
      · rintro i x H1 H2 hi ⟨sm, h2⟩ ⟨rfl, c, hc, rfl⟩
        refine ⟨rfl, ?_⟩
        have hc2 : (tl w)[i]? = some c := by rw [Array.getElem?_toList]; exact hc
        have fin : ∀ (b : Bool), b = digB c → ∃ acc, H2 D = some (.lst acc) ∧ acc.length < sizeLine ∧ (Same H' (upd H2 D (.lst (acc ++ [.bl b]))) ∧ (upd H2 D (.lst (acc ++ [.bl b]))) D = some (.lst (((tl w).take (i + 1)).map fun c => V.bl (digB c)))) := fun b hb => by
          subst hb
          refine ⟨_, h2, by rw [List.length_map, List.length_take]; exact small1000 (by omega), fun a o e => ?_, ?_⟩
          · rw [upd_ne (ne_of_none e hD)]; exact sm a o e
          · rw [upd_same, List.take_add_one, hc2, List.map_append]
            rfl
        refine ⟨_, rfl, "0", sg c, rfl, rfl, _, rfl, ?_⟩
        refine ite2 (fun ha => ?_) (fun ha => ?_)
        · refine ⟨sg c, "9", rfl, rfl, fin _ ?_⟩
          rw [le_9]
          rw [le_0] at ha
          unfold digB
          rw [ha, Bool.true_and]
        · refine fin _ ?_
          rw [le_0] at ha
          unfold digB
          rw [Bool.eq_false_iff.mpr ha, Bool.false_and]
      · rintro H1 ⟨sm, h2⟩
        have hl : (tl w).take w.cps.size = tl w := List.take_of_length_le (by rw [Array.length_toList]; exact Nat.le_refl _)
        rw [hl] at h2
        refine ⟨D, (tl w).map digB, rfl, SqL.of (by rw [List.map_map]; exact h2), ?_⟩
        have e5 : ((tl w).map digB).all id = (tl w).all digB := by rw [List.all_map]; rfl
        rw [e5]
        cases hd : (tl w).all digB with
        | false => exact ⟨_, rfl, no H1 sm (by rw [hB, hd])⟩
        | true => exact ⟨_, rfl, hn _ _ ⟨rfl, sm, hd⟩⟩
    rintro σ H1 ⟨rfl, sm, hd⟩
    have hne : tl w ≠ [] := by intro e; rw [e] at h1; simp at h1
    refine ⟨_, rfl, w, _, rfl, intText_digits (all_digits hd) hne (by omega), by omega, ?_⟩
    have q := k H1 sm
    unfold numV at q
    rw [hB, hd, if_pos rfl] at q
    exact q
end
end My

set_option Elab.async false
set_option linter.all false
set_option maxRecDepth 100000
set_option maxHeartbeats 1000000
namespace My
open PySem L2 MyR TL NumText
/-- a number with a sign, if it has one; no sign before a nought -/
def sgV (l : List Nat) : Option Int := if l.head? = some 45 then (match numV (l.drop 1) with | some z => if z = 0 then none else some (-z) | none => none) else numV l
def spSigned : Sp := fun vs H Q _ => ∃ w : Str, vs = [.str w] ∧ w.length ≤ 50000 ∧ ∀ H', Same H H' → Q (optV (sgV (tl w))) H'
theorem tl_cut1 (w : Str) : tl (cutS w (some 1) none) = (tl w).drop 1 := by
  unfold cutS
  rw [len_tl w, show ((1 : Int)) = ((1 : Nat) : Int) from rfl, HT.sIx_nat]
  show (((tl w).drop (min 1 (tl w).length)).take ((tl w).length - min 1 (tl w).length)) = (tl w).drop 1
  rw [List.take_of_length_le (by rw [List.length_drop]; omega)]
  by_cases h : 1 ≤ (tl w).length
  · rw [Nat.min_eq_left h]
  · rw [Nat.min_eq_right (by omega), List.drop_length, List.drop_eq_nil_of_le (by omega)]
theorem sg_m : ("-" : Str) = sg 45 := by decide +kernel
section
variable {P : Program} {w : World} {K : PySem.W.Frag} {mg : Str → Option Value} {base : Heap}
abbrev s_signed_value : Stmt := top 15
abbrev N_signed_value : List Str := ["word", "value"]
theorem sc_signed_value : FnScope N_signed_value ["word"] (defScope s_signed_value) := ⟨rfl, rfl, rfl, by decide +kernel, rfl, by decide +kernel, by decide +kernel⟩
theorem ok_signed_value {f : Addr} {fd : FuncData} (F : Fun K "signed_value" "signed_value" s_signed_value f fd) (D_digits_value : Df P w K mg base 1 "digits_value" ["word"] spDigits) : FnOk P w K mg base CX0 2 f fd ["word"] spSigned := by
  refine F.ok sc_signed_value (fun vs H Q E h => ?_) (fun cdv A outer s H vs Q E hr h => ?_)
  · obtain ⟨w, rfl, _⟩ := h
    rfl
  · obtain ⟨w, rfl, hl, k⟩ := h
    have nd := sc_signed_value.nd
    have hu := hu_of hr
    have hls : w.length ≤ sizeLine := Nat.le_trans hl (by decide +kernel)
    refine ⟨_, (pss_cons (ps_if (pt_not (pt_val (pe_m1 PySem.F.slot_str_startswith PySem.F.type_str_startswith mt_startswith (pv 0) pe_str)))
    (pss_one (ps_ret (pe_call D_digits_value.ok (hr.mono (by decide)) (by rfl) D_digits_value.g D_digits_value.kp D_digits_value.b .nil pass0 (pa_cons (pv 0) pa_nil))))
    pss_nil)
    (pss_cons (ps_set (i := 1) nd rfl (Or.inl rfl) (pe_call D_digits_value.ok (hr.mono (by decide)) (by rfl) D_digits_value.g D_digits_value.kp D_digits_value.b .nil pass0 (pa_cons (pe_slice sl_str (pv 0) (po_some pe_int) po_none) pa_nil)))
    (pss_one (ps_ret (pe_ifExp (PW.pt (pw_or (pt_cmpR op_isN (pv 1) pe_non (nomark _)) (pw_or1 (pt_cmpR op_eq (pv 1) pe_int (nomark _))))) pe_non (pe_un un_neg (pv 1))))))), ?_⟩
    refine ⟨_, rfl, ⟨_, rfl⟩, w, ("-" : Str), rfl, rfl, _, rfl, ?_⟩
    rw [sg_m, starts_sign]
    by_cases h : (tl w).head? = some 45
    · rw [decide_eq_true h]
      have e : sgV (tl w) = (match numV ((tl w).drop 1) with | some z => if z = 0 then none else some (-z) | none => none) := if_pos h
      rw [e] at k
      refine ⟨_, rfl, _, rfl, w, rfl, hls, cutS w (some 1) none, rfl, by rw [len_tl, tl_cut1, List.length_drop]; rw [len_tl] at hl; omega, fun H' sm => ?_⟩
      rw [tl_cut1]
      have q := k H' sm
      cases hv : numV ((tl w).drop 1) with
      | none =>
        rw [hv] at q
        refine ⟨_, rfl, rfl, _, rfl, ?_⟩
        exact q
      | some z =>
        rw [hv] at q
        have q : Q (optV (if z = 0 then none else some (-z))) H' := q
        refine ⟨_, rfl, rfl, _, rfl, ?_⟩
        refine ⟨_, rfl, rfl, _, rfl, ?_⟩
        by_cases hz : z = 0
        · subst hz
          exact q
        · rw [if_neg hz] at q
          rw [decide_eq_false (show ¬ optV (some z) = V.int 0 from fun e => hz (V.int.inj e))]
          exact ⟨_, rfl, _, rfl, q⟩
    · rw [decide_eq_false h]
      have e : sgV (tl w) = numV (tl w) := if_neg h
      rw [e] at k
      exact ⟨_, rfl, w, rfl, hl, k⟩
end
end My

set_option pp.maxSteps 400
set_option Elab.async false
set_option linter.all false
set_option maxRecDepth 100000
set_option maxHeartbeats 1000000
namespace My
open PySem L2 MyR
/-! ### InvalidText -/
def spInvT (cT : Addr) : Sp := fun vs H Q _ => ∃ (a : Addr) (y : V), vs = [.ref a, y] ∧ H a = some (exo a cT none) ∧
  ∀ (d : Addr) H', H d = none → H' a = some (exo a cT (some d)) → H' d = some (exd d [("at", y)]) → (∀ b o, H b = some o → b ≠ a → H' b = some o) → Q .non H'
structure ErrT (P : Program) (w : World) (K : PySem.W.Frag) (mg : Str → Option Value) (base : Heap) (cT : Addr) where
  f : Addr
  fd : FuncData
  x : OexC K cT
  i : PySem.W.findIn K (.ref cT) "__init__" = some (some (.ref f))
  t : PySem.W.typeIn K (.ref f) = some (.type "function")
  ok : FnOk P w K mg base CX0 1 f fd ["self", "at"] (spInvT cT)
  b : Binds K fd ["self", "at"] []
  g : mg "InvalidText" = some (.ref cT)
section
variable {P : Program} {w : World} {K : PySem.W.Frag} {mg : Str → Option Value} {base : Heap}
abbrev s_InvalidText_init : Stmt := inClass (top 3) 0
abbrev N_InvalidText_init : List Str := ["self", "at"]
theorem sc_InvalidText_init : FnScope N_InvalidText_init ["self", "at"] (defScope s_InvalidText_init) := ⟨rfl, rfl, rfl, by decide +kernel, rfl, by decide +kernel, by decide +kernel⟩
theorem ok_InvalidText_init {f cT : Addr} {fd : FuncData} (F : Fun K "__init__" "InvalidText.__init__" s_InvalidText_init f fd) (x : OexC K cT) (n1 : PySem.W.findIn K (.ref cT) "at" = some none) : FnOk P w K mg base CX0 1 f fd ["self", "at"] (spInvT cT) := by
  refine F.ok sc_InvalidText_init (fun vs H Q E h => ?_) (fun cdv A outer s H vs Q E hr h => ?_)
  · obtain ⟨a, y, rfl, _⟩ := h
    rfl
  · obtain ⟨a, y, rfl, ha, k⟩ := h
    refine ⟨_, (pss_one (ps_ost (pv 0) (pv 1))), ?_⟩
    refine ⟨_, rfl, _, rfl, a, cT, rfl, x, n1, .inl ⟨ha, fun dx hdx hne => ?_⟩⟩
    refine k dx _ hdx upd_same (by rw [upd_ne hne]; exact upd_same) fun b o e hb => ?_
    rw [upd_ne hb, upd_ne (ne_of_none e hdx)]
    exact e
end
end My

set_option pp.maxSteps 300
set_option Elab.async false
set_option linter.all false
set_option maxRecDepth 100000
set_option maxHeartbeats 1000000
namespace My
open PySem L2 MyR RT
/-! ### how words are read as a node: what the program and the law both do -/
def kw (s : Str) : List Nat := s.cps.toList
abbrev wPlus : List Nat := [43]
abbrev wMinus : List Nat := [45]
abbrev wStar : List Nat := [42]
abbrev wPow : List Nat := [42, 42]
abbrev wOpen : List Nat := [40]
abbrev wClose : List Nat := [41]
abbrev wComma : List Nat := [44]
abbrev wHalf : List Nat := [104, 97, 108, 102]
abbrev wOver : List Nat := [111, 118, 101, 114]
abbrev wTo : List Nat := [116, 111]
abbrev wIf : List Nat := [105, 102]
abbrev wMod : List Nat := [109, 111, 100]
abbrev wIs : List Nat := [105, 115]
abbrev wThen : List Nat := [116, 104, 101, 110]
abbrev wElse : List Nat := [101, 108, 115, 101]
/-- the integer that a word writes -/
def intV (l : List Nat) : Option Int := match sgV l with
  | some z => if -18446744073709551616 < z ∧ z < 18446744073709551616 then some z else none
  | none => none
inductive Job
  | sum
  | sumL (T : Tr)
  | prod
  | prodL (T : Tr)
  | fac
  | atom
  | args (x : List Nat) (as : List Tr)
  | cho
inductive Res
  | fail (i : Nat)
  | ok (T : Tr) (a : Nat)
def bd : Option Res → (Tr → Nat → Option Res) → Option Res
  | none, _ => none
  | some (.fail i), _ => some (.fail i)
  | some (.ok T a), f => f T a
/-- the word at an index; behind the last one the empty word -/
def tk (ws : List (List Nat)) (a : Nat) : List Nat := ws.getD a []
/-- a word that has to stand there -/
def nd (ws : List (List Nat)) (w : List Nat) (a : Nat) (f : Nat → Option Res) : Option Res := if tk ws a = w then f (a + 1) else some (.fail a)
/-- a number from lo to hi -/
def nn (ws : List (List Nat)) (lo hi : Int) (a : Nat) (f : Int → Nat → Option Res) : Option Res := match numV (tk ws a) with
  | some n => if lo ≤ n ∧ n ≤ hi then f n (a + 1) else some (.fail a)
  | none => some (.fail a)
def modL : List Int := [2, 4, 8, 16, 32, 64]
def isM (n : Int) : Bool := modL.contains n
def two (k : Bk) (T U : Tr) : Tr := .mk (.two k) [T, U]
def run (ws : List (List Nat)) : Nat → Job → Nat → Nat → Option Res
  | 0, _, _, _ => none
  | f + 1, .sum, a, d => bd (run ws f .prod a d) fun T a => run ws f (.sumL T) a d
  | f + 1, .sumL T, a, d =>
    if tk ws a = wPlus then bd (run ws f .prod (a + 1) d) fun U a => run ws f (.sumL (two .add T U)) a d
    else if tk ws a = wMinus then bd (run ws f .prod (a + 1) d) fun U a => run ws f (.sumL (two .sub T U)) a d
    else some (.ok T a)
  | f + 1, .prod, a, d => bd (run ws f .fac a d) fun T a => run ws f (.prodL T) a d
  | f + 1, .prodL T, a, d =>
    if tk ws a = wStar then bd (run ws f .fac (a + 1) d) fun U a => run ws f (.prodL (two .mul T U)) a d
    else if tk ws a = wOver then bd (run ws f .fac (a + 1) d) fun U a => run ws f (.prodL (two .over T U)) a d
    else some (.ok T a)
  | f + 1, .fac, a, d =>
    if tk ws a = wHalf then bd (run ws f .fac (a + 1) d) fun U a => some (.ok (.mk .half [U]) a)
    else bd (run ws f .atom a d) fun T a =>
      if tk ws a = wPow then nn ws 0 64 (a + 1) fun n a => some (.ok (.mk (.pow n) [T]) a)
      else if tk ws a = wTo then bd (run ws f .fac (a + 1) d) fun U a => some (.ok (two .rai T U) a)
      else some (.ok T a)
  | f + 1, .atom, a, d =>
    if tk ws a = wOpen then
      if d = 20 then some (.fail a)
      else bd (if tk ws (a + 1) = wIf then run ws f .cho (a + 2) (d + 1) else run ws f .sum (a + 1) (d + 1)) fun T a => nd ws wClose a fun a => some (.ok T a)
    else match intV (tk ws a) with
      | some z => some (.ok (.mk (.num z) []) (a + 1))
      | none =>
        if isNm (tk ws a) = true then
          if tk ws (a + 1) = wOpen then if d = 20 then some (.fail (a + 1)) else run ws f (.args (tk ws a) []) (a + 2) (d + 1)
          else some (.ok (.mk (.nam (tk ws a)) []) (a + 1))
        else some (.fail a)
  | f + 1, .args x as, a, d => bd (run ws f .sum a d) fun T a =>
      if tk ws a = wComma then run ws f (.args x (as ++ [T])) (a + 1) d
      else nd ws wClose a fun a => some (.ok (.mk (.call x) (as ++ [T])) a)
  | f + 1, .cho, a, d => bd (run ws f .sum a d) fun T a => nd ws wMod a fun a => nn ws 2 64 a fun m a =>
      if isM m = true then nd ws wIs a fun a => nn ws 0 (m - 1) a fun r a => nd ws wThen a fun a => bd (run ws f .sum a d) fun U a => nd ws wElse a fun a => bd (run ws f .sum a d) fun V a => some (.ok (.mk (.cho m r) [T, U, V]) a)
      else some (.fail (a - 1))
/-! enough turns -/
def Job.rank : Job → Nat
  | .sum => 5
  | .sumL _ => 1
  | .prod => 4
  | .prodL _ => 1
  | .fac => 3
  | .atom => 2
  | .args _ _ => 6
  | .cho => 6
/-- how far a job goes on at least -/
def Job.go : Job → Nat
  | .sumL _ => 0
  | .prodL _ => 0
  | _ => 1
end My

set_option pp.maxSteps 300
set_option Elab.async false
set_option linter.all false
set_option maxRecDepth 100000
set_option maxHeartbeats 1000000
namespace My
open PySem L2 MyR RT
/-! ### the reader: its words, where it is, how deep -/
structure RX where
  C : Addr
  r : Addr
  dx : Addr
  L : Addr
  ws : List (List Nat)
structure WsOk (ws : List (List Nat)) : Prop where
  n : ws.length ≤ 1000
  w : ∀ w ∈ ws, w.length ≤ 100
structure RX.At (R : RX) (H : Hp) (a d : Nat) : Prop where
  o : H R.r = some (.ins R.C R.dx [("words", .ref R.L), ("at", .int (a : Int)), ("depth", .int (d : Int))])
  l : H R.L = some (.lst (R.ws.map fun w => V.str (wd w)))
  k : WsOk R.ws
structure RdC (K : PySem.W.Frag) (C : Addr) : Prop where
  cl : Cls K C
  n1 : NoAttr K C "words"
  n2 : NoAttr K C "at"
  n3 : NoAttr K C "depth"
theorem tk_len {ws : List (List Nat)} (h : WsOk ws) (a : Nat) : (tk ws a).length ≤ 100 := by
  unfold tk
  by_cases e : a < ws.length
  · rw [List.getD_eq_getElem?_getD, List.getElem?_eq_getElem e]
    exact h.w _ (List.getElem_mem e)
  · rw [List.getD_eq_getElem?_getD, List.getElem?_eq_none (by omega)]
    exact Nat.zero_le _
theorem tk_lt {ws : List (List Nat)} {a : Nat} {w : List Nat} (h : tk ws a = w) (hw : w ≠ []) : a < ws.length := by
  unfold tk at h
  by_cases e : a < ws.length
  · exact e
  · rw [List.getD_eq_getElem?_getD, List.getElem?_eq_none (by omega)] at h
    exact absurd h.symm hw
theorem RX.At.same {R : RX} {H H' : Hp} {a d : Nat} (h : R.At H a d) (s : Same H H') : R.At H' a d := ⟨s _ _ h.o, s _ _ h.l, h.k⟩
theorem RX.At.nl {R : RX} {H : Hp} {a d : Nat} (h : R.At H a d) : R.L ≠ R.r := ne_of h.l h.o (by intro z; cases z)
theorem RX.At.go {R : RX} {H : Hp} {a d : Nat} (h : R.At H a d) (a' d' : Nat) : R.At (upd H R.r (.ins R.C R.dx [("words", .ref R.L), ("at", .int (a' : Int)), ("depth", .int (d' : Int))])) a' d' := ⟨upd_same, upd_keep h.l h.nl, h.k⟩
def Er (E : XK) (cT r : Addr) (H : Hp) (i : Nat) : Prop := ∀ (x : Addr) H', SameP r H H' → H' x = some (.xd [("at", .int (i : Int))]) → E (.ref cT) (some x) H'
theorem Er.mono {E : XK} {cT r : Addr} {H H1 : Hp} {i : Nat} (h : Er E cT r H i) (s : SameP r H H1) : Er E cT r H1 i := fun x H' s' e => h x H' (s.trans s') e
theorem inv_text {H1 : Hp} {cT : Addr} {y : V} {E : XK} (go : ∀ (x : Addr) H', Same H1 H' → H' x = some (.xd [("at", y)]) → E (.ref cT) (some x) H') : ∀ x, H1 x = none → spInvT cT [.ref x, y] (upd H1 x (exo x cT none))
    (fun v H2 => v = .non ∧ ∃ (d : Addr) (fs : List (Str × V)), H2 x = some (exo x cT (some d)) ∧ H2 d = some (exd d fs) ∧ H1 d = none ∧ E (.ref cT) (some d) (upd (del H2 x) d (.xd fs))) (fun _ _ _ => False) := by
  intro x hx
  refine ⟨x, _, rfl, upd_same, fun d2 H2 hd2 e1 e2 keep => ⟨rfl, d2, _, e1, e2, ?_, ?_⟩⟩
  · by_cases e : d2 = x
    · rw [e]; exact hx
    · rw [upd_ne e] at hd2; exact hd2
  · refine go d2 _ (fun b o e => ?_) upd_same
    have nbx := ne_of_none e hx
    have hd2' : H1 d2 = none := by
      by_cases e : d2 = x
      · rw [e]; exact hx
      · rw [upd_ne e] at hd2; exact hd2
    have nbd := ne_of_none e hd2'
    rw [upd_ne nbd, del_ne nbx]
    exact keep b o (by rw [upd_ne nbx]; exact e) nbx
def spHere (C : Addr) : Sp := fun vs H Q _ => ∃ (R : RX) (a d : Nat), vs = [.ref R.r] ∧ R.C = C ∧ R.At H a d ∧ Q (.str (wd (tk R.ws a))) H
def spTook (C : Addr) : Sp := fun vs H Q _ => ∃ (R : RX) (a d : Nat) (w : List Nat), vs = [.ref R.r, .str (wd w)] ∧ R.C = C ∧ R.At H a d ∧ w ≠ [] ∧
  (tk R.ws a = w → ∀ H', R.At H' (a + 1) d → SameP R.r H H' → Q (.bl true) H') ∧ (tk R.ws a ≠ w → Q (.bl false) H)
def spNeed (C cT : Addr) : Sp := fun vs H Q E => ∃ (R : RX) (a d : Nat) (w : List Nat), vs = [.ref R.r, .str (wd w)] ∧ R.C = C ∧ R.At H a d ∧ w ≠ [] ∧
  (tk R.ws a = w → ∀ H', R.At H' (a + 1) d → SameP R.r H H' → Q .non H') ∧ (tk R.ws a ≠ w → Er E cT R.r H a)
def spNbr (C cT : Addr) : Sp := fun vs H Q E => ∃ (R : RX) (a d : Nat) (lo hi : Int), vs = [.ref R.r, .int lo, .int hi] ∧ R.C = C ∧ R.At H a d ∧
  (∀ n, numV (tk R.ws a) = some n → lo ≤ n → n ≤ hi → ∀ H', R.At H' (a + 1) d → SameP R.r H H' → Q (.int n) H') ∧ ((∀ n, numV (tk R.ws a) = some n → ¬ (lo ≤ n ∧ n ≤ hi)) → Er E cT R.r H a)
def spOpen (C cT : Addr) : Sp := fun vs H Q E => ∃ (R : RX) (a d : Nat), vs = [.ref R.r] ∧ R.C = C ∧ R.At H a d ∧
  (d ≠ 20 → tk R.ws a = wOpen → ∀ H', R.At H' (a + 1) (d + 1) → SameP R.r H H' → Q .non H') ∧ ((d = 20 ∨ tk R.ws a ≠ wOpen) → Er E cT R.r H a)
def spClose (C cT : Addr) : Sp := fun vs H Q E => ∃ (R : RX) (a d : Nat), vs = [.ref R.r] ∧ R.C = C ∧ R.At H a (d + 1) ∧
  (tk R.ws a = wClose → ∀ H', R.At H' (a + 1) d → SameP R.r H H' → Q .non H') ∧ (tk R.ws a ≠ wClose → Er E cT R.r H a)
structure Mt (P : Program) (w : World) (K : PySem.W.Frag) (mg : Str → Option Value) (base : Heap) (CX : CXT) (C : Addr) (k : Nat) (x : Str) (ps : List Str) (sp : Sp) where
  f : Addr
  fd : FuncData
  m : Meth K C x f
  ok : FnOk P w K mg base CX k f fd ps sp
  b : Binds K fd ps []
section
variable {P : Program} {w : World} {K : PySem.W.Frag} {mg : Str → Option Value} {base : Heap}
abbrev s_Reader_here : Stmt := inClass (top 40) 1
abbrev N_Reader_here : List Str := ["self"]
theorem sc_Reader_here : FnScope N_Reader_here ["self"] (defScope s_Reader_here) := ⟨rfl, rfl, rfl, by decide +kernel, rfl, by decide +kernel, by decide +kernel⟩
theorem ok_Reader_here {f C : Addr} {fd : FuncData} (F : Fun K "here" "Reader.here" s_Reader_here f fd) (T : Glob mg) (C0 : RdC K C) : FnOk P w K mg base CX0 1 f fd ["self"] (spHere C) := by
  refine F.ok sc_Reader_here (fun vs H Q E h => ?_) (fun cdv A outer s H vs Q E hr h => ?_)
  · obtain ⟨R, a, d, rfl, _⟩ := h
    rfl
  · obtain ⟨R, a, d, rfl, rfl, I, kq⟩ := h
    have nd := sc_Reader_here.nd
    refine ⟨_, (pss_one (ps_ret (pe_ifExp (pt_cmpR op_lt (pe_fld (pv 0) rfl) (pe_callB call_len_seq (by rfl) T.g_len PySem.boot_len (pa_cons (pe_fld (pv 0) rfl) pa_nil)) (nomark _)) (pe_ix ix_list (pe_fld (pv 0) rfl) (pe_fld (pv 0) rfl) (fun _ _ => rfl)) pe_str))), ?_⟩
    refine ⟨_, rfl, R.r, R.C, R.dx, _, _, rfl, I.o, C0.cl, C0.n2, rfl, _, rfl, R.r, R.C, R.dx, _, _, rfl, I.o, C0.cl, C0.n1, rfl, R.L, _, rfl, .inl (SqL.of I.l), _, _, rfl, rfl, _, rfl, ?_⟩
    rw [List.length_map]
    refine ite2 (fun z => ?_) (fun z => ?_)
    · have z : (a : Int) < (R.ws.length : Int) := of_decide_eq_true z
      have ha : a < R.ws.length := by omega
      have ht : (R.ws.map fun w => V.str (wd w))[a]? = some (.str (wd (tk R.ws a))) := by
        unfold tk
        rw [List.getElem?_map, List.getD_eq_getElem?_getD, List.getElem?_eq_getElem ha]
        rfl
      exact ⟨_, rfl, R.r, R.C, R.dx, _, _, rfl, I.o, C0.cl, C0.n1, rfl, _, rfl, R.r, R.C, R.dx, _, _, rfl, I.o, C0.cl, C0.n2, rfl, R.L, _, _, _, rfl, rfl, SqL.of I.l, atI_nat ht, kq⟩
    · have z : ¬ (a : Int) < (R.ws.length : Int) := fun q => z (decide_eq_true q)
      have e : tk R.ws a = [] := by
        unfold tk
        rw [List.getD_eq_getElem?_getD, List.getElem?_eq_none (by omega)]
        rfl
      rw [e] at kq
      exact kq
abbrev s_Reader_took : Stmt := inClass (top 40) 2
abbrev N_Reader_took : List Str := ["self", "word", "found"]
theorem sc_Reader_took : FnScope N_Reader_took ["self", "word"] (defScope s_Reader_took) := ⟨rfl, rfl, rfl, by decide +kernel, rfl, by decide +kernel, by decide +kernel⟩
theorem ok_Reader_took {f C : Addr} {fd : FuncData} (F : Fun K "took" "Reader.took" s_Reader_took f fd) (C0 : RdC K C) (MH : Mt P w K mg base CX0 C 1 "here" ["self"] (spHere C)) : FnOk P w K mg base CX0 2 f fd ["self", "word"] (spTook C) := by
  refine F.ok sc_Reader_took (fun vs H Q E h => ?_) (fun cdv A outer s H vs Q E hr h => ?_)
  · obtain ⟨R, a, d, w, rfl, _⟩ := h
    rfl
  · obtain ⟨R, a, d, w, rfl, rfl, I, hw, k1, k2⟩ := h
    have nd := sc_Reader_took.nd
    refine ⟨_, (pss_cons (ps_set (i := 2) nd rfl (Or.inl rfl) (pe_cmpR op_eq (pe_meth0 (pv 0) C0.cl MH.m MH.ok (hr.mono (by decide)) MH.b .nil pass0) (pv 1) (nomark _)))
    (pss_cons (ps_if (pt_val (pv 2))
    (pss_one (ps_fldaug (pv 0) pe_int in_add))
    pss_nil)
    (pss_one (ps_ret (pv 2))))), ?_⟩
    refine ⟨_, rfl, R.r, R.dx, _, rfl, I.o, rfl, R, a, d, rfl, rfl, I, _, rfl, rfl, ?_⟩
    have e : decide (V.str (wd (tk R.ws a)) = V.str (wd w)) = decide (tk R.ws a = w) := decide_eq_decide.mpr ⟨fun q => wd_inj (V.str.inj q), fun q => by rw [q]⟩
    rw [e]
    refine ⟨_, rfl, _, rfl, ?_⟩
    refine ite2 (fun z => ?_) (fun z => ?_)
    · have z : tk R.ws a = w := of_decide_eq_true z
      refine ⟨_, rfl, R.r, R.C, R.dx, _, _, rfl, I.o, C0.cl, C0.n2, rfl, _, _, rfl, rfl, R.dx, _, I.o, (by show 3 < 1000; decide), ?_⟩
      refine ⟨_, rfl, ?_⟩
      rw [decide_eq_true z]
      exact k1 z _ (I.go (a + 1) d) SameP.rfl'.up
    · have z : ¬ tk R.ws a = w := fun q => z (decide_eq_true q)
      refine ⟨_, rfl, ?_⟩
      rw [decide_eq_false z]
      exact k2 z
abbrev s_Reader_need : Stmt := inClass (top 40) 3
abbrev N_Reader_need : List Str := ["self", "word"]
theorem sc_Reader_need : FnScope N_Reader_need ["self", "word"] (defScope s_Reader_need) := ⟨rfl, rfl, rfl, by decide +kernel, rfl, by decide +kernel, by decide +kernel⟩
theorem ok_Reader_need {f C cT : Addr} {fd : FuncData} (F : Fun K "need" "Reader.need" s_Reader_need f fd) (C0 : RdC K C) (ET : ErrT P w K mg base cT) (MT : Mt P w K mg base CX0 C 2 "took" ["self", "word"] (spTook C)) : FnOk P w K mg base (L2.CX P w) 4 f fd ["self", "word"] (spNeed C cT) := by
  refine F.okX sc_Reader_need (fun vs H Q E h => ?_) (fun cdv A outer s H vs Q E hr h => ?_)
  · obtain ⟨R, a, d, w, rfl, _⟩ := h
    rfl
  · obtain ⟨R, a, d, w, rfl, rfl, I, hw, k1, k2⟩ := h
    have nd := sc_Reader_need.nd
    refine ⟨_, (pss_one (ps_if (pt_not (pt_val (pe_meth (pv 0) C0.cl MT.m MT.ok (hr.mono (by decide)) MT.b .nil pass0 (pa_cons (pv 1) pa_nil))))
    (pss_one (ps_raise rfl (takes_of rfl rfl rfl rfl) (pmk_oex ET.x ET.i ET.t ET.ok (hr.mono (by decide)) ET.b .nil pass0 (by rfl) ET.g (pa_cons (pe_fld (pv 0) rfl) pa_nil))))
    pss_nil)), ?_⟩
    refine ⟨_, rfl, R.r, R.dx, _, rfl, I.o, rfl, _, rfl, R, a, d, w, rfl, rfl, I, hw, fun z H1 I1 s1 => ⟨_, rfl, ?_⟩, fun z => ⟨_, rfl, ?_⟩⟩
    · exact iteF (k1 z H1 I1 s1)
    · refine iteT ⟨_, rfl, R.r, R.C, R.dx, _, _, rfl, I.o, C0.cl, C0.n2, rfl, (by show 1 ≤ 1000; decide), ?_⟩
      exact inv_text fun x H' s' hx => k2 z x H' (SameP.of s') hx
abbrev s_Reader_need_number : Stmt := inClass (top 40) 4
abbrev N_Reader_need_number : List Str := ["self", "least", "most", "value"]
theorem sc_Reader_need_number : FnScope N_Reader_need_number ["self", "least", "most"] (defScope s_Reader_need_number) := ⟨rfl, rfl, rfl, by decide +kernel, rfl, by decide +kernel, by decide +kernel⟩
theorem ok_Reader_need_number {f C cT : Addr} {fd : FuncData} (F : Fun K "need_number" "Reader.need_number" s_Reader_need_number f fd) (C0 : RdC K C) (ET : ErrT P w K mg base cT) (MH : Mt P w K mg base CX0 C 1 "here" ["self"] (spHere C)) (D_digits_value : Df P w K mg base 1 "digits_value" ["word"] spDigits) : FnOk P w K mg base (L2.CX P w) 4 f fd ["self", "least", "most"] (spNbr C cT) := by
  refine F.okX sc_Reader_need_number (fun vs H Q E h => ?_) (fun cdv A outer s H vs Q E hr h => ?_)
  · obtain ⟨R, a, d, lo, hi, rfl, _⟩ := h
    rfl
  · obtain ⟨R, a, d, lo, hi, rfl, rfl, I, k1, k2⟩ := h
    have nd := sc_Reader_need_number.nd
    refine ⟨_, (pss_cons (ps_set (i := 3) nd rfl (Or.inl rfl) (pe_call D_digits_value.ok (hr.mono (by decide)) (by rfl) D_digits_value.g D_digits_value.kp D_digits_value.b .nil pass0 (pa_cons (pe_meth0 (pv 0) C0.cl MH.m MH.ok (hr.mono (by decide)) MH.b .nil pass0) pa_nil)))
    (pss_cons (ps_if (PW.pt (pw_or (pt_cmpR op_isN (pv 3) pe_non (nomark _)) (pw_or1 (pt_not (pt_chain op_le op_le (pv 1) (pv 3) (pv 2))))))
    (pss_one (ps_raise rfl (takes_of rfl rfl rfl rfl) (pmk_oex ET.x ET.i ET.t ET.ok (hr.mono (by decide)) ET.b .nil pass0 (by rfl) ET.g (pa_cons (pe_fld (pv 0) rfl) pa_nil))))
    pss_nil)
    (pss_cons (ps_fldaug (pv 0) pe_int in_add)
    (pss_one (ps_ret (pv 3)))))), ?_⟩
    have hl := tk_len I.k a
    refine ⟨_, rfl, R.r, R.dx, _, rfl, I.o, rfl, R, a, d, rfl, rfl, I, wd (tk R.ws a), rfl, by rw [wd_len]; omega, fun H1 s1 => ?_⟩
    have I1 := I.same s1
    rw [show TL.tl (wd (tk R.ws a)) = tk R.ws a from rfl]
    have raise : (∀ n, numV (tk R.ws a) = some n → ¬ (lo ≤ n ∧ n ≤ hi)) → ∀ (x : Addr) H', Same H1 H' → H' x = some (.xd [("at", .int (a : Int))]) → E (.ref cT) (some x) H' := fun z x H' s' hx => k2 z x H' (SameP.of (s1.trans s')) hx
    cases hv : numV (tk R.ws a) with
    | none =>
      refine ⟨_, rfl, rfl, _, rfl, iteT ?_⟩
      refine ⟨_, rfl, R.r, R.C, R.dx, _, _, rfl, I1.o, C0.cl, C0.n2, rfl, (by show 1 ≤ 1000; decide), ?_⟩
      exact inv_text (raise fun n e => by rw [hv] at e; cases e)
    | some n =>
      refine ⟨_, rfl, rfl, _, rfl, iteF ?_⟩
      refine ⟨_, rfl, _, rfl, _, _, rfl, rfl, _, rfl, ?_⟩
      refine ite2 (fun z1 => ?_) (fun z1 => ?_)
      · have z1 : lo ≤ n := of_decide_eq_true z1
        refine ⟨_, rfl, _, _, rfl, rfl, _, rfl, ?_⟩
        refine ite2 (fun z2 => ?_) (fun z2 => ?_)
        · have z2 : ¬ n ≤ hi := fun q => by
            rw [decide_eq_true q] at z2
            cases z2
          refine ⟨_, rfl, R.r, R.C, R.dx, _, _, rfl, I1.o, C0.cl, C0.n2, rfl, (by show 1 ≤ 1000; decide), ?_⟩
          exact inv_text (raise fun m e q => by rw [hv] at e; obtain rfl := Option.some.inj e; exact z2 q.2)
        · have z2 : n ≤ hi := by
            by_cases q : n ≤ hi
            · exact q
            · exact absurd (by rw [decide_eq_false q]; rfl) z2
          refine ⟨_, rfl, R.r, R.C, R.dx, _, _, rfl, I1.o, C0.cl, C0.n2, rfl, _, _, rfl, rfl, R.dx, _, I1.o, (by show 3 < 1000; decide), ?_⟩
          exact ⟨_, rfl, k1 n hv z1 z2 _ (I1.go (a + 1) d) (SameP.of s1).up⟩
      · have z1 : ¬ lo ≤ n := fun q => z1 (decide_eq_true q)
        refine ⟨_, rfl, iteT ?_⟩
        refine ⟨_, rfl, R.r, R.C, R.dx, _, _, rfl, I1.o, C0.cl, C0.n2, rfl, (by show 1 ≤ 1000; decide), ?_⟩
        exact inv_text (raise fun m e q => by rw [hv] at e; obtain rfl := Option.some.inj e; exact z1 q.1)
end
end My

set_option pp.maxSteps 300
set_option Elab.async false
set_option linter.all false
set_option maxRecDepth 100000
set_option maxHeartbeats 1000000
namespace My
open PySem L2 MyR RT
/-! ### parentheses; numbers -/
theorem st_open : ("(" : Str) = wd wOpen := by decide +kernel
theorem st_close : (")" : Str) = wd wClose := by decide +kernel
theorem st_plus : ("+" : Str) = wd wPlus := by decide +kernel
theorem st_minus : ("-" : Str) = wd wMinus := by decide +kernel
theorem st_star : ("*" : Str) = wd wStar := by decide +kernel
theorem st_pow : ("**" : Str) = wd wPow := by decide +kernel
theorem st_comma : ("," : Str) = wd wComma := by decide +kernel
theorem st_half : ("half" : Str) = wd wHalf := by decide +kernel
theorem st_over : ("over" : Str) = wd wOver := by decide +kernel
theorem st_to : ("to" : Str) = wd wTo := by decide +kernel
theorem st_if : ("if" : Str) = wd wIf := by decide +kernel
theorem st_mod : ("mod" : Str) = wd wMod := by decide +kernel
theorem st_is : ("is" : Str) = wd wIs := by decide +kernel
theorem st_then : ("then" : Str) = wd wThen := by decide +kernel
theorem st_else : ("else" : Str) = wd wElse := by decide +kernel
theorem vs2 {r : Addr} {s : Str} {w : List Nat} (h : s = wd w) : [V.ref r, V.str s] = [.ref r, .str (wd w)] := by rw [h]
def spNv : Sp := fun vs H Q _ => ∃ w : List Nat, vs = [.str (wd w)] ∧ w.length ≤ 100 ∧ ∀ H', Same H H' → Q (optV (intV w)) H'
section
variable {P : Program} {w : World} {K : PySem.W.Frag} {mg : Str → Option Value} {base : Heap}
abbrev s_number_value : Stmt := top 16
abbrev N_number_value : List Str := ["word", "value"]
theorem sc_number_value : FnScope N_number_value ["word"] (defScope s_number_value) := ⟨rfl, rfl, rfl, by decide +kernel, rfl, by decide +kernel, by decide +kernel⟩
theorem ok_number_value {f : Addr} {fd : FuncData} (F : Fun K "number_value" "number_value" s_number_value f fd) (D_signed_value : Df P w K mg base 2 "signed_value" ["word"] spSigned) (D_is_small : Df P w K mg base 2 "is_small" ["value"] spSmall) : FnOk P w K mg base CX0 3 f fd ["word"] spNv := by
  refine F.ok sc_number_value (fun vs H Q E h => ?_) (fun cdv A outer s H vs Q E hr h => ?_)
  · obtain ⟨w, rfl, _⟩ := h
    rfl
  · obtain ⟨w, rfl, hl, kq⟩ := h
    have nd := sc_number_value.nd
    refine ⟨_, (pss_cons (ps_set (i := 1) nd rfl (Or.inl rfl) (pe_call D_signed_value.ok (hr.mono (by decide)) (by rfl) D_signed_value.g D_signed_value.kp D_signed_value.b .nil pass0 (pa_cons (pv 0) pa_nil)))
    (pss_one (ps_ret (pe_ifExp (pt_val (pe_call D_is_small.ok (hr.mono (by decide)) (by rfl) D_is_small.g D_is_small.kp D_is_small.b .nil pass0 (pa_cons (pv 1) pa_nil))) (pv 1) pe_non)))), ?_⟩
    refine ⟨_, rfl, wd w, rfl, by rw [wd_len]; omega, fun H1 s1 => ?_⟩
    rw [show TL.tl (wd w) = w from rfl]
    have k1 := kq H1 s1
    unfold intV at k1
    cases hv : sgV w with
    | none =>
      rw [hv] at k1
      exact ⟨_, rfl, .non, rfl, .non, _, rfl, iteF k1⟩
    | some z =>
      rw [hv] at k1
      refine ⟨_, rfl, .int z, rfl, .int z, _, rfl, ?_⟩
      show if (decide (-18446744073709551615 ≤ z) && decide (z ≤ 18446744073709551615)) = true then _ else _
      by_cases hz : -18446744073709551616 < z ∧ z < 18446744073709551616
      · have e : (decide (-18446744073709551615 ≤ z) && decide (z ≤ 18446744073709551615)) = true := by
          rw [decide_eq_true (show -18446744073709551615 ≤ z by omega), decide_eq_true (show z ≤ 18446744073709551615 by omega)]
          rfl
        rw [if_pos e]
        have k2 : Q (optV (some z)) H1 := by
          have k3 : Q (optV (if -18446744073709551616 < z ∧ z < 18446744073709551616 then some z else none)) H1 := k1
          rw [if_pos hz] at k3
          exact k3
        exact ⟨_, rfl, k2⟩
      · have e : ¬ (decide (-18446744073709551615 ≤ z) && decide (z ≤ 18446744073709551615)) = true := fun q => by
          have q1 := of_decide_eq_true (Bool.and_eq_true_iff.mp q).1
          have q2 := of_decide_eq_true (Bool.and_eq_true_iff.mp q).2
          omega
        rw [if_neg e]
        have k3 : Q (optV (if -18446744073709551616 < z ∧ z < 18446744073709551616 then some z else none)) H1 := k1
        rw [if_neg hz] at k3
        exact k3
abbrev s_Reader_need_open : Stmt := inClass (top 40) 5
abbrev N_Reader_need_open : List Str := ["self"]
theorem sc_Reader_need_open : FnScope N_Reader_need_open ["self"] (defScope s_Reader_need_open) := ⟨rfl, rfl, rfl, by decide +kernel, rfl, by decide +kernel, by decide +kernel⟩
theorem ok_Reader_need_open {f C cT : Addr} {fd : FuncData} {tO : Nat} (F : Fun K "need_open" "Reader.need_open" s_Reader_need_open f fd) (C0 : RdC K C) (ET : ErrT P w K mg base cT) (hMO : mg "MOST_OPEN" = some (.int 20 tO)) (MN : Mt P w K mg base (L2.CX P w) C 4 "need" ["self", "word"] (spNeed C cT)) : FnOk P w K mg base (L2.CX P w) 5 f fd ["self"] (spOpen C cT) := by
  refine F.okX sc_Reader_need_open (fun vs H Q E h => ?_) (fun cdv A outer s H vs Q E hr h => ?_)
  · obtain ⟨R, a, d, rfl, _⟩ := h
    rfl
  · obtain ⟨R, a, d, rfl, rfl, I, k1, k2⟩ := h
    have nd := sc_Reader_need_open.nd
    refine ⟨_, (pss_cons (ps_if (pt_cmpR op_eq (pe_fld (pv 0) rfl) (pe_glob (v := .int 20) rfl hMO ⟨_, rfl⟩) (nomark _))
    (pss_one (ps_raise rfl (takes_of rfl rfl rfl rfl) (pmk_oex ET.x ET.i ET.t ET.ok (hr.mono (by decide)) ET.b .nil pass0 (by rfl) ET.g (pa_cons (pe_fld (pv 0) rfl) pa_nil))))
    pss_nil)
    (pss_cons (ps_expr (pe_meth (pv 0) C0.cl MN.m MN.ok (hr.mono (by decide)) MN.b .nil (fun pins σ H s e s' I c => passAt (takes_of rfl rfl rfl rfl) σ pins H s e s' I c) (pa_cons pe_str pa_nil)))
    (pss_one (ps_fldaug (pv 0) pe_int in_add)))), ?_⟩
    refine ⟨_, rfl, R.r, R.C, R.dx, _, _, rfl, I.o, C0.cl, C0.n3, rfl, rfl, _, rfl, ?_⟩
    refine ite2 (fun z => ?_) (fun z => ?_)
    · have z : (d : Int) = 20 := V.int.inj (of_decide_eq_true z)
      refine ⟨_, rfl, R.r, R.C, R.dx, _, _, rfl, I.o, C0.cl, C0.n2, rfl, (by show 1 ≤ 1000; decide), ?_⟩
      exact inv_text fun x H' s' hx => k2 (.inl (by omega)) x H' (SameP.of s') hx
    · have z : d ≠ 20 := fun q => z (decide_eq_true (by rw [q]; rfl))
      refine ⟨_, rfl, R.r, R.dx, _, rfl, I.o, rfl, R, a, d, wOpen, vs2 st_open, rfl, I, by decide, fun h H1 I1 s1 => ?_, fun h => k2 (.inr h)⟩
      refine ⟨_, rfl, R.r, R.C, R.dx, _, _, rfl, I1.o, C0.cl, C0.n3, rfl, _, _, rfl, rfl, R.dx, _, I1.o, (by show 3 < 1000; decide), ?_⟩
      exact k1 z h _ (I1.go (a + 1) (d + 1)) s1.up
abbrev s_Reader_need_close : Stmt := inClass (top 40) 6
abbrev N_Reader_need_close : List Str := ["self"]
theorem sc_Reader_need_close : FnScope N_Reader_need_close ["self"] (defScope s_Reader_need_close) := ⟨rfl, rfl, rfl, by decide +kernel, rfl, by decide +kernel, by decide +kernel⟩
theorem ok_Reader_need_close {f C cT : Addr} {fd : FuncData} (F : Fun K "need_close" "Reader.need_close" s_Reader_need_close f fd) (C0 : RdC K C) (MN : Mt P w K mg base (L2.CX P w) C 4 "need" ["self", "word"] (spNeed C cT)) : FnOk P w K mg base (L2.CX P w) 5 f fd ["self"] (spClose C cT) := by
  refine F.okX sc_Reader_need_close (fun vs H Q E h => ?_) (fun cdv A outer s H vs Q E hr h => ?_)
  · obtain ⟨R, a, d, rfl, _⟩ := h
    rfl
  · obtain ⟨R, a, d, rfl, rfl, I, k1, k2⟩ := h
    have nd := sc_Reader_need_close.nd
    refine ⟨_, (pss_cons (ps_expr (pe_meth (pv 0) C0.cl MN.m MN.ok (hr.mono (by decide)) MN.b .nil (fun pins σ H s e s' I c => passAt (takes_of rfl rfl rfl rfl) σ pins H s e s' I c) (pa_cons pe_str pa_nil)))
    (pss_one (ps_fldaug (pv 0) pe_int in_sub))), ?_⟩
    refine ⟨_, rfl, R.r, R.dx, _, rfl, I.o, rfl, R, a, d + 1, wClose, vs2 st_close, rfl, I, by decide, fun h H1 I1 s1 => ?_, fun h => k2 h⟩
    refine ⟨_, rfl, R.r, R.C, R.dx, _, _, rfl, I1.o, C0.cl, C0.n3, rfl, _, _, rfl, rfl, R.dx, _, I1.o, (by show 3 < 1000; decide), ?_⟩
    have e : ((d + 1 : Nat) : Int) - 1 = (d : Int) := by omega
    have g := k1 h _ (I1.go (a + 1) d) s1.up
    rw [← e] at g
    exact g
end
end My

set_option pp.maxSteps 300
set_option Elab.async false
set_option linter.all false
set_option maxRecDepth 100000
set_option maxHeartbeats 1000000
namespace My
open PySem L2 MyR RT
/-! ### what a method of the reader promises -/
theorem ne_words {H : Hp} {a r C C' dx dx' : Addr} {k : Str} {v v' : V} {fs fs' : List (Str × V)} (h : H a = some (.ins C dx ((k, v) :: fs))) (hr : H r = some (.ins C' dx' (("words", v') :: fs'))) (hk : k ≠ ("words" : Str)) : a ≠ r := fun e => by
  rw [e, hr] at h
  injection h with h
  injection h with _ _ h
  injection h with h _
  injection h with h _
  exact hk h.symm
theorem Holds1.sp {c : CA} {cC : Addr} {H H' : Hp} {r C' dx' : Addr} {v' : V} {fs' : List (Str × V)} (hr : H r = some (.ins C' dx' (("words", v') :: fs'))) (s : SameP r H H') {t : Tag} {ks : List Addr} {a : Addr} (h : Holds1 c cC H t ks a) : Holds1 c cC H' t ks a := by
  obtain ⟨dx, h⟩ := h
  refine ⟨dx, ?_⟩
  split at h
  · exact s _ _ h (ne_words h hr (by decide +kernel))
  · exact s _ _ h (ne_words h hr (by decide +kernel))
  · rename_i k _ _
    exact s _ _ h (ne_words h hr (by cases k <;> decide +kernel))
  · exact s _ _ h (ne_words h hr (by decide +kernel))
  · exact s _ _ h (ne_words h hr (by decide +kernel))
  · exact s _ _ h (ne_words h hr (by decide +kernel))
  · obtain ⟨u, a, b⟩ := h
    exact ⟨u, s _ _ a (ne_words a hr (by decide +kernel)), s _ _ b (ne_of b hr (by intro z; cases z))⟩
  · exact h.elim
mutual
theorem NdAt.sp {c : CA} {cC : Addr} {H H' : Hp} {r C' dx' : Addr} {v' : V} {fs' : List (Str × V)} (hr : H r = some (.ins C' dx' (("words", v') :: fs'))) (s : SameP r H H') : ∀ {T : Tr} {a : Addr}, NdAt c cC H T a → NdAt c cC H' T a
  | .mk t ks, a, h => by
    simp only [NdAt] at h ⊢
    obtain ⟨as, q, r⟩ := h
    exact ⟨as, q.sp hr s, NdAll.sp hr s r⟩
theorem NdAll.sp {c : CA} {cC : Addr} {H H' : Hp} {r C' dx' : Addr} {v' : V} {fs' : List (Str × V)} (hr : H r = some (.ins C' dx' (("words", v') :: fs'))) (s : SameP r H H') : ∀ {Ts : List Tr} {as : List Addr}, NdAll c cC H Ts as → NdAll c cC H' Ts as
  | [], as, h => by
    simp only [NdAll] at h ⊢
    exact h
  | k :: ks, as, h => by
    simp only [NdAll] at h ⊢
    obtain ⟨a, bs, e, q, r⟩ := h
    exact ⟨a, bs, e, NdAt.sp hr s q, NdAll.sp hr s r⟩
end
theorem RX.At.nd {R : RX} {H H' : Hp} {a d : Nat} {c : CA} {cC : Addr} {T : Tr} {x : Addr} (I : R.At H a d) (s : SameP R.r H H') (h : NdAt c cC H T x) : NdAt c cC H' T x := NdAt.sp I.o s h
def Out (R : RX) (c : CA) (cC cT : Addr) (H : Hp) (d : Nat) (res : Res) (Q : VK) (E : XK) : Prop :=
  (∀ T a, res = .ok T a → ∀ (x : Addr) H', R.At H' a d → SameP R.r H H' → NdAt c cC H' T x → Q (.ref x) H') ∧ (∀ i, res = .fail i → Er E cT R.r H i)
def spJob (C cT : Addr) (c : CA) (cC : Addr) (j : Job) (n : Nat) : Sp := fun vs H Q E => ∃ (R : RX) (a d f : Nat) (res : Res), vs = [.ref R.r] ∧ R.C = C ∧ R.At H a d ∧ d ≤ 20 ∧ 20 ≤ d + n ∧ run R.ws f j a d = some res ∧ Out R c cC cT H d res Q E
/-- how far the reader is -/
def atOf : Option HO → Nat
  | some (.ins _ _ (_ :: (_, .int a) :: _)) => a.toNat
  | _ => 0
theorem RX.At.of {R : RX} {H : Hp} {a d : Nat} (I : R.At H a d) : atOf (H R.r) = a := by
  rw [I.o]
  show (a : Int).toNat = a
  omega
theorem inV_wd (ks : List (List Nat)) (l : List Nat) : inV (.str (wd l)) ((ks.map wd).map V.str) = ks.contains l := by
  unfold inV
  rw [List.map_map, List.any_map]
  induction ks with
  | nil => rfl
  | cons k ks ih =>
    rw [List.any_cons, List.contains_cons, ih]
    congr 1
    show eqV (.str (wd k)) (.str (wd l)) = (l == k)
    show (wd k == wd l) = (l == k)
    by_cases e : l = k
    · rw [e]
      simp
    · rw [show (l == k) = false from beq_eq_false_iff_ne.mpr e]
      exact beq_eq_false_iff_ne.mpr fun q => e (wd_inj q).symm
theorem bd_some {o : Option Res} {f : Tr → Nat → Option Res} {res : Res} (h : bd o f = some res) : (∃ i, o = some (.fail i) ∧ res = .fail i) ∨ ∃ T a, o = some (.ok T a) ∧ f T a = some res := by
  cases o with
  | none => cases h
  | some r =>
    cases r with
    | fail i => exact .inl ⟨i, rfl, (Option.some.inj h).symm⟩
    | ok T a => exact .inr ⟨T, a, rfl, h⟩
end My

set_option pp.maxSteps 300
set_option Elab.async false
set_option linter.all false
set_option maxRecDepth 100000
set_option maxHeartbeats 1000000
namespace My
open PySem L2 MyR RT
/-! ### how far a run goes -/
theorem nd_some {ws : List (List Nat)} {w : List Nat} {a : Nat} {f : Nat → Option Res} {res : Res} (h : nd ws w a f = some res) : (tk ws a = w ∧ f (a + 1) = some res) ∨ (tk ws a ≠ w ∧ res = .fail a) := by
  unfold nd at h
  by_cases e : tk ws a = w
  · rw [if_pos e] at h
    exact .inl ⟨e, h⟩
  · rw [if_neg e] at h
    exact .inr ⟨e, (Option.some.inj h).symm⟩
theorem nn_some {ws : List (List Nat)} {lo hi : Int} {a : Nat} {f : Int → Nat → Option Res} {res : Res} (h : nn ws lo hi a f = some res) : (∃ n, numV (tk ws a) = some n ∧ lo ≤ n ∧ n ≤ hi ∧ f n (a + 1) = some res) ∨ ((∀ n, numV (tk ws a) = some n → ¬ (lo ≤ n ∧ n ≤ hi)) ∧ res = .fail a) := by
  unfold nn at h
  cases e : numV (tk ws a) with
  | none =>
    rw [e] at h
    exact .inr ⟨fun n q => (by cases q), (Option.some.inj h).symm⟩
  | some n =>
    rw [e] at h
    have h : (if lo ≤ n ∧ n ≤ hi then f n (a + 1) else some (.fail a)) = some res := h
    by_cases q : lo ≤ n ∧ n ≤ hi
    · rw [if_pos q] at h
      exact .inl ⟨n, rfl, q.1, q.2, h⟩
    · rw [if_neg q] at h
      exact .inr ⟨fun m qm => (by
        cases qm
        exact q), (Option.some.inj h).symm⟩
theorem num_nil : numV [] = none := by decide
theorem num_lt {ws : List (List Nat)} {a : Nat} {n : Int} (h : numV (tk ws a) = some n) : a < ws.length := by
  refine tk_lt rfl fun e => ?_
  rw [e, num_nil] at h
  cases h
theorem int_nil : intV [] = none := by decide
theorem nm_nil : isNm [] = false := by decide
theorem int_lt {ws : List (List Nat)} {a : Nat} {n : Int} (h : intV (tk ws a) = some n) : a < ws.length := by
  refine tk_lt rfl fun e => ?_
  rw [e, int_nil] at h
  cases h
theorem nm_lt {ws : List (List Nat)} {a : Nat} (h : isNm (tk ws a) = true) : a < ws.length := by
  refine tk_lt rfl fun e => ?_
  rw [e, nm_nil] at h
  cases h
/-- a run goes on, and not beyond the words -/
theorem run_ge (ws : List (List Nat)) : ∀ (f : Nat) (j : Job) (a d : Nat) (T : Tr) (b : Nat), run ws f j a d = some (.ok T b) → a + j.go ≤ b ∧ (a ≤ ws.length ∨ j.go = 1 → b ≤ ws.length)
  | 0, j, a, d, T, b, h => by cases h
  | f + 1, .sum, a, d, T, b, h => by
    rcases bd_some (show bd (run ws f .prod a d) (fun T a => run ws f (.sumL T) a d) = some (.ok T b) from h) with ⟨i, _, e⟩ | ⟨T1, a1, h1, h2⟩
    · cases e
    · have g1 := run_ge ws f _ _ _ _ _ h1
      have g2 := run_ge ws f _ _ _ _ _ h2
      simp only [Job.go] at g1 g2 ⊢
      exact ⟨by omega, fun _ => g2.2 (.inl (g1.2 (.inr trivial)))⟩
  | f + 1, .prod, a, d, T, b, h => by
    rcases bd_some (show bd (run ws f .fac a d) (fun T a => run ws f (.prodL T) a d) = some (.ok T b) from h) with ⟨i, _, e⟩ | ⟨T1, a1, h1, h2⟩
    · cases e
    · have g1 := run_ge ws f _ _ _ _ _ h1
      have g2 := run_ge ws f _ _ _ _ _ h2
      simp only [Job.go] at g1 g2 ⊢
      exact ⟨by omega, fun _ => g2.2 (.inl (g1.2 (.inr trivial)))⟩
  | f + 1, .sumL T0, a, d, T, b, h => by
    unfold run at h
    by_cases e1 : tk ws a = wPlus
    · rw [if_pos e1] at h
      rcases bd_some h with ⟨i, _, e⟩ | ⟨T1, a1, h1, h2⟩
      · cases e
      · have g1 := run_ge ws f _ _ _ _ _ h1
        have g2 := run_ge ws f _ _ _ _ _ h2
        simp only [Job.go] at g1 g2 ⊢
        exact ⟨by omega, fun _ => g2.2 (.inl (g1.2 (.inr trivial)))⟩
    · rw [if_neg e1] at h
      by_cases e2 : tk ws a = wMinus
      · rw [if_pos e2] at h
        rcases bd_some h with ⟨i, _, e⟩ | ⟨T1, a1, h1, h2⟩
        · cases e
        · have g1 := run_ge ws f _ _ _ _ _ h1
          have g2 := run_ge ws f _ _ _ _ _ h2
          simp only [Job.go] at g1 g2 ⊢
          exact ⟨by omega, fun _ => g2.2 (.inl (g1.2 (.inr trivial)))⟩
      · rw [if_neg e2] at h
        cases h
        simp only [Job.go]
        exact ⟨by omega, fun q => q.elim id (fun z => by cases z)⟩
  | f + 1, .prodL T0, a, d, T, b, h => by
    unfold run at h
    by_cases e1 : tk ws a = wStar
    · rw [if_pos e1] at h
      rcases bd_some h with ⟨i, _, e⟩ | ⟨T1, a1, h1, h2⟩
      · cases e
      · have g1 := run_ge ws f _ _ _ _ _ h1
        have g2 := run_ge ws f _ _ _ _ _ h2
        simp only [Job.go] at g1 g2 ⊢
        exact ⟨by omega, fun _ => g2.2 (.inl (g1.2 (.inr trivial)))⟩
    · rw [if_neg e1] at h
      by_cases e2 : tk ws a = wOver
      · rw [if_pos e2] at h
        rcases bd_some h with ⟨i, _, e⟩ | ⟨T1, a1, h1, h2⟩
        · cases e
        · have g1 := run_ge ws f _ _ _ _ _ h1
          have g2 := run_ge ws f _ _ _ _ _ h2
          simp only [Job.go] at g1 g2 ⊢
          exact ⟨by omega, fun _ => g2.2 (.inl (g1.2 (.inr trivial)))⟩
      · rw [if_neg e2] at h
        cases h
        simp only [Job.go]
        exact ⟨by omega, fun q => q.elim id (fun z => by cases z)⟩
  | f + 1, .fac, a, d, T, b, h => by
    unfold run at h
    by_cases e1 : tk ws a = wHalf
    · rw [if_pos e1] at h
      rcases bd_some h with ⟨i, _, e⟩ | ⟨T1, a1, h1, h2⟩
      · cases e
      · have g1 := run_ge ws f _ _ _ _ _ h1
        simp only [Job.go] at g1 ⊢
        cases h2
        exact ⟨by omega, fun _ => g1.2 (.inr trivial)⟩
    · rw [if_neg e1] at h
      rcases bd_some h with ⟨i, _, e⟩ | ⟨T1, a1, h1, h2⟩
      · cases e
      · have g1 := run_ge ws f _ _ _ _ _ h1
        simp only [Job.go] at g1 ⊢
        by_cases e2 : tk ws a1 = wPow
        · rw [if_pos e2] at h2
          rcases nn_some h2 with ⟨n, q1, q2, q3, q4⟩ | ⟨_, e⟩
          · have := num_lt q1
            cases q4
            exact ⟨by omega, fun _ => by omega⟩
          · cases e
        · rw [if_neg e2] at h2
          by_cases e3 : tk ws a1 = wTo
          · rw [if_pos e3] at h2
            rcases bd_some h2 with ⟨i, _, e⟩ | ⟨T2, a2, h3, h4⟩
            · cases e
            · have g2 := run_ge ws f _ _ _ _ _ h3
              simp only [Job.go] at g2
              cases h4
              exact ⟨by omega, fun _ => g2.2 (.inr trivial)⟩
          · rw [if_neg e3] at h2
            cases h2
            exact ⟨by omega, fun _ => g1.2 (.inr trivial)⟩
  | f + 1, .atom, a, d, T, b, h => by
    unfold run at h
    simp only [Job.go]
    by_cases e1 : tk ws a = wOpen
    · rw [if_pos e1] at h
      by_cases e2 : d = 20
      · rw [if_pos e2] at h
        cases h
      · rw [if_neg e2] at h
        rcases bd_some h with ⟨i, _, e⟩ | ⟨T1, a1, h1, h2⟩
        · cases e
        · have g1 : a + 1 ≤ a1 := by
            by_cases e3 : tk ws (a + 1) = wIf
            · rw [if_pos e3] at h1
              have := run_ge ws f _ _ _ _ _ h1
              omega
            · rw [if_neg e3] at h1
              have := run_ge ws f _ _ _ _ _ h1
              omega
          rcases nd_some h2 with ⟨q1, q2⟩ | ⟨_, e⟩
          · have := tk_lt q1 (by decide)
            cases q2
            exact ⟨by omega, fun _ => by omega⟩
          · cases e
    · rw [if_neg e1] at h
      cases e3 : intV (tk ws a) with
      | some z =>
        rw [e3] at h
        have := int_lt e3
        cases h
        exact ⟨by omega, fun _ => by omega⟩
      | none =>
        rw [e3] at h
        have h : (if isNm (tk ws a) = true then if tk ws (a + 1) = wOpen then if d = 20 then some (.fail (a + 1)) else run ws f (.args (tk ws a) []) (a + 2) (d + 1) else some (.ok (.mk (.nam (tk ws a)) []) (a + 1)) else some (.fail a)) = some (.ok T b) := h
        by_cases e4 : isNm (tk ws a) = true
        · rw [if_pos e4] at h
          have := nm_lt e4
          by_cases e5 : tk ws (a + 1) = wOpen
          · rw [if_pos e5] at h
            by_cases e6 : d = 20
            · rw [if_pos e6] at h
              cases h
            · rw [if_neg e6] at h
              have g := run_ge ws f _ _ _ _ _ h
              simp only [Job.go] at g
              exact ⟨by omega, fun _ => g.2 (.inr trivial)⟩
          · rw [if_neg e5] at h
            cases h
            exact ⟨by omega, fun _ => by omega⟩
        · rw [if_neg e4] at h
          cases h
  | f + 1, .args x as, a, d, T, b, h => by
    unfold run at h
    simp only [Job.go]
    rcases bd_some h with ⟨i, _, e⟩ | ⟨T1, a1, h1, h2⟩
    · cases e
    · have g1 := run_ge ws f _ _ _ _ _ h1
      simp only [Job.go] at g1
      by_cases e1 : tk ws a1 = wComma
      · rw [if_pos e1] at h2
        have g := run_ge ws f _ _ _ _ _ h2
        simp only [Job.go] at g
        exact ⟨by omega, fun _ => g.2 (.inr trivial)⟩
      · rw [if_neg e1] at h2
        rcases nd_some h2 with ⟨q1, q2⟩ | ⟨_, e⟩
        · have := tk_lt q1 (by decide)
          cases q2
          exact ⟨by omega, fun _ => by omega⟩
        · cases e
  | f + 1, .cho, a, d, T, b, h => by
    unfold run at h
    simp only [Job.go]
    rcases bd_some h with ⟨i, _, e⟩ | ⟨T1, a1, h1, h2⟩
    · cases e
    have g1 := run_ge ws f _ _ _ _ _ h1
    rcases nd_some h2 with ⟨_, h2⟩ | ⟨_, e⟩
    rotate_left
    · cases e
    rcases nn_some h2 with ⟨m, _, _, _, h2⟩ | ⟨_, e⟩
    rotate_left
    · cases e
    by_cases e1 : isM m = true
    rotate_left
    · rw [if_neg e1] at h2
      cases h2
    rw [if_pos e1] at h2
    rcases nd_some h2 with ⟨_, h2⟩ | ⟨_, e⟩
    rotate_left
    · cases e
    rcases nn_some h2 with ⟨r, _, _, _, h2⟩ | ⟨_, e⟩
    rotate_left
    · cases e
    rcases nd_some h2 with ⟨_, h2⟩ | ⟨_, e⟩
    rotate_left
    · cases e
    rcases bd_some h2 with ⟨i, _, e⟩ | ⟨T2, a2, h3, h2⟩
    · cases e
    have g2 := run_ge ws f _ _ _ _ _ h3
    rcases nd_some h2 with ⟨_, h2⟩ | ⟨_, e⟩
    rotate_left
    · cases e
    rcases bd_some h2 with ⟨i, _, e⟩ | ⟨T3, a3, h3, h2⟩
    · cases e
    have g3 := run_ge ws f _ _ _ _ _ h3
    simp only [Job.go] at g1 g2 g3
    cases h2
    exact ⟨by omega, fun _ => g3.2 (.inr trivial)⟩
end My

set_option pp.maxSteps 300
set_option Elab.async false
set_option linter.all false
set_option maxRecDepth 100000
set_option maxHeartbeats 1000000
namespace My
open PySem L2 MyR RT
/-! ### a run: what it reads is in order, and it has turns enough -/
def Job.okI : Job → Prop
  | .sumL T => T.ok
  | .prodL T => T.ok
  | .args x as => isNm x = true ∧ okL as
  | _ => True
def Job.szI : Job → Nat
  | .sumL T => (subT T).length
  | .prodL T => (subT T).length
  | .args _ as => (subTs as).length
  | _ => 0
theorem okL_snoc : ∀ {as : List Tr} {T : Tr}, okL as → T.ok → okL (as ++ [T])
  | [], T, _, h => by
    simp only [List.nil_append, okL]
    exact ⟨h, trivial⟩
  | k :: ks, T, h, hT => by
    simp only [okL] at h
    simp only [List.cons_append, okL]
    exact ⟨h.1, okL_snoc h.2 hT⟩
theorem szL_snoc : ∀ (as : List Tr) (T : Tr), (subTs (as ++ [T])).length = (subTs as).length + (subT T).length
  | [], T => by
    simp only [List.nil_append, subTs, List.length_append, List.length_nil]
    omega
  | k :: ks, T => by
    simp only [List.cons_append, subTs, List.length_append, szL_snoc ks T]
    omega
theorem sz_mk (t : Tag) (ks : List Tr) : (subT (.mk t ks)).length = (subTs ks).length + 1 := by
  simp only [subT, List.length_cons]
theorem szOne (t : Tag) (T : Tr) : (subT (.mk t [T])).length = (subT T).length + 1 := by
  rw [sz_mk]
  simp only [subTs, List.length_append, List.length_nil, Nat.add_zero]
theorem szTwo (k : Bk) (T U : Tr) : (subT (two k T U)).length = (subT T).length + (subT U).length + 1 := by
  unfold two
  rw [sz_mk]
  simp only [subTs, List.length_append, List.length_nil, Nat.add_zero]
theorem szThr (t : Tag) (T U V : Tr) : (subT (.mk t [T, U, V])).length = (subT T).length + (subT U).length + (subT V).length + 1 := by
  rw [sz_mk]
  simp only [subTs, List.length_append, List.length_nil, Nat.add_zero]
  omega
theorem ok2 {k : Bk} {T U : Tr} (hT : T.ok) (hU : U.ok) : (two k T U).ok := by
  unfold two
  simp only [Tr.ok, okL]
  exact ⟨trivial, rfl, hT, hU, trivial⟩
theorem ok1 {t : Tag} {T : Tr} (ht : t.ok) (h1 : t.ar 1) (hT : T.ok) : (Tr.mk t [T]).ok := by
  simp only [Tr.ok, okL]
  exact ⟨ht, h1, hT, trivial⟩
theorem isM_ok {m : Int} (h : isM m = true) : OkM m := by
  have h : ([2, 4, 8, 16, 32, 64] : List Int).contains m = true := h
  rw [List.contains_iff_mem] at h
  simp only [List.mem_cons, List.not_mem_nil, or_false] at h
  exact h
theorem intV_in {l : List Nat} {z : Int} (h : intV l = some z) : -18446744073709551616 < z ∧ z < 18446744073709551616 := by
  unfold intV at h
  cases e : sgV l with
  | none =>
    rw [e] at h
    cases h
  | some y =>
    rw [e] at h
    have h : (if -18446744073709551616 < y ∧ y < 18446744073709551616 then some y else none) = some z := h
    by_cases q : -18446744073709551616 < y ∧ y < 18446744073709551616
    · rw [if_pos q] at h
      cases h
      exact q
    · rw [if_neg q] at h
      cases h
theorem run_tr (ws : List (List Nat)) : ∀ (f : Nat) (j : Job) (a d : Nat) (T : Tr) (b : Nat), run ws f j a d = some (.ok T b) → j.okI → T.ok ∧ (subT T).length + a ≤ b + j.szI
  | 0, j, a, d, T, b, h, _ => by cases h
  | f + 1, .sum, a, d, T, b, h, hj => by
    rcases bd_some (show bd (run ws f .prod a d) (fun T a => run ws f (.sumL T) a d) = some (.ok T b) from h) with ⟨i, _, e⟩ | ⟨T1, a1, h1, h2⟩
    · cases e
    · have g1 := run_tr ws f _ _ _ _ _ h1 trivial
      have g2 := run_tr ws f _ _ _ _ _ h2 g1.1
      simp only [Job.szI] at g1 g2 ⊢
      exact ⟨g2.1, by omega⟩
  | f + 1, .prod, a, d, T, b, h, hj => by
    rcases bd_some (show bd (run ws f .fac a d) (fun T a => run ws f (.prodL T) a d) = some (.ok T b) from h) with ⟨i, _, e⟩ | ⟨T1, a1, h1, h2⟩
    · cases e
    · have g1 := run_tr ws f _ _ _ _ _ h1 trivial
      have g2 := run_tr ws f _ _ _ _ _ h2 g1.1
      simp only [Job.szI] at g1 g2 ⊢
      exact ⟨g2.1, by omega⟩
  | f + 1, .sumL T0, a, d, T, b, h, hj => by
    have hj : T0.ok := hj
    unfold run at h
    by_cases e1 : tk ws a = wPlus
    · rw [if_pos e1] at h
      rcases bd_some h with ⟨i, _, e⟩ | ⟨T1, a1, h1, h2⟩
      · cases e
      · have g1 := run_tr ws f _ _ _ _ _ h1 trivial
        have g2 := run_tr ws f _ _ _ _ _ h2 (ok2 hj g1.1)
        simp only [Job.szI, szTwo] at g1 g2 ⊢
        exact ⟨g2.1, by omega⟩
    · rw [if_neg e1] at h
      by_cases e2 : tk ws a = wMinus
      · rw [if_pos e2] at h
        rcases bd_some h with ⟨i, _, e⟩ | ⟨T1, a1, h1, h2⟩
        · cases e
        · have g1 := run_tr ws f _ _ _ _ _ h1 trivial
          have g2 := run_tr ws f _ _ _ _ _ h2 (ok2 hj g1.1)
          simp only [Job.szI, szTwo] at g1 g2 ⊢
          exact ⟨g2.1, by omega⟩
      · rw [if_neg e2] at h
        cases h
        simp only [Job.szI]
        exact ⟨hj, by omega⟩
  | f + 1, .prodL T0, a, d, T, b, h, hj => by
    have hj : T0.ok := hj
    unfold run at h
    by_cases e1 : tk ws a = wStar
    · rw [if_pos e1] at h
      rcases bd_some h with ⟨i, _, e⟩ | ⟨T1, a1, h1, h2⟩
      · cases e
      · have g1 := run_tr ws f _ _ _ _ _ h1 trivial
        have g2 := run_tr ws f _ _ _ _ _ h2 (ok2 hj g1.1)
        simp only [Job.szI, szTwo] at g1 g2 ⊢
        exact ⟨g2.1, by omega⟩
    · rw [if_neg e1] at h
      by_cases e2 : tk ws a = wOver
      · rw [if_pos e2] at h
        rcases bd_some h with ⟨i, _, e⟩ | ⟨T1, a1, h1, h2⟩
        · cases e
        · have g1 := run_tr ws f _ _ _ _ _ h1 trivial
          have g2 := run_tr ws f _ _ _ _ _ h2 (ok2 hj g1.1)
          simp only [Job.szI, szTwo] at g1 g2 ⊢
          exact ⟨g2.1, by omega⟩
      · rw [if_neg e2] at h
        cases h
        simp only [Job.szI]
        exact ⟨hj, by omega⟩
  | f + 1, .fac, a, d, T, b, h, hj => by
    unfold run at h
    by_cases e1 : tk ws a = wHalf
    · rw [if_pos e1] at h
      rcases bd_some h with ⟨i, _, e⟩ | ⟨T1, a1, h1, h2⟩
      · cases e
      · have g1 := run_tr ws f _ _ _ _ _ h1 trivial
        simp only [Job.szI] at g1 ⊢
        cases h2
        rw [szOne]
        exact ⟨ok1 trivial rfl g1.1, by omega⟩
    · rw [if_neg e1] at h
      rcases bd_some h with ⟨i, _, e⟩ | ⟨T1, a1, h1, h2⟩
      · cases e
      · have g1 := run_tr ws f _ _ _ _ _ h1 trivial
        simp only [Job.szI] at g1 ⊢
        by_cases e2 : tk ws a1 = wPow
        · rw [if_pos e2] at h2
          rcases nn_some h2 with ⟨n, q1, q2, q3, q4⟩ | ⟨_, e⟩
          · cases q4
            rw [szOne]
            exact ⟨ok1 ⟨q2, q3⟩ rfl g1.1, by omega⟩
          · cases e
        · rw [if_neg e2] at h2
          by_cases e3 : tk ws a1 = wTo
          · rw [if_pos e3] at h2
            rcases bd_some h2 with ⟨i, _, e⟩ | ⟨T2, a2, h3, h4⟩
            · cases e
            · have g2 := run_tr ws f _ _ _ _ _ h3 trivial
              simp only [Job.szI] at g2
              cases h4
              rw [szTwo]
              exact ⟨ok2 g1.1 g2.1, by omega⟩
          · rw [if_neg e3] at h2
            cases h2
            exact ⟨g1.1, by omega⟩
  | f + 1, .atom, a, d, T, b, h, hj => by
    unfold run at h
    simp only [Job.szI]
    by_cases e1 : tk ws a = wOpen
    · rw [if_pos e1] at h
      by_cases e2 : d = 20
      · rw [if_pos e2] at h
        cases h
      · rw [if_neg e2] at h
        rcases bd_some h with ⟨i, _, e⟩ | ⟨T1, a1, h1, h2⟩
        · cases e
        · have g1 : T1.ok ∧ (subT T1).length + a ≤ a1 := by
            by_cases e3 : tk ws (a + 1) = wIf
            · rw [if_pos e3] at h1
              have := run_tr ws f _ _ _ _ _ h1 trivial
              simp only [Job.szI] at this
              exact ⟨this.1, by omega⟩
            · rw [if_neg e3] at h1
              have := run_tr ws f _ _ _ _ _ h1 trivial
              simp only [Job.szI] at this
              exact ⟨this.1, by omega⟩
          rcases nd_some h2 with ⟨q1, q2⟩ | ⟨_, e⟩
          · cases q2
            exact ⟨g1.1, by omega⟩
          · cases e
    · rw [if_neg e1] at h
      cases e3 : intV (tk ws a) with
      | some z =>
        rw [e3] at h
        have hz := intV_in e3
        cases h
        rw [sz_mk]
        simp only [Tr.ok, okL, subTs]
        exact ⟨⟨hz, rfl, trivial⟩, by simp only [List.length_nil]; omega⟩
      | none =>
        rw [e3] at h
        have h : (if isNm (tk ws a) = true then if tk ws (a + 1) = wOpen then if d = 20 then some (.fail (a + 1)) else run ws f (.args (tk ws a) []) (a + 2) (d + 1) else some (.ok (.mk (.nam (tk ws a)) []) (a + 1)) else some (.fail a)) = some (.ok T b) := h
        by_cases e4 : isNm (tk ws a) = true
        · rw [if_pos e4] at h
          by_cases e5 : tk ws (a + 1) = wOpen
          · rw [if_pos e5] at h
            by_cases e6 : d = 20
            · rw [if_pos e6] at h
              cases h
            · rw [if_neg e6] at h
              have g := run_tr ws f _ _ _ _ _ h ⟨e4, by simp only [okL]⟩
              simp only [Job.szI, subTs, List.length_nil] at g
              exact ⟨g.1, by omega⟩
          · rw [if_neg e5] at h
            cases h
            rw [sz_mk]
            simp only [Tr.ok, okL, subTs]
            exact ⟨⟨e4, rfl, trivial⟩, by simp only [List.length_nil]; omega⟩
        · rw [if_neg e4] at h
          cases h
  | f + 1, .args x as, a, d, T, b, h, hj => by
    have hj : isNm x = true ∧ okL as := hj
    unfold run at h
    rcases bd_some h with ⟨i, _, e⟩ | ⟨T1, a1, h1, h2⟩
    · cases e
    · have g1 := run_tr ws f _ _ _ _ _ h1 trivial
      by_cases e1 : tk ws a1 = wComma
      · rw [if_pos e1] at h2
        have g := run_tr ws f _ _ _ _ _ h2 ⟨hj.1, okL_snoc hj.2 g1.1⟩
        simp only [Job.szI, szL_snoc] at g g1 ⊢
        exact ⟨g.1, by omega⟩
      · rw [if_neg e1] at h2
        rcases nd_some h2 with ⟨q1, q2⟩ | ⟨_, e⟩
        · cases q2
          simp only [Job.szI, sz_mk, szL_snoc] at g1 ⊢
          simp only [Tr.ok]
          refine ⟨⟨hj.1, ?_, okL_snoc hj.2 g1.1⟩, by omega⟩
          show 1 ≤ (as ++ [T1]).length
          rw [List.length_append, List.length_singleton]
          omega
        · cases e
  | f + 1, .cho, a, d, T, b, h, hj => by
    unfold run at h
    simp only [Job.szI]
    rcases bd_some h with ⟨i, _, e⟩ | ⟨T1, a1, h1, h2⟩
    · cases e
    have g1 := run_tr ws f _ _ _ _ _ h1 trivial
    rcases nd_some h2 with ⟨_, h2⟩ | ⟨_, e⟩
    rotate_left
    · cases e
    rcases nn_some h2 with ⟨m, _, _, _, h2⟩ | ⟨_, e⟩
    rotate_left
    · cases e
    by_cases e1 : isM m = true
    rotate_left
    · rw [if_neg e1] at h2
      cases h2
    rw [if_pos e1] at h2
    rcases nd_some h2 with ⟨_, h2⟩ | ⟨_, e⟩
    rotate_left
    · cases e
    rcases nn_some h2 with ⟨r, _, hr0, hr1, h2⟩ | ⟨_, e⟩
    rotate_left
    · cases e
    rcases nd_some h2 with ⟨_, h2⟩ | ⟨_, e⟩
    rotate_left
    · cases e
    rcases bd_some h2 with ⟨i, _, e⟩ | ⟨T2, a2, h3, h2⟩
    · cases e
    have g2 := run_tr ws f _ _ _ _ _ h3 trivial
    rcases nd_some h2 with ⟨_, h2⟩ | ⟨_, e⟩
    rotate_left
    · cases e
    rcases bd_some h2 with ⟨i, _, e⟩ | ⟨T3, a3, h3, h2⟩
    · cases e
    have g3 := run_tr ws f _ _ _ _ _ h3 trivial
    simp only [Job.szI] at g1 g2 g3
    cases h2
    rw [szThr]
    simp only [Tr.ok, okL]
    exact ⟨⟨⟨isM_ok e1, hr0, by omega⟩, rfl, g1.1, g2.1, g3.1, trivial⟩, by omega⟩
/-! turns enough -/
theorem bd_ne {o : Option Res} {f : Tr → Nat → Option Res} (h : o ≠ none) (k : ∀ T a, o = some (.ok T a) → f T a ≠ none) : bd o f ≠ none := by
  cases o with
  | none => exact absurd rfl h
  | some r =>
    cases r with
    | fail i => exact fun e => by cases e
    | ok T a => exact k T a rfl
theorem nd_ne {ws : List (List Nat)} {w : List Nat} {a : Nat} {f : Nat → Option Res} (k : tk ws a = w → f (a + 1) ≠ none) : nd ws w a f ≠ none := by
  unfold nd
  by_cases e : tk ws a = w
  · rw [if_pos e]
    exact k e
  · rw [if_neg e]
    exact fun e => by cases e
theorem nn_ne {ws : List (List Nat)} {lo hi : Int} {a : Nat} {f : Int → Nat → Option Res} (k : ∀ n, numV (tk ws a) = some n → f n (a + 1) ≠ none) : nn ws lo hi a f ≠ none := by
  unfold nn
  cases e : numV (tk ws a) with
  | none => exact fun e => by cases e
  | some n =>
    show (if lo ≤ n ∧ n ≤ hi then f n (a + 1) else some (.fail a)) ≠ none
    by_cases q : lo ≤ n ∧ n ≤ hi
    · rw [if_pos q]
      exact k n e
    · rw [if_neg q]
      exact fun e => by cases e
theorem run_on (ws : List (List Nat)) : ∀ (f : Nat) (j : Job) (a d : Nat), 6 * (ws.length - a) + j.rank < f → run ws f j a d ≠ none
  | 0, j, a, d, h => absurd h (Nat.not_lt_zero _)
  | f + 1, .sum, a, d, h => by
    simp only [Job.rank] at h
    refine bd_ne (run_on ws f .prod a d (by simp only [Job.rank]; omega)) fun T b e => run_on ws f _ _ _ ?_
    have g := run_ge ws f _ _ _ _ _ e
    simp only [Job.go, Job.rank] at g ⊢
    have := g.2 (.inr trivial)
    omega
  | f + 1, .prod, a, d, h => by
    simp only [Job.rank] at h
    refine bd_ne (run_on ws f .fac a d (by simp only [Job.rank]; omega)) fun T b e => run_on ws f _ _ _ ?_
    have g := run_ge ws f _ _ _ _ _ e
    simp only [Job.go, Job.rank] at g ⊢
    have := g.2 (.inr trivial)
    omega
  | f + 1, .sumL T0, a, d, h => by
    simp only [Job.rank] at h
    unfold run
    by_cases e1 : tk ws a = wPlus
    · have := tk_lt e1 (by decide)
      rw [if_pos e1]
      refine bd_ne (run_on ws f .prod (a + 1) d (by simp only [Job.rank]; omega)) fun T b e => run_on ws f _ _ _ ?_
      have g := run_ge ws f _ _ _ _ _ e
      simp only [Job.go, Job.rank] at g ⊢
      omega
    · rw [if_neg e1]
      by_cases e2 : tk ws a = wMinus
      · have := tk_lt e2 (by decide)
        rw [if_pos e2]
        refine bd_ne (run_on ws f .prod (a + 1) d (by simp only [Job.rank]; omega)) fun T b e => run_on ws f _ _ _ ?_
        have g := run_ge ws f _ _ _ _ _ e
        simp only [Job.go, Job.rank] at g ⊢
        omega
      · rw [if_neg e2]
        exact fun e => by cases e
  | f + 1, .prodL T0, a, d, h => by
    simp only [Job.rank] at h
    unfold run
    by_cases e1 : tk ws a = wStar
    · have := tk_lt e1 (by decide)
      rw [if_pos e1]
      refine bd_ne (run_on ws f .fac (a + 1) d (by simp only [Job.rank]; omega)) fun T b e => run_on ws f _ _ _ ?_
      have g := run_ge ws f _ _ _ _ _ e
      simp only [Job.go, Job.rank] at g ⊢
      omega
    · rw [if_neg e1]
      by_cases e2 : tk ws a = wOver
      · have := tk_lt e2 (by decide)
        rw [if_pos e2]
        refine bd_ne (run_on ws f .fac (a + 1) d (by simp only [Job.rank]; omega)) fun T b e => run_on ws f _ _ _ ?_
        have g := run_ge ws f _ _ _ _ _ e
        simp only [Job.go, Job.rank] at g ⊢
        omega
      · rw [if_neg e2]
        exact fun e => by cases e
  | f + 1, .fac, a, d, h => by
    simp only [Job.rank] at h
    unfold run
    by_cases e1 : tk ws a = wHalf
    · have := tk_lt e1 (by decide)
      rw [if_pos e1]
      exact bd_ne (run_on ws f .fac (a + 1) d (by simp only [Job.rank]; omega)) fun T b e => (fun e => by cases e)
    · rw [if_neg e1]
      refine bd_ne (run_on ws f .atom a d (by simp only [Job.rank]; omega)) fun T a1 e => ?_
      have g := run_ge ws f _ _ _ _ _ e
      simp only [Job.go] at g
      by_cases e2 : tk ws a1 = wPow
      · rw [if_pos e2]
        exact nn_ne fun n _ => (fun e => by cases e)
      · rw [if_neg e2]
        by_cases e3 : tk ws a1 = wTo
        · have := tk_lt e3 (by decide)
          rw [if_pos e3]
          exact bd_ne (run_on ws f .fac (a1 + 1) d (by simp only [Job.rank]; omega)) fun T b e => (fun e => by cases e)
        · rw [if_neg e3]
          exact fun e => by cases e
  | f + 1, .atom, a, d, h => by
    simp only [Job.rank] at h
    unfold run
    by_cases e1 : tk ws a = wOpen
    · have := tk_lt e1 (by decide)
      rw [if_pos e1]
      by_cases e2 : d = 20
      · rw [if_pos e2]
        exact fun e => by cases e
      · rw [if_neg e2]
        refine bd_ne ?_ fun T b e => nd_ne fun _ => (fun e => by cases e)
        by_cases e3 : tk ws (a + 1) = wIf
        · have := tk_lt e3 (by decide)
          rw [if_pos e3]
          exact run_on ws f _ _ _ (by simp only [Job.rank]; omega)
        · rw [if_neg e3]
          exact run_on ws f _ _ _ (by simp only [Job.rank]; omega)
    · rw [if_neg e1]
      cases e3 : intV (tk ws a) with
      | some z => exact fun e => by cases e
      | none =>
        show (if isNm (tk ws a) = true then if tk ws (a + 1) = wOpen then if d = 20 then some (.fail (a + 1)) else run ws f (.args (tk ws a) []) (a + 2) (d + 1) else some (.ok (.mk (.nam (tk ws a)) []) (a + 1)) else some (.fail a)) ≠ none
        by_cases e4 : isNm (tk ws a) = true
        · rw [if_pos e4]
          by_cases e5 : tk ws (a + 1) = wOpen
          · have := tk_lt e5 (by decide)
            rw [if_pos e5]
            by_cases e6 : d = 20
            · rw [if_pos e6]
              exact fun e => by cases e
            · rw [if_neg e6]
              exact run_on ws f _ _ _ (by simp only [Job.rank]; omega)
          · rw [if_neg e5]
            exact fun e => by cases e
        · rw [if_neg e4]
          exact fun e => by cases e
  | f + 1, .args x as, a, d, h => by
    simp only [Job.rank] at h
    unfold run
    refine bd_ne (run_on ws f .sum a d (by simp only [Job.rank]; omega)) fun T a1 e => ?_
    have g := run_ge ws f _ _ _ _ _ e
    simp only [Job.go] at g
    by_cases e1 : tk ws a1 = wComma
    · have := tk_lt e1 (by decide)
      rw [if_pos e1]
      exact run_on ws f _ _ _ (by simp only [Job.rank]; omega)
    · rw [if_neg e1]
      exact nd_ne fun _ => (fun e => by cases e)
  | f + 1, .cho, a, d, h => by
    simp only [Job.rank] at h
    unfold run
    refine bd_ne (run_on ws f .sum a d (by simp only [Job.rank]; omega)) fun T a1 e => nd_ne fun _ => nn_ne fun m _ => ?_
    have g := run_ge ws f _ _ _ _ _ e
    simp only [Job.go] at g
    by_cases e1 : isM m = true
    rotate_left
    · rw [if_neg e1]
      exact fun e => by cases e
    rw [if_pos e1]
    refine nd_ne fun _ => nn_ne fun r _ => nd_ne fun _ => bd_ne (run_on ws f .sum _ d (by simp only [Job.rank]; omega)) fun U a2 e2 => nd_ne fun _ => ?_
    have g2 := run_ge ws f _ _ _ _ _ e2
    simp only [Job.go] at g2
    exact bd_ne (run_on ws f .sum _ d (by simp only [Job.rank]; omega)) fun V a3 e3 => (fun e => by cases e)
/-! sizes -/
theorem sub_len : ∀ (ks : List Tr), ks.length ≤ (subTs ks).length
  | [] => Nat.le_refl _
  | .mk t us :: ks => by
    have := sub_len ks
    simp only [subTs, subT, List.length_cons, List.length_append] at this ⊢
    omega
mutual
theorem sub_dep : ∀ T : Tr, T.dep < (subT T).length
  | .mk t ks => by
    have := subs_dep ks
    rw [sz_mk]
    simp only [Tr.dep]
    omega
theorem subs_dep : ∀ ks : List Tr, depL ks ≤ (subTs ks).length
  | [] => by simp only [depL]; exact Nat.zero_le _
  | k :: ks => by
    have h1 := sub_dep k
    have h2 := subs_dep ks
    simp only [depL, subTs, List.length_append]
    omega
end
mutual
theorem sub_nar : ∀ T : Tr, (subT T).length ≤ 100 → T.nar
  | .mk t ks, h => by
    rw [sz_mk] at h
    have := sub_len ks
    simp only [Tr.nar]
    exact ⟨by omega, subs_nar ks (by omega)⟩
theorem subs_nar : ∀ ks : List Tr, (subTs ks).length ≤ 100 → narL ks
  | [], _ => by simp only [narL]
  | k :: ks, h => by
    simp only [subTs, List.length_append] at h
    simp only [narL]
    exact ⟨sub_nar k (by omega), subs_nar ks (by omega)⟩
end
end My

set_option pp.maxSteps 400
set_option Elab.async false
set_option linter.all false
set_option maxRecDepth 100000
set_option maxHeartbeats 1000000
namespace My
open PySem L2 MyR TL NumText
theorem dig_mem (c : Nat) : decide (c ∈ ("0123456789" : Str).cps.toList) = digB c := by
  rw [show ("0123456789" : Str).cps.toList = [48, 49, 50, 51, 52, 53, 54, 55, 56, 57] from by decide +kernel]
  unfold digB
  rw [← Bool.decide_and]
  refine decide_eq_decide.mpr ?_
  simp only [List.mem_cons, List.not_mem_nil, or_false]
  omega
theorem filt_nil' {α : Type} (f : α → Bool) : ∀ l : List α, (l.filter fun j => !f j).isEmpty = l.all f
  | [] => rfl
  | a :: l => by
    rw [List.filter_cons, List.all_cons, ← filt_nil' f l]
    cases f a <;> rfl
theorem strs_eqv_nil (ss : List Str) : PyData.eqv (.list (ss.map PyData.str)) (.list []) = ss.isEmpty := by
  cases ss <;> simp [PyData.eqv, PyData.eqvAll]
theorem sdp {K : PySem.W.Frag} {H : Hp} : ∀ xs : List Str, DpAll K H (xs.map V.str) (xs.map PyData.str)
  | [] => .nil
  | x :: xs => .cons (.str x) (sdp xs)
theorem strs_lay : ∀ xs : List Str, (∀ x ∈ xs, PyData.strOk x = true) → PyData.canLayAll0 (xs.map PyData.str) = true
  | [], _ => by simp [PyData.canLayAll0]
  | x :: xs, h => by
    rw [List.map_cons, PyData.canLayAll0, PyData.canLay0, h x List.mem_cons_self, strs_lay xs fun y hy => h y (List.mem_cons_of_mem _ hy)]
    rfl
theorem strs_dep : ∀ xs : List Str, PyData.depthAll (xs.map PyData.str) = 0
  | [] => by simp [PyData.depthAll]
  | x :: xs => by
    rw [List.map_cons, PyData.depthAll, PyData.depth, strs_dep xs]
    rfl
theorem strs_shaped (xs : List Str) (h : ∀ x ∈ xs, PyData.strOk x = true) : SeqAt.shaped (.list (xs.map PyData.str)) = true := by
  unfold SeqAt.shaped
  rw [show (PyData.list (xs.map PyData.str)).canLay0 = true from by rw [PyData.canLay0]; exact strs_lay xs h, Bool.true_and]
  refine decide_eq_true ?_
  rw [PyData.depth, strs_dep]
  omega
theorem strOk_iff {s : Str} : PyData.strOk s = true ↔ ∀ c ∈ tl s, c < 0x110000 := by
  unfold PyData.strOk tl
  rw [Array.all_eq_true']
  constructor
  · intro h c hc
    exact of_decide_eq_true (h c (Array.mem_toList_iff.mp hc))
  · intro h c hc
    exact decide_eq_true (h c (Array.mem_toList_iff.mpr hc))
def spFig : Sp := fun vs H Q _ => ∃ w : Str, vs = [.str w] ∧ w.length ≤ 50000 ∧ PyData.strOk w = true ∧ ∀ H', Same H H' → Q (optV (numV (tl w))) H'
section
variable {P : Program} {w : World} {K : PySem.W.Frag} {mg : Str → Option Value} {base : Heap}
abbrev s_law_figures : Stmt := top 50
abbrev N_law_figures : List Str := ["_law_word", "_law_sign"]
theorem sc_law_figures : FnScope N_law_figures ["_law_word"] (defScope s_law_figures) := ⟨rfl, rfl, rfl, by decide +kernel, rfl, by decide +kernel, by decide +kernel⟩
theorem ok_law_figures {f : Addr} {fd : FuncData} (F : Fun K "_law_figures" "_law_figures" s_law_figures f fd) (T : Glob mg) : FnOk P w K mg base CX0 1 f fd ["_law_word"] spFig := by
  refine F.ok sc_law_figures (fun vs H Q E h => ?_) (fun cdv A outer s H vs Q E hr h => ?_)
  · obtain ⟨w, rfl, _⟩ := h
    rfl
  · obtain ⟨w, rfl, hl, hok, k⟩ := h
    have nd := sc_law_figures.nd
    have hu := hu_of hr
    refine ⟨_, (pss_cons (ps_if (PW.pt (pw_or (pt_cmpR op_eq (pv 0) pe_str (nomark _)) (pw_or (pt_cmpR op_gt (pe_callB call_len_str (by rfl) T.g_len PySem.boot_len (pa_cons (pv 0) pa_nil)) pe_int (nomark _)) (pw_or1 (pt_cmpR (op_neD hr.units) (pe_lc (own := [("_law_sign", 1)]) (g := gName 1) rfl nd (pi_str (pv 0)) (blkOk_by (N := N_law_figures) (sc := defScope s_law_figures) (by decide +kernel)) (fun _ _ _ _ _ => pg_name (i := 1) nd rfl (Or.inl rfl)) (fun _ _ _ _ _ => pts_one (pt_cmpR op_notIn_sign (pv 1) pe_str (by rfl))) (fun _ _ _ _ _ => (pv 1))) (pe_lst pa_nil) (nomark _))))))
    (pss_one (ps_ret pe_non))
    pss_nil)
    (pss_one (ps_ret (pe_ifExp (PW.pt (pw_and (pt_cmpR op_gt (pe_callB call_len_str (by rfl) T.g_len PySem.boot_len (pa_cons (pv 0) pa_nil)) pe_int (nomark _)) (pw_and1 (pt_cmpR op_eq (pe_ix ix_str (pv 0) pe_int (fun _ _ => rfl)) pe_str (nomark _))))) pe_non (pe_callTy call_int_str (by rfl) T.g_int (by decide +kernel) (pa_cons (pv 0) pa_nil)))))), ?_⟩
    have hlen : w.length = (tl w).length := len_tl w
    have hls : w.length ≤ sizeLine := Nat.le_trans hl (by decide +kernel)
    have hnb : numB (tl w) = (decide (1 ≤ (tl w).length) && decide ((tl w).length ≤ 20) && !(decide ((tl w).head? = some 48) && !decide (tl w = [48])) && (tl w).all digB) := rfl
    have no : ∀ H', Same H H' → numB (tl w) = false → Q .non H' := fun H' s e => by
      have q := k H' s
      unfold numV at q
      rw [e, if_neg Bool.false_ne_true] at q
      exact q
    refine seq_rt (fun σ H' => σ = [some (.str w), none] ∧ Same H H' ∧ 1 ≤ (tl w).length ∧ (tl w).length ≤ 20 ∧ (tl w).all digB = true) (fun nx' hn => ?_) ?_
    · refine ⟨_, rfl, rfl, _, rfl, ?_⟩
      refine ite2 (fun h0 => ?_) (fun h0 => ?_)
      · have h0 := V.str.inj (of_decide_eq_true h0)
        refine no H (Same.refl H) ?_
        rw [h0]
        decide +kernel
      have hne : tl w ≠ [] := fun e => h0 (decide_eq_true (congrArg V.str (ext_tl (by rw [e]; rfl))))
      have hpos := List.length_pos_iff.mpr hne
      refine ⟨_, rfl, w, rfl, hls, _, _, rfl, rfl, _, rfl, ?_⟩
      refine ite2 (fun h20 => ?_) (fun h20 => ?_)
      · have h20 := of_decide_eq_true h20
        refine no H (Same.refl H) ?_
        rw [hnb, decide_eq_false (show ¬ (tl w).length ≤ 20 by omega)]
        cases decide (1 ≤ (tl w).length) <;> rfl
      have h20 := of_decide_eq_false (Bool.eq_false_iff.mpr h20)
      refine ⟨_, rfl, w, rfl, fun D hD => ?_⟩
      refine lc_it walk_str (fun i H1 => Same H H1 ∧ H1 D = some (.lst ((((tl w).take i).filter fun c => !digB c).map fun c => V.str (sg c)))) ⟨new_same hD, upd_same⟩ (fun _ _ _ _ => trivial) ?_ ?_
      · rintro i x H1 H2 hi ⟨sm, h2⟩ ⟨rfl, c, hc, rfl⟩
        have hc2 : (tl w)[i]? = some c := by rw [Array.getElem?_toList]; exact hc
        refine ⟨rfl, ?_⟩
        refine ⟨_, rfl, c, _, rfl, rfl, _, rfl, ?_⟩
        rw [dig_mem]
        cases hd : digB c with
        | true =>
          refine iteF ?_
          refine ⟨sm, ?_⟩
          rw [List.take_add_one, hc2, List.filter_append]
          show H2 D = some (.lst ((_ ++ List.filter _ [c]).map _))
          rw [List.filter_cons, hd]
          simp only [Bool.not_true, Bool.false_eq_true, if_false, List.filter_nil, List.append_nil]
          exact h2
        | false =>
          refine iteT ?_
          refine ⟨_, rfl, _, h2, ?_, fun b o e => ?_, ?_⟩
          · rw [List.length_map]
            have := List.length_filter_le (fun c => !digB c) ((tl w).take i)
            rw [List.length_take] at this
            exact small1000 (by omega)
          · rw [upd_ne (ne_of_none e hD)]
            exact sm _ _ e
          · rw [upd_same, List.take_add_one, hc2, List.filter_append]
            show _ = some (HO.lst ((_ ++ List.filter _ [c]).map _))
            rw [List.filter_cons, hd]
            simp only [Bool.not_false, if_true, List.filter_nil, List.map_append]
            rfl
      · rintro H1 ⟨sm, h2⟩
        have hl0 : (tl w).take w.cps.size = tl w := List.take_of_length_le (by rw [Array.length_toList]; exact Nat.le_refl _)
        rw [hl0] at h2
        refine ⟨by show 0 ≤ sizeLine; decide, fun e he => ?_⟩
        have s3 := new_same (o := .lst []) he
        have h3 : (upd H1 e (.lst [])) D = some (.lst ((((tl w).filter fun c => !digB c).map sg).map V.str)) := by
          rw [List.map_map]
          exact s3 _ _ h2
        refine ⟨_, .list [], .lst (SqL.of h3) (sdp _), .lst (SqL.of upd_same) .nil, strs_shaped _ fun x hx => ?_, rfl, ?_⟩
        · obtain ⟨c, hc, rfl⟩ := List.mem_map.mp hx
          have hc := (List.mem_filter.mp hc).1
          exact strOk_iff.mpr fun d hd => by
            have hd : d ∈ [c] := hd
            rw [List.mem_singleton.mp hd]
            exact strOk_iff.mp hok c hc
        rw [strs_eqv_nil, List.isEmpty_map, filt_nil']
        cases hd : (tl w).all digB with
        | false => exact ⟨_, rfl, no _ (sm.trans s3) (by rw [hnb, hd, Bool.and_false])⟩
        | true => exact ⟨_, rfl, hn _ _ ⟨rfl, sm.trans s3, by omega, by omega, hd⟩⟩
    rintro σ H1 ⟨rfl, sm, h1, h20, hd⟩
    have hnum : ∀ b : Bool, (decide ((tl w).head? = some 48) && !decide (tl w = [48])) = b → numV (tl w) = if b = true then none else some ((digitsVal (tl w) : Nat) : Int) := fun b hb => by
      unfold numV
      rw [hnb, decide_eq_true h1, decide_eq_true h20, hd, hb]
      cases b <;> rfl
    have hne : tl w ≠ [] := by intro e; rw [e] at h1; simp at h1
    obtain ⟨a, l, el⟩ : ∃ a l, tl w = a :: l := by
      cases e : tl w with
      | nil => exact absurd e hne
      | cons a l => exact ⟨a, l, rfl⟩
    have last : (decide ((tl w).head? = some 48) && !decide (tl w = [48])) = false → ∃ n, PySem.intText? w = some n ∧ w.length ≤ 640 ∧ Q (.int n) H1 := fun hb => by
      have q := k H1 sm
      rw [hnum _ hb] at q
      exact ⟨_, intText_digits (all_digits hd) hne (by omega), by omega, q⟩
    have none_ : (decide ((tl w).head? = some 48) && !decide (tl w = [48])) = true → Q .non H1 := fun hb => by
      have q := k H1 sm
      rw [hnum _ hb] at q
      exact q
    refine ⟨_, rfl, w, rfl, hls, _, _, rfl, rfl, _, rfl, ?_⟩
    refine ite2 (fun hl1 => ?_) (fun hl1 => ?_)
    · have hl1 := of_decide_eq_true hl1
      refine ⟨_, rfl, w, 0, a, rfl, rfl, hls, ?_, ?_⟩
      · refine atI_nat (j := 0) ?_
        show (tl w)[0]? = some a
        rw [el]
        rfl
      refine ⟨rfl, _, rfl, ?_⟩
      rw [show (⟨#[a]⟩ : Str) = sg a from rfl, sg_0, show decide (V.str (sg a) = V.str (sg 48)) = decide (a = 48) from decide_eq_decide.mpr ⟨fun e => sg_inj.mp (V.str.inj e), fun e => by rw [e]⟩]
      have hl2 : decide (tl w = [48]) = false := decide_eq_false fun e => by rw [e] at hlen; simp at hlen; omega
      have hh : decide ((tl w).head? = some 48) = decide (a = 48) := by
        rw [el]
        exact decide_eq_decide.mpr ⟨fun e => Option.some.inj e, fun e => by rw [e]; rfl⟩
      refine ite2 (fun h48 => ?_) (fun h48 => ?_)
      · exact none_ (by rw [hh, h48, hl2]; rfl)
      · obtain ⟨n, e1, e2, q⟩ := last (by rw [hh, Bool.eq_false_iff.mpr h48]; rfl)
        exact ⟨_, rfl, w, n, rfl, e1, e2, q⟩
    · have hl1 := of_decide_eq_false (Bool.eq_false_iff.mpr hl1)
      have hll : l = [] := by
        have : (tl w).length = l.length + 1 := by rw [el]; rfl
        exact List.eq_nil_of_length_eq_zero (by omega)
      obtain ⟨n, e1, e2, q⟩ := last (by
        rw [el, hll]
        by_cases e : a = 48
        · subst e
          decide
        · rw [decide_eq_false (show ¬ [a].head? = some 48 from fun z => e (Option.some.inj z))]
          rfl)
      refine ⟨_, rfl, w, n, rfl, e1, e2, q⟩
end
end My

set_option pp.maxSteps 300
set_option Elab.async false
set_option linter.all false
set_option maxRecDepth 100000
set_option maxHeartbeats 1000000
namespace My
open PySem L2 MyR RT
/-! ### the law's reading: a dict -/
structure LX where
  D : Addr
  L : Addr
  ws : List (List Nat)
def rdV (L : Addr) (a d : Int) (b : Bool) : List (Key × V) := [(.inr "words", .ref L), (.inr "at", .int a), (.inr "opened", .int d), (.inr "fine", .bl b)]
structure LX.At (X : LX) (H : Hp) (a : Nat) (d : Int) (b : Bool) : Prop where
  o : H X.D = some (.dK (rdV X.L (a : Int) d b))
  l : H X.L = some (.lst (X.ws.map fun w => V.str (wd w)))
  k : WsOk X.ws
  s : ∀ w ∈ X.ws, ∀ c ∈ w, c < 256
theorem kr12 : ¬ ((.inr "words" : Key) = .inr "at") := fun h => absurd (Sum.inr.inj h) (by decide +kernel)
theorem kr13 : ¬ ((.inr "words" : Key) = .inr "opened") := fun h => absurd (Sum.inr.inj h) (by decide +kernel)
theorem kr14 : ¬ ((.inr "words" : Key) = .inr "fine") := fun h => absurd (Sum.inr.inj h) (by decide +kernel)
theorem kr23 : ¬ ((.inr "at" : Key) = .inr "opened") := fun h => absurd (Sum.inr.inj h) (by decide +kernel)
theorem kr24 : ¬ ((.inr "at" : Key) = .inr "fine") := fun h => absurd (Sum.inr.inj h) (by decide +kernel)
theorem kr34 : ¬ ((.inr "opened" : Key) = .inr "fine") := fun h => absurd (Sum.inr.inj h) (by decide +kernel)
section
variable {L : Addr} {a d : Int} {b : Bool}
theorem r_words : valV (rdV L a d b) (.inr "words") = some (.ref L) := valV_pos rfl
theorem r_at : valV (rdV L a d b) (.inr "at") = some (.int a) := by
  unfold rdV; rw [valV_neg kr12, valV_pos rfl]
theorem r_opened : valV (rdV L a d b) (.inr "opened") = some (.int d) := by
  unfold rdV; rw [valV_neg kr13, valV_neg kr23, valV_pos rfl]
theorem r_fine : valV (rdV L a d b) (.inr "fine") = some (.bl b) := by
  unfold rdV; rw [valV_neg kr14, valV_neg kr24, valV_neg kr34, valV_pos rfl]
theorem r_put_at {z : Int} : putK (rdV L a d b) (.inr "at") (.int z) = rdV L z d b := by
  unfold putK
  rw [valV_any, r_at]
  rw [if_pos (show (some (V.int a)).isSome = true from rfl)]
  unfold rdV
  simp only [List.map_cons, List.map_nil, if_true, if_neg kr12, if_neg (Ne.symm kr23), if_neg (Ne.symm kr24)]
theorem r_put_opened {z : Int} : putK (rdV L a d b) (.inr "opened") (.int z) = rdV L a z b := by
  unfold putK
  rw [valV_any, r_opened]
  rw [if_pos (show (some (V.int d)).isSome = true from rfl)]
  unfold rdV
  simp only [List.map_cons, List.map_nil, if_true, if_neg kr13, if_neg kr23, if_neg (Ne.symm kr34)]
theorem r_put_fine {z : Bool} : putK (rdV L a d b) (.inr "fine") (.bl z) = rdV L a d z := by
  unfold putK
  rw [valV_any, r_fine]
  rw [if_pos (show (some (V.bl b)).isSome = true from rfl)]
  unfold rdV
  simp only [List.map_cons, List.map_nil, if_true, if_neg kr14, if_neg kr24, if_neg kr34]
theorem r_merge : mergeK [] (rdV L a d b) = rdV L a d b := by
  unfold mergeK rdV
  simp only [List.foldl_cons, List.foldl_nil]
  have e1 : putK ([] : List (Key × V)) (.inr "words") (.ref L) = [(.inr "words", .ref L)] := putK_new _ valV_nil
  have e2 : putK ([(.inr "words", .ref L)] : List (Key × V)) (.inr "at") (.int a) = [(.inr "words", .ref L), (.inr "at", .int a)] := putK_new _ (by rw [valV_neg kr12]; rfl)
  have e3 : putK ([(.inr "words", .ref L), (.inr "at", .int a)] : List (Key × V)) (.inr "opened") (.int d) = [(.inr "words", .ref L), (.inr "at", .int a), (.inr "opened", .int d)] := putK_new _ (by rw [valV_neg kr13, valV_neg kr23]; rfl)
  have e4 : putK ([(.inr "words", .ref L), (.inr "at", .int a), (.inr "opened", .int d)] : List (Key × V)) (.inr "fine") (.bl b) = [(.inr "words", .ref L), (.inr "at", .int a), (.inr "opened", .int d), (.inr "fine", .bl b)] := putK_new _ (by rw [valV_neg kr14, valV_neg kr24, valV_neg kr34]; rfl)
  rw [e1, e2, e3, e4]
end
section
variable {X : LX} {H : Hp} {a : Nat} {d : Int} {b : Bool}
theorem LX.At.words (I : X.At H a d b) : DGet H X.D (.str "words") (some (.ref X.L)) := by
  have q := DGet.k (k := .inr "words") I.o
  rw [r_words] at q
  exact q
theorem LX.At.at (I : X.At H a d b) : DGet H X.D (.str "at") (some (.int (a : Int))) := by
  have q := DGet.k (k := .inr "at") I.o
  rw [r_at] at q
  exact q
theorem LX.At.opened (I : X.At H a d b) : DGet H X.D (.str "opened") (some (.int d)) := by
  have q := DGet.k (k := .inr "opened") I.o
  rw [r_opened] at q
  exact q
theorem LX.At.fine (I : X.At H a d b) : DGet H X.D (.str "fine") (some (.bl b)) := by
  have q := DGet.k (k := .inr "fine") I.o
  rw [r_fine] at q
  exact q
theorem LX.At.pat (I : X.At H a d b) (z : Int) : DPut H X.D (.str "at") (.int z) (upd H X.D (.dK (rdV X.L z d b))) := by
  have q := DPut.k (k := .inr "at") (v := .int z) I.o (by show 4 < sizeLine; decide)
  rw [r_put_at] at q
  exact q
theorem LX.At.popened (I : X.At H a d b) (z : Int) : DPut H X.D (.str "opened") (.int z) (upd H X.D (.dK (rdV X.L a z b))) := by
  have q := DPut.k (k := .inr "opened") (v := .int z) I.o (by show 4 < sizeLine; decide)
  rw [r_put_opened] at q
  exact q
theorem LX.At.pfine (I : X.At H a d b) (z : Bool) : DPut H X.D (.str "fine") (.bl z) (upd H X.D (.dK (rdV X.L a d z))) := by
  have q := DPut.k (k := .inr "fine") (v := .bl z) I.o (by show 4 < sizeLine; decide)
  rw [r_put_fine] at q
  exact q
theorem LX.At.nl (I : X.At H a d b) : X.L ≠ X.D := ne_of I.l I.o (by intro z; cases z)
theorem LX.At.go (I : X.At H a d b) (a' : Nat) (d' : Int) (b' : Bool) : X.At (upd H X.D (.dK (rdV X.L (a' : Int) d' b'))) a' d' b' := ⟨upd_same, upd_keep I.l I.nl, I.k, I.s⟩
theorem LX.At.same {H' : Hp} (I : X.At H a d b) (s : Same H H') : X.At H' a d b := ⟨s _ _ I.o, s _ _ I.l, I.k, I.s⟩
theorem LX.At.tr {H' : Hp} {T : Tr} {p : Addr} (I : X.At H a d b) (s : SameP X.D H H') (h : TrAt H T p) : TrAt H' T p := h.map fun q xs e => s _ _ e (ne_of e I.o (by intro z; cases z))
end
/-- the word at an index; behind the last one a word of its own -/
def lk (ws : List (List Nat)) (a : Nat) : List Nat := if a < ws.length then tk ws a else [10]
theorem tk_out {ws : List (List Nat)} {a : Nat} (h : ¬ a < ws.length) : tk ws a = [] := by
  unfold tk
  rw [List.getD_eq_getElem?_getD, List.getElem?_eq_none (by omega)]
  rfl
theorem nx_eq {ws : List (List Nat)} {a : Nat} {w : List Nat} (h1 : w ≠ []) (h2 : w ≠ [10]) : decide (lk ws a = w) = decide (tk ws a = w) := by
  unfold lk
  by_cases e : a < ws.length
  · rw [if_pos e]
  · rw [if_neg e, tk_out e]
    exact decide_eq_decide.mpr ⟨fun q => absurd q.symm h2, fun q => absurd q.symm h1⟩
theorem nx_num (ws : List (List Nat)) (a : Nat) : numV (lk ws a) = numV (tk ws a) := by
  unfold lk
  by_cases e : a < ws.length
  · rw [if_pos e]
  · rw [if_neg e, tk_out e]
    decide
theorem nx_int (ws : List (List Nat)) (a : Nat) : intV (lk ws a) = intV (tk ws a) := by
  unfold lk
  by_cases e : a < ws.length
  · rw [if_pos e]
  · rw [if_neg e, tk_out e]
    decide
theorem nx_nm (ws : List (List Nat)) (a : Nat) : isNm (lk ws a) = isNm (tk ws a) := by
  unfold lk
  by_cases e : a < ws.length
  · rw [if_pos e]
  · rw [if_neg e, tk_out e]
    decide
theorem nx_in {ws : List (List Nat)} {a : Nat} (h : tk ws a ≠ []) : lk ws a = tk ws a := by
  unfold lk
  by_cases e : a < ws.length
  · rw [if_pos e]
  · exact absurd (tk_out e) h
theorem nx_len {ws : List (List Nat)} (h : WsOk ws) (a : Nat) : (lk ws a).length ≤ 100 := by
  unfold lk
  by_cases e : a < ws.length
  · rw [if_pos e]
    exact tk_len h a
  · rw [if_neg e]
    decide
theorem nx_s {ws : List (List Nat)} (h : ∀ w ∈ ws, ∀ c ∈ w, c < 256) (a : Nat) : ∀ c ∈ lk ws a, c < 256 := by
  unfold lk
  by_cases e : a < ws.length
  · rw [if_pos e]
    unfold tk
    rw [List.getD_eq_getElem?_getD, List.getElem?_eq_getElem e]
    exact h _ (List.getElem_mem e)
  · rw [if_neg e]
    decide
/-- fine still, when a word that must stand there does -/
def fw (ws : List (List Nat)) (w : List Nat) (a : Nat) (b : Bool) : Bool := b && decide (tk ws a = w)
def up1 (a : Nat) (b : Bool) : Nat := if b = true then a + 1 else a
theorem up1_int (a : Nat) (b : Bool) : (a : Int) + (if b = true then 1 else 0) = ((up1 a b : Nat) : Int) := by
  unfold up1
  cases b <;> rfl
def fk (ws : List (List Nat)) (m : Int) (a : Nat) (b : Bool) : Bool := b && match numV (tk ws a) with
  | some n => decide (n ≤ m)
  | none => false
def spLn : Sp := fun vs H Q _ => ∃ (X : LX) (a : Nat) (d : Int) (b : Bool), vs = [.ref X.D] ∧ X.At H a d b ∧ Q (.str (wd (lk X.ws a))) H
def spLt : Sp := fun vs H Q _ => ∃ (X : LX) (a : Nat) (d : Int) (b : Bool) (w : List Nat), vs = [.ref X.D, .str (wd w)] ∧ X.At H a d b ∧ w ≠ [] ∧ w ≠ [10] ∧
  ∀ H', X.At H' (up1 a (fw X.ws w a b)) d (fw X.ws w a b) → SameP X.D H H' → Q .non H'
def spLo : Sp := fun vs H Q _ => ∃ (X : LX) (a : Nat) (d : Int) (b : Bool), vs = [.ref X.D] ∧ X.At H a d b ∧
  ∀ H', X.At H' (up1 a (fw X.ws wOpen a (b && decide (d < 20)))) (d + 1) (fw X.ws wOpen a (b && decide (d < 20))) → SameP X.D H H' → Q .non H'
def spLc : Sp := fun vs H Q _ => ∃ (X : LX) (a : Nat) (d : Int) (b : Bool), vs = [.ref X.D] ∧ X.At H a d b ∧
  ∀ H', X.At H' (up1 a (fw X.ws wClose a b)) (d - 1) (fw X.ws wClose a b) → SameP X.D H H' → Q .non H'
def spLk : Sp := fun vs H Q _ => ∃ (X : LX) (a : Nat) (d : Int) (b : Bool) (m : Int), vs = [.ref X.D, .int m] ∧ X.At H a d b ∧
  ∀ H', X.At H' (up1 a (fk X.ws m a b)) d (fk X.ws m a b) → SameP X.D H H' → Q (optV (numV (tk X.ws a))) H'
section
variable {P : Program} {w : World} {K : PySem.W.Frag} {mg : Str → Option Value} {base : Heap}
abbrev s_law_next : Stmt := top 52
abbrev N_law_next : List Str := ["_law_reading"]
theorem sc_law_next : FnScope N_law_next ["_law_reading"] (defScope s_law_next) := ⟨rfl, rfl, rfl, by decide +kernel, rfl, by decide +kernel, by decide +kernel⟩
theorem ok_law_next {f : Addr} {fd : FuncData} (F : Fun K "_law_next" "_law_next" s_law_next f fd) (T : Glob mg) : FnOk P w K mg base CX0 1 f fd ["_law_reading"] spLn := by
  refine F.ok sc_law_next (fun vs H Q E h => ?_) (fun cdv A outer s H vs Q E hr h => ?_)
  · obtain ⟨X, a, d, b, rfl, _⟩ := h
    rfl
  · obtain ⟨X, a, d, b, rfl, I, kq⟩ := h
    have nd := sc_law_next.nd
    have hu := hu_of hr
    refine ⟨_, (pss_one (ps_ret (pe_ifExp (pt_cmpR op_lt (pe_dget hu (pv 0) pe_str (fun _ _ => rfl)) (pe_callB call_len_seq (by rfl) T.g_len PySem.boot_len (pa_cons (pe_dget hu (pv 0) pe_str (fun _ _ => rfl)) pa_nil)) (nomark _)) (pe_ix ix_list (pe_dget hu (pv 0) pe_str (fun _ _ => rfl)) (pe_dget hu (pv 0) pe_str (fun _ _ => rfl)) (fun _ _ => rfl)) pe_str))), ?_⟩
    refine ⟨_, rfl, X.D, _, rfl, I.at, _, rfl, X.D, _, rfl, I.words, X.L, _, rfl, .inl (SqL.of I.l), _, _, rfl, rfl, _, rfl, ?_⟩
    rw [List.length_map]
    refine ite2 (fun z => ?_) (fun z => ?_)
    · have z : (a : Int) < (X.ws.length : Int) := of_decide_eq_true z
      have ha : a < X.ws.length := by omega
      have ht : (X.ws.map fun w => V.str (wd w))[a]? = some (.str (wd (lk X.ws a))) := by
        unfold lk tk
        rw [if_pos ha, List.getElem?_map, List.getD_eq_getElem?_getD, List.getElem?_eq_getElem ha]
        rfl
      exact ⟨_, rfl, X.D, _, rfl, I.words, _, rfl, X.D, _, rfl, I.at, X.L, _, _, _, rfl, rfl, SqL.of I.l, atI_nat ht, kq⟩
    · have z : ¬ (a : Int) < (X.ws.length : Int) := fun q => z (decide_eq_true q)
      have e : lk X.ws a = [10] := by
        unfold lk
        rw [if_neg (by omega)]
      rw [e] at kq
      exact kq
abbrev s_law_take : Stmt := top 53
abbrev N_law_take : List Str := ["_law_reading", "_law_word"]
theorem sc_law_take : FnScope N_law_take ["_law_reading", "_law_word"] (defScope s_law_take) := ⟨rfl, rfl, rfl, by decide +kernel, rfl, by decide +kernel, by decide +kernel⟩
theorem st_lk (ws : List (List Nat)) (a : Nat) {w : List Nat} (h1 : w ≠ []) (h2 : w ≠ [10]) : decide (V.str (wd (lk ws a)) = V.str (wd w)) = decide (tk ws a = w) := by
  rw [← nx_eq h1 h2]
  exact decide_eq_decide.mpr ⟨fun q => wd_inj (V.str.inj q), fun q => by rw [q]⟩
theorem ok_law_take {f : Addr} {fd : FuncData} (F : Fun K "_law_take" "_law_take" s_law_take f fd) (T : Glob mg) (D_law_next : Df P w K mg base 1 "_law_next" ["_law_reading"] spLn) : FnOk P w K mg base CX0 2 f fd ["_law_reading", "_law_word"] spLt := by
  refine F.ok sc_law_take (fun vs H Q E h => ?_) (fun cdv A outer s H vs Q E hr h => ?_)
  · obtain ⟨X, a, d, b, w, rfl, _⟩ := h
    rfl
  · obtain ⟨X, a, d, b, w, rfl, I, h1, h2, kq⟩ := h
    have nd := sc_law_take.nd
    have hu := hu_of hr
    refine ⟨_, (pss_cons (ps_if (PW.pt (pw_and (pt_val (pe_dget hu (pv 0) pe_str (fun _ _ => rfl))) (pw_and1 (pt_cmpR op_ne (pe_call D_law_next.ok (hr.mono (by decide)) (by rfl) D_law_next.g D_law_next.kp D_law_next.b .nil pass0 (pa_cons (pv 0) pa_nil)) (pv 1) (nomark _)))))
    (pss_one (ps_dput hu (pv 0) pe_str pe_bl rfl))
    pss_nil)
    (pss_one (ps_dput hu (pv 0) pe_str (pe_op op_add (pe_dget hu (pv 0) pe_str (fun _ _ => rfl)) (pe_callTy call_int1 (by rfl) T.g_int (by decide +kernel) (pa_cons (pe_dget hu (pv 0) pe_str (fun _ _ => rfl)) pa_nil))) rfl))), ?_⟩
    refine seq_by (fun σ H1 => σ = [some (.ref X.D), some (.str (wd w))] ∧ X.At H1 a d (fw X.ws w a b) ∧ SameP X.D H H1) (fun D' hD' => ?_) ?_
    · refine ⟨_, rfl, X.D, _, rfl, I.fine, _, rfl, ?_⟩
      cases b with
      | false => exact iteF (hD' _ _ ⟨rfl, I, SameP.rfl'⟩)
      | true =>
        refine iteT ⟨_, rfl, X, a, d, true, rfl, I, _, rfl, rfl, _, rfl, ?_⟩
        rw [st_lk _ _ h1 h2]
        unfold fw at hD'
        by_cases e : tk X.ws a = w
        · rw [decide_eq_true e] at hD' ⊢
          exact hD' _ _ ⟨rfl, I, SameP.rfl'⟩
        · rw [decide_eq_false e] at hD' ⊢
          exact ⟨_, rfl, X.D, _, rfl, I.pfine false, hD' _ _ ⟨rfl, I.go a d false, SameP.rfl'.up⟩⟩
    rintro σ H1 ⟨rfl, I1, s1⟩
    refine ⟨_, rfl, X.D, _, rfl, I1.at, _, rfl, X.D, _, rfl, I1.fine, .inr ⟨_, rfl, _, _, rfl, rfl, ?_⟩⟩
    have q := kq _ (I1.go (up1 a (fw X.ws w a b)) d (fw X.ws w a b)) s1.up
    rw [← up1_int] at q
    exact ⟨_, rfl, X.D, _, rfl, I1.pat _, q⟩
abbrev s_law_open : Stmt := top 54
abbrev N_law_open : List Str := ["_law_reading"]
theorem sc_law_open : FnScope N_law_open ["_law_reading"] (defScope s_law_open) := ⟨rfl, rfl, rfl, by decide +kernel, rfl, by decide +kernel, by decide +kernel⟩
theorem ok_law_open {f : Addr} {fd : FuncData} (F : Fun K "_law_open" "_law_open" s_law_open f fd) (T : Glob mg) (D_law_take : Df P w K mg base 2 "_law_take" ["_law_reading", "_law_word"] spLt) : FnOk P w K mg base CX0 3 f fd ["_law_reading"] spLo := by
  refine F.ok sc_law_open (fun vs H Q E h => ?_) (fun cdv A outer s H vs Q E hr h => ?_)
  · obtain ⟨X, a, d, b, rfl, _⟩ := h
    rfl
  · obtain ⟨X, a, d, b, rfl, I, kq⟩ := h
    have nd := sc_law_open.nd
    have hu := hu_of hr
    refine ⟨_, (pss_cons (ps_dput hu (pv 0) pe_str (pe_and (pe_dget hu (pv 0) pe_str (fun _ _ => rfl)) (pe_one (pe_cmpR op_lt (pe_dget hu (pv 0) pe_str (fun _ _ => rfl)) pe_int (nomark _)))) rfl)
    (pss_cons (ps_expr (pe_call D_law_take.ok (hr.mono (by decide)) (by rfl) D_law_take.g D_law_take.kp D_law_take.b .nil pass0 (pa_cons (pv 0) (pa_cons pe_str pa_nil))))
    (pss_one (ps_dput hu (pv 0) pe_str (pe_op op_add (pe_dget hu (pv 0) pe_str (fun _ _ => rfl)) pe_int) rfl)))), ?_⟩
    refine seq_by (fun σ H1 => σ = [some (.ref X.D)] ∧ X.At H1 a d (b && decide (d < 20)) ∧ SameP X.D H H1) (fun D' hD' => ?_) ?_
    · refine ⟨_, rfl, X.D, _, rfl, I.fine, ?_⟩
      cases b with
      | false => exact ⟨false, rfl, iteF ⟨_, rfl, X.D, _, rfl, I.pfine false, hD' _ _ ⟨rfl, I.go a d false, SameP.rfl'.up⟩⟩⟩
      | true => exact ⟨true, rfl, iteT ⟨_, rfl, X.D, _, rfl, I.opened, _, _, rfl, rfl, _, rfl, X.D, _, rfl, I.pfine _, hD' _ _ ⟨rfl, I.go a d _, SameP.rfl'.up⟩⟩⟩
    rintro σ H1 ⟨rfl, I1, s1⟩
    refine ⟨_, rfl, X, a, d, _, wOpen, vs2 st_open, I1, by decide, by decide, fun H2 I2 s2 => ?_⟩
    exact ⟨_, rfl, X.D, _, rfl, I2.opened, _, _, rfl, rfl, _, rfl, X.D, _, rfl, I2.popened _, kq _ (I2.go _ (d + 1) _) (s1.trans s2).up⟩
abbrev s_law_close : Stmt := top 55
abbrev N_law_close : List Str := ["_law_reading"]
theorem sc_law_close : FnScope N_law_close ["_law_reading"] (defScope s_law_close) := ⟨rfl, rfl, rfl, by decide +kernel, rfl, by decide +kernel, by decide +kernel⟩
theorem ok_law_close {f : Addr} {fd : FuncData} (F : Fun K "_law_close" "_law_close" s_law_close f fd) (T : Glob mg) (D_law_take : Df P w K mg base 2 "_law_take" ["_law_reading", "_law_word"] spLt) : FnOk P w K mg base CX0 3 f fd ["_law_reading"] spLc := by
  refine F.ok sc_law_close (fun vs H Q E h => ?_) (fun cdv A outer s H vs Q E hr h => ?_)
  · obtain ⟨X, a, d, b, rfl, _⟩ := h
    rfl
  · obtain ⟨X, a, d, b, rfl, I, kq⟩ := h
    have nd := sc_law_close.nd
    have hu := hu_of hr
    refine ⟨_, (pss_cons (ps_expr (pe_call D_law_take.ok (hr.mono (by decide)) (by rfl) D_law_take.g D_law_take.kp D_law_take.b .nil pass0 (pa_cons (pv 0) (pa_cons pe_str pa_nil))))
    (pss_one (ps_dput hu (pv 0) pe_str (pe_op op_sub (pe_dget hu (pv 0) pe_str (fun _ _ => rfl)) pe_int) rfl))), ?_⟩
    refine ⟨_, rfl, X, a, d, _, wClose, vs2 st_close, I, by decide, by decide, fun H2 I2 s2 => ?_⟩
    exact ⟨_, rfl, X.D, _, rfl, I2.opened, _, _, rfl, rfl, _, rfl, X.D, _, rfl, I2.popened _, kq _ (I2.go _ (d - 1) _) s2.up⟩
abbrev s_law_count : Stmt := top 56
abbrev N_law_count : List Str := ["_law_reading", "_law_most", "_law_number"]
theorem sc_law_count : FnScope N_law_count ["_law_reading", "_law_most"] (defScope s_law_count) := ⟨rfl, rfl, rfl, by decide +kernel, rfl, by decide +kernel, by decide +kernel⟩
theorem nx_ok {ws : List (List Nat)} (h : ∀ w ∈ ws, ∀ c ∈ w, c < 256) (a : Nat) : PyData.strOk (wd (lk ws a)) = true := strOk_iff.mpr fun c hc => Nat.lt_trans (nx_s h a c hc) (by decide)
theorem ok_law_count {f : Addr} {fd : FuncData} (F : Fun K "_law_count" "_law_count" s_law_count f fd) (T : Glob mg) (D_law_next : Df P w K mg base 1 "_law_next" ["_law_reading"] spLn) (D_law_figures : Df P w K mg base 1 "_law_figures" ["_law_word"] spFig) : FnOk P w K mg base CX0 2 f fd ["_law_reading", "_law_most"] spLk := by
  refine F.ok sc_law_count (fun vs H Q E h => ?_) (fun cdv A outer s H vs Q E hr h => ?_)
  · obtain ⟨X, a, d, b, m, rfl, _⟩ := h
    rfl
  · obtain ⟨X, a, d, b, m, rfl, I, kq⟩ := h
    have nd := sc_law_count.nd
    have hu := hu_of hr
    refine ⟨_, (pss_cons (ps_set (i := 2) nd rfl (Or.inl rfl) (pe_call D_law_figures.ok (hr.mono (by decide)) (by rfl) D_law_figures.g D_law_figures.kp D_law_figures.b .nil pass0 (pa_cons (pe_call D_law_next.ok (hr.mono (by decide)) (by rfl) D_law_next.g D_law_next.kp D_law_next.b .nil pass0 (pa_cons (pv 0) pa_nil)) pa_nil)))
    (pss_cons (ps_if (PW.pt (pw_or (pt_cmpR op_isN (pv 2) pe_non (nomark _)) (pw_or1 (pt_cmpR op_gt (pv 2) (pv 1) (nomark _)))))
    (pss_one (ps_dput hu (pv 0) pe_str pe_bl rfl))
    pss_nil)
    (pss_cons (ps_dput hu (pv 0) pe_str (pe_op op_add (pe_dget hu (pv 0) pe_str (fun _ _ => rfl)) (pe_callTy call_int1 (by rfl) T.g_int (by decide +kernel) (pa_cons (pe_dget hu (pv 0) pe_str (fun _ _ => rfl)) pa_nil))) rfl)
    (pss_one (ps_ret (pv 2)))))), ?_⟩
    refine seq_by (fun σ H1 => σ = [some (.ref X.D), some (.int m), some (optV (numV (tk X.ws a)))] ∧ X.At H1 a d b ∧ SameP X.D H H1) (fun D' hD' => ?_) ?_
    · refine ⟨_, rfl, X, a, d, b, rfl, I, wd (lk X.ws a), rfl, by rw [wd_len]; have := nx_len I.k a; omega, nx_ok I.s a, fun H' s' => ?_⟩
      rw [show TL.tl (wd (lk X.ws a)) = lk X.ws a from rfl, nx_num]
      exact hD' _ _ ⟨rfl, I.same s', SameP.of s'⟩
    rintro σ H1 ⟨rfl, I1, s1⟩
    refine seq_by (fun σ H1 => σ = [some (.ref X.D), some (.int m), some (optV (numV (tk X.ws a)))] ∧ X.At H1 a d (fk X.ws m a b) ∧ SameP X.D H H1) (fun D' hD' => ?_) ?_
    · unfold fk at hD'
      cases hv : numV (tk X.ws a) with
      | none =>
        rw [hv] at hD'
        rw [show (b && false) = false from Bool.and_false b] at hD'
        refine ⟨_, rfl, rfl, _, rfl, iteT ?_⟩
        exact ⟨_, rfl, X.D, _, rfl, I1.pfine false, hD' _ _ ⟨rfl, I1.go a d false, s1.up⟩⟩
      | some n =>
        rw [hv] at hD'
        have hD' : ∀ (σ : St) (H_1 : Hp), σ = [some (.ref X.D), some (.int m), some (.int n)] ∧ X.At H_1 a d (b && decide (n ≤ m)) ∧ SameP X.D H H_1 → D'.nx σ H_1 := hD'
        refine ⟨_, rfl, rfl, _, rfl, iteF ?_⟩
        refine ⟨_, rfl, _, rfl, _, _, rfl, rfl, _, rfl, ?_⟩
        refine ite2 (fun z => ?_) (fun z => ?_)
        · have z : m < n := of_decide_eq_true z
          rw [decide_eq_false (show ¬ n ≤ m by omega), Bool.and_false] at hD'
          exact ⟨_, rfl, X.D, _, rfl, I1.pfine false, hD' _ _ ⟨rfl, I1.go a d false, s1.up⟩⟩
        · have z : ¬ m < n := fun q => z (decide_eq_true q)
          rw [decide_eq_true (show n ≤ m by omega), Bool.and_true] at hD'
          exact hD' _ _ ⟨rfl, I1, s1⟩
    rintro σ H2 ⟨rfl, I2, s2⟩
    refine ⟨_, rfl, X.D, _, rfl, I2.at, _, rfl, X.D, _, rfl, I2.fine, .inr ⟨_, rfl, _, _, rfl, rfl, ?_⟩⟩
    have q := kq _ (I2.go (up1 a (fk X.ws m a b)) d (fk X.ws m a b)) s2.up
    rw [← up1_int] at q
    exact ⟨_, rfl, X.D, _, rfl, I2.pat _, _, rfl, q⟩
end
end My

set_option pp.maxSteps 300
set_option Elab.async false
set_option linter.all false
set_option maxRecDepth 100000
set_option maxHeartbeats 1000000
namespace My
open PySem L2 MyR RT
/-! ### what the law reads -/
structure LGood (X : LX) (H : Hp) (Q : VK) (d : Int) (d0 : Nat) (res : Res) : Prop where
  e : d = (d0 : Int)
  m : d0 ≤ 20
  bad : ∀ i, res = .fail i → ∀ (v : V) H' d', X.At H' i d' false → SameP X.D H H' → Q v H'
  good : ∀ T a1, res = .ok T a1 → ∀ (p : Addr) H', X.At H' a1 d true → SameP X.D H H' → TrAt H' T p → Q (.ref p) H'
def spLj (j : Job) (n : Nat) : Sp := fun vs H Q _ => ∃ (X : LX) (a : Nat) (d : Int) (b : Bool), vs = [.ref X.D] ∧ X.At H a d b ∧ (b = true → X.ws.length ≤ a + n) ∧
  (b = false → ∀ (v : V) H' d', X.At H' a d' false → SameP X.D H H' → Q v H') ∧
  (b = true → ∃ (f d0 : Nat) (res : Res), run X.ws f j a d0 = some res ∧ LGood X H Q d d0 res)
/-- how much is left to read -/
def muD : Option HO → Nat
  | some (.dK (_ :: (_, .int a) :: _ :: (_, .bl k) :: _)) => if k = true then 3001 - a.toNat else 0
  | _ => 0
theorem LX.At.muT {X : LX} {H : Hp} {a : Nat} {d : Int} (I : X.At H a d true) : muD (H X.D) = 3001 - a := by
  rw [I.o]
  show (if true = true then 3001 - ((a : Int).toNat) else 0) = _
  rw [if_pos rfl]
  rfl
theorem LX.At.muF {X : LX} {H : Hp} {a : Nat} {d : Int} (I : X.At H a d false) : muD (H X.D) = 0 := by
  rw [I.o]
  rfl
theorem mg2 {k1 k2 : Str} (n : ¬ ((.inr k1 : Key) = .inr k2)) {v1 v2 : V} : mergeK [] [(.inr k1, v1), (.inr k2, v2)] = [(.inr k1, v1), (.inr k2, v2)] := by
  unfold mergeK
  simp only [List.foldl_cons, List.foldl_nil]
  have e1 : putK ([] : List (Key × V)) (.inr k1) v1 = [(.inr k1, v1)] := putK_new _ valV_nil
  have e2 : putK ([(.inr k1, v1)] : List (Key × V)) (.inr k2) v2 = [(.inr k1, v1), (.inr k2, v2)] := putK_new _ (by rw [valV_neg n]; rfl)
  rw [e1, e2]
theorem SameP.x {p x : Addr} {o : HO} {H H1 : Hp} (s : SameP p H H1) (h : H x = none) : SameP p H (upd H1 x o) := fun b u e n => by rw [upd_ne (ne_of_none e h)]; exact s b u e n
/-- a job that goes on after another one -/
def Mid (X : LX) (H : Hp) (Q : VK) (d : Int) (J : Tr → Job) (n : Nat) (v : V) (H1 : Hp) : Prop := SameP X.D H H1 ∧
  ((∃ i d', X.At H1 i d' false ∧ ∀ (v : V) H' d', X.At H' i d' false → SameP X.D H H' → Q v H') ∨
  ∃ (T : Tr) (p : Addr) (a1 g d0 : Nat) (res : Res), v = .ref p ∧ X.At H1 a1 d true ∧ TrAt H1 T p ∧ X.ws.length ≤ a1 + n ∧ run X.ws g (J T) a1 d0 = some res ∧ LGood X H Q d d0 res)
section
variable {P : Program} {w : World} {K : PySem.W.Frag} {mg : Str → Option Value} {base : Heap}
abbrev s_law_sum : Stmt := top 57
abbrev N_law_sum : List Str := ["_law_reading", "_law_term", "_law_kind"]
theorem sc_law_sum : FnScope N_law_sum ["_law_reading"] (defScope s_law_sum) := ⟨rfl, rfl, rfl, by decide +kernel, rfl, by decide +kernel, by decide +kernel⟩
theorem kd_sum : ¬ ((.inr "+" : Key) = .inr "-") := fun h => absurd (Sum.inr.inj h) (by decide +kernel)
theorem ok_law_sum {f : Addr} {fd : FuncData} {n : Nat} (F : Fun K "_law_sum" "_law_sum" s_law_sum f fd) (T0 : Glob mg) (D_law_next : Df P w K mg base 1 "_law_next" ["_law_reading"] spLn) (D_low : Df P w K mg base (5 * n + 8) "_law_product" ["_law_reading"] (spLj .prod n)) : FnOk P w K mg base CX0 (5 * n + 9) f fd ["_law_reading"] (spLj .sum n) := by
  refine F.ok (k := 5 * n + 8) sc_law_sum (fun vs H Q E h => ?_) (fun cdv A outer s H vs Q E hr h => ?_)
  · obtain ⟨X, a, d, b, rfl, _⟩ := h
    rfl
  · obtain ⟨X, a, d, b, rfl, I, hn, kF, kT⟩ := h
    have nd := sc_law_sum.nd
    have hu := hu_of hr
    refine ⟨_, (pss_cons (ps_set (i := 1) nd rfl (Or.inl rfl) (pe_call D_low.ok hr (by rfl) D_low.g D_low.kp D_low.b .nil pass0 (pa_cons (pv 0) pa_nil)))
    (pss_cons (ps_while PassesOwn.never (PW.pt (pw_and (pt_val (pe_dget hu (pv 0) pe_str (fun _ _ => rfl))) (pw_and1 (pt_cmpR op_in_seq (pe_call D_law_next.ok (hr.mono (by omega)) (by rfl) D_law_next.g D_law_next.kp D_law_next.b .nil pass0 (pa_cons (pv 0) pa_nil)) (pe_tup (pa_cons pe_str (pa_cons pe_str pa_nil))) (by rfl)))))
    (pss_cons (ps_set (i := 2) nd rfl (Or.inl rfl) (pe_dget hu (pe_disp (pps_cons pe_str pe_str (pps_cons pe_str pe_str pps_nil)) (by rfl) (by rfl) (fun z => by cases z) (by decide)) (pe_call D_law_next.ok (hr.mono (by omega)) (by rfl) D_law_next.g D_law_next.kp D_law_next.b .nil pass0 (pa_cons (pv 0) pa_nil)) (fun _ _ => rfl)))
    (pss_cons (ps_dput hu (pv 0) pe_str (pe_op op_add (pe_dget hu (pv 0) pe_str (fun _ _ => rfl)) pe_int) rfl)
    (pss_one (ps_set (i := 1) nd rfl (Or.inl rfl) (pe_tup (pa_cons (pv 2) (pa_cons (pv 1) (pa_cons (pe_call D_low.ok hr (by rfl) D_low.g D_low.kp D_low.b .nil pass0 (pa_cons (pv 0) pa_nil)) pa_nil)))))))))
    (pss_one (ps_ret (pv 1))))), ?_⟩
    have zl' : 16777216 = sizeLine := sizeLine_eq.symm
    refine seq_by (fun σ H1 => ∃ v, σ = [some (.ref X.D), some v, none] ∧ Mid X H Q d .sumL n v H1) (fun D' hD' => ?_) ?_
    · refine ⟨_, rfl, X, a, d, b, rfl, I, hn, fun e v H1 d' I1 s1 => hD' _ _ ⟨v, rfl, s1, .inl ⟨a, d', I1, kF e⟩⟩, fun e => ?_⟩
      obtain ⟨f, d0, res, hr0, G⟩ := kT e
      cases f with
      | zero => cases hr0
      | succ f =>
      rcases bd_some (show bd (run X.ws f .prod a d0) (fun T a => run X.ws f (.sumL T) a d0) = some res from hr0) with ⟨i, h1, e1⟩ | ⟨T, a1, h1, h2⟩
      · exact ⟨f, d0, _, h1, G.e, G.m, fun j e2 v H1 d' I1 s1 => (by
          cases e2
          exact hD' _ _ ⟨v, rfl, s1, .inl ⟨i, d', I1, G.bad i e1⟩⟩), fun T a1 e2 => (by cases e2)⟩
      · exact ⟨f, d0, _, h1, G.e, G.m, fun j e2 => (by cases e2), fun T' a' e2 p H1 I1 s1 hT => (by
          cases e2
          have := (run_ge _ _ _ _ _ _ _ h1).1
          exact hD' _ _ ⟨_, rfl, s1, .inr ⟨T, p, a1, f, d0, res, rfl, I1, hT, (by have := hn e; omega), h2, G⟩⟩)⟩
    rintro σ H1 ⟨v, rfl, q0⟩
    refine seq_by (fun σ H2 => ∃ v k3, σ = [some (.ref X.D), some v, k3] ∧ Q v H2) (fun D' hD' => ?_) ?_
    rotate_left
    · rintro σ H2 ⟨v, k3, rfl, q⟩
      exact ⟨_, rfl, q⟩
    refine while_by (fun σ H1 => ∃ v k3, σ = [some (.ref X.D), some v, k3] ∧ b = b ∧ Mid X H Q d .sumL n v H1) (fun _ H2 => muD (H2 X.D)) ⟨v, none, rfl, rfl, q0⟩ ?_ ?_
    · clear q0
      rintro σ H1 ⟨v, k3, rfl, _, s1, q⟩
      rcases q with ⟨i, d', I1, kE⟩ | ⟨T, p, a1, g, d0, res, rfl, I1, hT, ha, h1, G⟩
      · refine ⟨_, rfl, X.D, _, rfl, I1.fine, _, rfl, iteF ?_⟩
        exact hD' _ _ ⟨v, k3, rfl, kE v H1 d' I1 s1⟩
      have kn := I1.k.n
      refine ⟨_, rfl, X.D, _, rfl, I1.fine, _, rfl, iteT ?_⟩
      refine ⟨_, rfl, X, a1, d, true, rfl, I1, (by show 2 ≤ sizeLine; omega), fun t ht => ⟨t, _, rfl, .inr (SqT.of upd_same), rfl, (by decide +kernel), _, rfl, ?_⟩⟩
      have st := new_same (o := .tup [V.str "+", .str "-"]) ht
      have I2 := I1.same st
      have s2 := s1.trans (SameP.of (p := X.D) st)
      have hT2 := I1.tr (SameP.of st) hT
      have m1 := I1.muT
      generalize upd H1 t (.tup [V.str "+", .str "-"]) = H2 at I2 s2 hT2 ⊢
      have ein : inV (.str (wd (lk X.ws a1))) [V.str "+", .str "-"] = [wPlus, wMinus].contains (lk X.ws a1) := by
        rw [st_plus, st_minus]
        exact inV_wd [wPlus, wMinus] _
      rw [show (if false = true then !inV (.str (wd (lk X.ws a1))) [V.str "+", .str "-"] else inV (.str (wd (lk X.ws a1))) [V.str "+", .str "-"]) = [wPlus, wMinus].contains (lk X.ws a1) from ein]
      cases g with
      | zero => cases h1
      | succ g =>
      unfold run at h1
      have e1 : decide (lk X.ws a1 = wPlus) = decide (tk X.ws a1 = wPlus) := nx_eq (by decide) (by decide)
      have e2 : decide (lk X.ws a1 = wMinus) = decide (tk X.ws a1 = wMinus) := nx_eq (by decide) (by decide)
      -- one turn
      have turn : ∀ (k : Bk) (w : List Nat) (s : Str), s = wd w → lk X.ws a1 = w → tk X.ws a1 = w → w ≠ [] → valV ([(.inr "+", V.str Bk.add.s), (.inr "-", V.str Bk.sub.s)] : List (Key × V)) (.inr s : Key) = some (.str k.s) →
          bd (run X.ws g .prod (a1 + 1) d0) (fun U a => run X.ws g (.sumL (two k T U)) a d0) = some res →
          tSeq (tAsg (tDGet (tDisp [(tC (V.str "+"), tC (V.str Bk.add.s)), (tC (V.str "-"), tC (V.str Bk.sub.s))]) (tCall spLn [] E0 (tCons (tVar 0) tNil))) (gName 2))
            (tSeq (sDPut (tVar 0) (tC (V.str "at")) (tOp (rI0 fun i j => V.int (i + j)) (tDGet (tVar 0) (tC (V.str "at"))) (tC (V.int 1))))
              (tAsg (tTup (tCons (tVar 2) (tCons (tVar 1) (tCons (tCall (spLj .prod n) [] E0 (tCons (tVar 0) tNil)) tNil)))) (gName 1)))
            { D' with nx := fun σ' H' => (∃ v k3, σ' = [some (.ref X.D), some v, k3] ∧ b = b ∧ Mid X H Q d .sumL n v H') ∧ muD (H' X.D) < muD (H1 X.D), ct := fun σ' H' => (∃ v k3, σ' = [some (.ref X.D), some v, k3] ∧ b = b ∧ Mid X H Q d .sumL n v H') ∧ muD (H' X.D) < muD (H1 X.D), bk := D'.nx }
            [some (.ref X.D), some (.ref p), k3] H2 := by
        intro k w s es el et hw ev h3
        have hlt := tk_lt et hw
        refine seq_by (fun σ H3 => σ = [some (.ref X.D), some (.ref p), some (.str k.s)] ∧ X.At H3 a1 d true ∧ SameP X.D H H3 ∧ TrAt H3 T p) (fun D2 hD2 => ?_) ?_
        · intro q hq
          refine ⟨upd_same, [(.inr "+", V.str Bk.add.s), (.inr "-", V.str Bk.sub.s)], rfl, (by show 2 ≤ 15; decide), ?_⟩
          rw [mg2 kd_sum]
          have sq : Same H2 (upd (upd H2 q (.dK [])) q (.dK [(.inr "+", V.str Bk.add.s), (.inr "-", V.str Bk.sub.s)])) := fun c o e => by
            rw [upd_ne (ne_of_none e hq), upd_ne (ne_of_none e hq)]
            exact e
          refine ⟨_, rfl, X, a1, d, true, rfl, I2.same sq, q, _, rfl, ?_, hD2 _ _ ⟨rfl, I2.same sq, s2.trans (SameP.of sq), I2.tr (SameP.of sq) hT2⟩⟩
          have q1 := DGet.k (k := .inr s) (upd_same (H := upd H2 q (.dK [])) (a := q) (o := .dK [(.inr "+", V.str Bk.add.s), (.inr "-", V.str Bk.sub.s)]))
          rw [ev] at q1
          rw [el, ← es]
          exact q1
        rintro σ H3 ⟨rfl, I3, s3, hT3⟩
        refine seq_by (fun σ H4 => σ = [some (.ref X.D), some (.ref p), some (.str k.s)] ∧ X.At H4 (a1 + 1) d true ∧ SameP X.D H H4 ∧ TrAt H4 T p) (fun D2 hD2 => ?_) ?_
        · exact ⟨_, rfl, X.D, _, rfl, I3.at, _, _, rfl, rfl, _, rfl, X.D, _, rfl, I3.pat _, hD2 _ _ ⟨rfl, I3.go (a1 + 1) d true, s3.up, I3.tr SameP.rfl'.up hT3⟩⟩
        rintro σ H4 ⟨rfl, I4, s4, hT4⟩
        refine ⟨_, rfl, _, rfl, _, rfl, X, a1 + 1, d, true, rfl, I4, fun _ => (by omega), fun z => (by cases z), fun _ => ?_⟩
        rcases bd_some h3 with ⟨i, h4, e4⟩ | ⟨U, a2, h4, h5⟩
        · refine ⟨g, d0, _, h4, G.e, G.m, fun j e5 v H5 d' I5 s5 => ?_, fun T a1 e5 => (by cases e5)⟩
          cases e5
          refine ⟨(by show 3 ≤ sizeLine; omega), fun t ht => ?_⟩
          have sx := new_same (o := .tup [V.str k.s, .ref p, v]) ht
          refine ⟨⟨_, _, rfl, rfl, (s4.trans s5).trans (.of sx), .inl ⟨i, d', I5.same sx, G.bad i e4⟩⟩, ?_⟩
          rw [(I5.same sx).muF, m1]
          omega
        · refine ⟨g, d0, _, h4, G.e, G.m, fun j e5 => (by cases e5), fun U' a' e5 p2 H5 I5 s5 hU => ?_⟩
          cases e5
          have hge := (run_ge _ _ _ _ _ _ _ h4).1
          simp only [Job.go] at hge
          refine ⟨(by show 3 ≤ sizeLine; omega), fun t ht => ?_⟩
          have sx := new_same (o := .tup [V.str k.s, .ref p, .ref p2]) ht
          have hT5 := I4.tr s5 hT4
          refine ⟨⟨_, _, rfl, rfl, (s4.trans s5).trans (.of sx), .inr ⟨two k T U, t, a2, g, d0, res, rfl, I5.same sx, ?_, by omega, h5, G⟩⟩, ?_⟩
          · exact .of (T := two k T U) (as := [p, p2]) upd_same (.cons (hT5.same sx) (.cons (hU.same sx) .nil))
          · rw [(I5.same sx).muT, m1]
            omega
      by_cases c1 : tk X.ws a1 = wPlus
      · rw [if_pos c1] at h1
        have l1 : lk X.ws a1 = wPlus := by
          rw [decide_eq_true c1] at e1
          exact of_decide_eq_true e1
        rw [l1]
        exact iteT (turn .add wPlus "+" st_plus l1 c1 (by decide) (valV_pos rfl) h1)
      · rw [if_neg c1] at h1
        by_cases c2 : tk X.ws a1 = wMinus
        · rw [if_pos c2] at h1
          have l2 : lk X.ws a1 = wMinus := by
            rw [decide_eq_true c2] at e2
            exact of_decide_eq_true e2
          rw [l2]
          exact iteT (turn .sub wMinus "-" st_minus l2 c2 (by decide) (by rw [valV_neg kd_sum]; exact valV_pos rfl) h1)
        · rw [if_neg c2] at h1
          have ec : [wPlus, wMinus].contains (lk X.ws a1) = false := by
            rw [Bool.eq_false_iff]
            intro z
            rw [List.contains_iff_mem] at z
            rcases List.mem_cons.mp z with z | z
            · rw [decide_eq_false c1] at e1
              exact of_decide_eq_false e1 z
            · rw [decide_eq_false c2] at e2
              exact of_decide_eq_false e2 (List.mem_singleton.mp z)
          rw [ec]
          exact iteF (hD' _ _ ⟨_, _, rfl, G.good T a1 (Option.some.inj h1).symm p H2 I2 s2 hT2⟩)
    · intro σ H2 Q1 Q2 hq hc
      obtain ⟨x, e1, x2, v, e2, hg, sc, eb, hc⟩ := hc
      refine ⟨x, e1, x2, v, e2, hg, sc, eb, ?_⟩
      revert hc
      cases sc with
      | false => exact fun hc => hq _ _ hc
      | true =>
        intro hc
        obtain ⟨y, f1, X', a', d', b', f2, f3, f4, f5⟩ := hc
        refine ⟨y, f1, X', a', d', b', f2, f3, f4, fun t ht => ?_⟩
        obtain ⟨p, xs, g1, g2, g3, g4, q, g5, g6⟩ := f5 t ht
        exact ⟨p, xs, g1, g2, g3, g4, q, g5, hq _ _ g6⟩
abbrev s_law_product : Stmt := top 58
abbrev N_law_product : List Str := ["_law_reading", "_law_term", "_law_kind"]
theorem sc_law_product : FnScope N_law_product ["_law_reading"] (defScope s_law_product) := ⟨rfl, rfl, rfl, by decide +kernel, rfl, by decide +kernel, by decide +kernel⟩
theorem kd_product : ¬ ((.inr "*" : Key) = .inr "over") := fun h => absurd (Sum.inr.inj h) (by decide +kernel)
theorem ok_law_product {f : Addr} {fd : FuncData} {n : Nat} (F : Fun K "_law_product" "_law_product" s_law_product f fd) (T0 : Glob mg) (D_law_next : Df P w K mg base 1 "_law_next" ["_law_reading"] spLn) (D_low : Df P w K mg base (5 * n + 7) "_law_factor" ["_law_reading"] (spLj .fac n)) : FnOk P w K mg base CX0 (5 * n + 8) f fd ["_law_reading"] (spLj .prod n) := by
  refine F.ok (k := 5 * n + 7) sc_law_product (fun vs H Q E h => ?_) (fun cdv A outer s H vs Q E hr h => ?_)
  · obtain ⟨X, a, d, b, rfl, _⟩ := h
    rfl
  · obtain ⟨X, a, d, b, rfl, I, hn, kF, kT⟩ := h
    have nd := sc_law_product.nd
    have hu := hu_of hr
    refine ⟨_, (pss_cons (ps_set (i := 1) nd rfl (Or.inl rfl) (pe_call D_low.ok hr (by rfl) D_low.g D_low.kp D_low.b .nil pass0 (pa_cons (pv 0) pa_nil)))
    (pss_cons (ps_while PassesOwn.never (PW.pt (pw_and (pt_val (pe_dget hu (pv 0) pe_str (fun _ _ => rfl))) (pw_and1 (pt_cmpR op_in_seq (pe_call D_law_next.ok (hr.mono (by omega)) (by rfl) D_law_next.g D_law_next.kp D_law_next.b .nil pass0 (pa_cons (pv 0) pa_nil)) (pe_tup (pa_cons pe_str (pa_cons pe_str pa_nil))) (by rfl)))))
    (pss_cons (ps_set (i := 2) nd rfl (Or.inl rfl) (pe_dget hu (pe_disp (pps_cons pe_str pe_str (pps_cons pe_str pe_str pps_nil)) (by rfl) (by rfl) (fun z => by cases z) (by decide)) (pe_call D_law_next.ok (hr.mono (by omega)) (by rfl) D_law_next.g D_law_next.kp D_law_next.b .nil pass0 (pa_cons (pv 0) pa_nil)) (fun _ _ => rfl)))
    (pss_cons (ps_dput hu (pv 0) pe_str (pe_op op_add (pe_dget hu (pv 0) pe_str (fun _ _ => rfl)) pe_int) rfl)
    (pss_one (ps_set (i := 1) nd rfl (Or.inl rfl) (pe_tup (pa_cons (pv 2) (pa_cons (pv 1) (pa_cons (pe_call D_low.ok hr (by rfl) D_low.g D_low.kp D_low.b .nil pass0 (pa_cons (pv 0) pa_nil)) pa_nil)))))))))
    (pss_one (ps_ret (pv 1))))), ?_⟩
    have zl' : 16777216 = sizeLine := sizeLine_eq.symm
    refine seq_by (fun σ H1 => ∃ v, σ = [some (.ref X.D), some v, none] ∧ Mid X H Q d .prodL n v H1) (fun D' hD' => ?_) ?_
    · refine ⟨_, rfl, X, a, d, b, rfl, I, hn, fun e v H1 d' I1 s1 => hD' _ _ ⟨v, rfl, s1, .inl ⟨a, d', I1, kF e⟩⟩, fun e => ?_⟩
      obtain ⟨f, d0, res, hr0, G⟩ := kT e
      cases f with
      | zero => cases hr0
      | succ f =>
      rcases bd_some (show bd (run X.ws f .fac a d0) (fun T a => run X.ws f (.prodL T) a d0) = some res from hr0) with ⟨i, h1, e1⟩ | ⟨T, a1, h1, h2⟩
      · exact ⟨f, d0, _, h1, G.e, G.m, fun j e2 v H1 d' I1 s1 => (by
          cases e2
          exact hD' _ _ ⟨v, rfl, s1, .inl ⟨i, d', I1, G.bad i e1⟩⟩), fun T a1 e2 => (by cases e2)⟩
      · exact ⟨f, d0, _, h1, G.e, G.m, fun j e2 => (by cases e2), fun T' a' e2 p H1 I1 s1 hT => (by
          cases e2
          have := (run_ge _ _ _ _ _ _ _ h1).1
          exact hD' _ _ ⟨_, rfl, s1, .inr ⟨T, p, a1, f, d0, res, rfl, I1, hT, (by have := hn e; omega), h2, G⟩⟩)⟩
    rintro σ H1 ⟨v, rfl, q0⟩
    refine seq_by (fun σ H2 => ∃ v k3, σ = [some (.ref X.D), some v, k3] ∧ Q v H2) (fun D' hD' => ?_) ?_
    rotate_left
    · rintro σ H2 ⟨v, k3, rfl, q⟩
      exact ⟨_, rfl, q⟩
    refine while_by (fun σ H1 => ∃ v k3, σ = [some (.ref X.D), some v, k3] ∧ b = b ∧ Mid X H Q d .prodL n v H1) (fun _ H2 => muD (H2 X.D)) ⟨v, none, rfl, rfl, q0⟩ ?_ ?_
    · clear q0
      rintro σ H1 ⟨v, k3, rfl, _, s1, q⟩
      rcases q with ⟨i, d', I1, kE⟩ | ⟨T, p, a1, g, d0, res, rfl, I1, hT, ha, h1, G⟩
      · refine ⟨_, rfl, X.D, _, rfl, I1.fine, _, rfl, iteF ?_⟩
        exact hD' _ _ ⟨v, k3, rfl, kE v H1 d' I1 s1⟩
      have kn := I1.k.n
      refine ⟨_, rfl, X.D, _, rfl, I1.fine, _, rfl, iteT ?_⟩
      refine ⟨_, rfl, X, a1, d, true, rfl, I1, (by show 2 ≤ sizeLine; omega), fun t ht => ⟨t, _, rfl, .inr (SqT.of upd_same), rfl, (by decide +kernel), _, rfl, ?_⟩⟩
      have st := new_same (o := .tup [V.str "*", .str "over"]) ht
      have I2 := I1.same st
      have s2 := s1.trans (SameP.of (p := X.D) st)
      have hT2 := I1.tr (SameP.of st) hT
      have m1 := I1.muT
      generalize upd H1 t (.tup [V.str "*", .str "over"]) = H2 at I2 s2 hT2 ⊢
      have ein : inV (.str (wd (lk X.ws a1))) [V.str "*", .str "over"] = [wStar, wOver].contains (lk X.ws a1) := by
        rw [st_star, st_over]
        exact inV_wd [wStar, wOver] _
      rw [show (if false = true then !inV (.str (wd (lk X.ws a1))) [V.str "*", .str "over"] else inV (.str (wd (lk X.ws a1))) [V.str "*", .str "over"]) = [wStar, wOver].contains (lk X.ws a1) from ein]
      cases g with
      | zero => cases h1
      | succ g =>
      unfold run at h1
      have e1 : decide (lk X.ws a1 = wStar) = decide (tk X.ws a1 = wStar) := nx_eq (by decide) (by decide)
      have e2 : decide (lk X.ws a1 = wOver) = decide (tk X.ws a1 = wOver) := nx_eq (by decide) (by decide)
      -- one turn
      have turn : ∀ (k : Bk) (w : List Nat) (s : Str), s = wd w → lk X.ws a1 = w → tk X.ws a1 = w → w ≠ [] → valV ([(.inr "*", V.str Bk.mul.s), (.inr "over", V.str Bk.over.s)] : List (Key × V)) (.inr s : Key) = some (.str k.s) →
          bd (run X.ws g .fac (a1 + 1) d0) (fun U a => run X.ws g (.prodL (two k T U)) a d0) = some res →
          tSeq (tAsg (tDGet (tDisp [(tC (V.str "*"), tC (V.str Bk.mul.s)), (tC (V.str "over"), tC (V.str Bk.over.s))]) (tCall spLn [] E0 (tCons (tVar 0) tNil))) (gName 2))
            (tSeq (sDPut (tVar 0) (tC (V.str "at")) (tOp (rI0 fun i j => V.int (i + j)) (tDGet (tVar 0) (tC (V.str "at"))) (tC (V.int 1))))
              (tAsg (tTup (tCons (tVar 2) (tCons (tVar 1) (tCons (tCall (spLj .fac n) [] E0 (tCons (tVar 0) tNil)) tNil)))) (gName 1)))
            { D' with nx := fun σ' H' => (∃ v k3, σ' = [some (.ref X.D), some v, k3] ∧ b = b ∧ Mid X H Q d .prodL n v H') ∧ muD (H' X.D) < muD (H1 X.D), ct := fun σ' H' => (∃ v k3, σ' = [some (.ref X.D), some v, k3] ∧ b = b ∧ Mid X H Q d .prodL n v H') ∧ muD (H' X.D) < muD (H1 X.D), bk := D'.nx }
            [some (.ref X.D), some (.ref p), k3] H2 := by
        intro k w s es el et hw ev h3
        have hlt := tk_lt et hw
        refine seq_by (fun σ H3 => σ = [some (.ref X.D), some (.ref p), some (.str k.s)] ∧ X.At H3 a1 d true ∧ SameP X.D H H3 ∧ TrAt H3 T p) (fun D2 hD2 => ?_) ?_
        · intro q hq
          refine ⟨upd_same, [(.inr "*", V.str Bk.mul.s), (.inr "over", V.str Bk.over.s)], rfl, (by show 2 ≤ 15; decide), ?_⟩
          rw [mg2 kd_product]
          have sq : Same H2 (upd (upd H2 q (.dK [])) q (.dK [(.inr "*", V.str Bk.mul.s), (.inr "over", V.str Bk.over.s)])) := fun c o e => by
            rw [upd_ne (ne_of_none e hq), upd_ne (ne_of_none e hq)]
            exact e
          refine ⟨_, rfl, X, a1, d, true, rfl, I2.same sq, q, _, rfl, ?_, hD2 _ _ ⟨rfl, I2.same sq, s2.trans (SameP.of sq), I2.tr (SameP.of sq) hT2⟩⟩
          have q1 := DGet.k (k := .inr s) (upd_same (H := upd H2 q (.dK [])) (a := q) (o := .dK [(.inr "*", V.str Bk.mul.s), (.inr "over", V.str Bk.over.s)]))
          rw [ev] at q1
          rw [el, ← es]
          exact q1
        rintro σ H3 ⟨rfl, I3, s3, hT3⟩
        refine seq_by (fun σ H4 => σ = [some (.ref X.D), some (.ref p), some (.str k.s)] ∧ X.At H4 (a1 + 1) d true ∧ SameP X.D H H4 ∧ TrAt H4 T p) (fun D2 hD2 => ?_) ?_
        · exact ⟨_, rfl, X.D, _, rfl, I3.at, _, _, rfl, rfl, _, rfl, X.D, _, rfl, I3.pat _, hD2 _ _ ⟨rfl, I3.go (a1 + 1) d true, s3.up, I3.tr SameP.rfl'.up hT3⟩⟩
        rintro σ H4 ⟨rfl, I4, s4, hT4⟩
        refine ⟨_, rfl, _, rfl, _, rfl, X, a1 + 1, d, true, rfl, I4, fun _ => (by omega), fun z => (by cases z), fun _ => ?_⟩
        rcases bd_some h3 with ⟨i, h4, e4⟩ | ⟨U, a2, h4, h5⟩
        · refine ⟨g, d0, _, h4, G.e, G.m, fun j e5 v H5 d' I5 s5 => ?_, fun T a1 e5 => (by cases e5)⟩
          cases e5
          refine ⟨(by show 3 ≤ sizeLine; omega), fun t ht => ?_⟩
          have sx := new_same (o := .tup [V.str k.s, .ref p, v]) ht
          refine ⟨⟨_, _, rfl, rfl, (s4.trans s5).trans (.of sx), .inl ⟨i, d', I5.same sx, G.bad i e4⟩⟩, ?_⟩
          rw [(I5.same sx).muF, m1]
          omega
        · refine ⟨g, d0, _, h4, G.e, G.m, fun j e5 => (by cases e5), fun U' a' e5 p2 H5 I5 s5 hU => ?_⟩
          cases e5
          have hge := (run_ge _ _ _ _ _ _ _ h4).1
          simp only [Job.go] at hge
          refine ⟨(by show 3 ≤ sizeLine; omega), fun t ht => ?_⟩
          have sx := new_same (o := .tup [V.str k.s, .ref p, .ref p2]) ht
          have hT5 := I4.tr s5 hT4
          refine ⟨⟨_, _, rfl, rfl, (s4.trans s5).trans (.of sx), .inr ⟨two k T U, t, a2, g, d0, res, rfl, I5.same sx, ?_, by omega, h5, G⟩⟩, ?_⟩
          · exact .of (T := two k T U) (as := [p, p2]) upd_same (.cons (hT5.same sx) (.cons (hU.same sx) .nil))
          · rw [(I5.same sx).muT, m1]
            omega
      by_cases c1 : tk X.ws a1 = wStar
      · rw [if_pos c1] at h1
        have l1 : lk X.ws a1 = wStar := by
          rw [decide_eq_true c1] at e1
          exact of_decide_eq_true e1
        rw [l1]
        exact iteT (turn .mul wStar "*" st_star l1 c1 (by decide) (valV_pos rfl) h1)
      · rw [if_neg c1] at h1
        by_cases c2 : tk X.ws a1 = wOver
        · rw [if_pos c2] at h1
          have l2 : lk X.ws a1 = wOver := by
            rw [decide_eq_true c2] at e2
            exact of_decide_eq_true e2
          rw [l2]
          exact iteT (turn .over wOver "over" st_over l2 c2 (by decide) (by rw [valV_neg kd_product]; exact valV_pos rfl) h1)
        · rw [if_neg c2] at h1
          have ec : [wStar, wOver].contains (lk X.ws a1) = false := by
            rw [Bool.eq_false_iff]
            intro z
            rw [List.contains_iff_mem] at z
            rcases List.mem_cons.mp z with z | z
            · rw [decide_eq_false c1] at e1
              exact of_decide_eq_false e1 z
            · rw [decide_eq_false c2] at e2
              exact of_decide_eq_false e2 (List.mem_singleton.mp z)
          rw [ec]
          exact iteF (hD' _ _ ⟨_, _, rfl, G.good T a1 (Option.some.inj h1).symm p H2 I2 s2 hT2⟩)
    · intro σ H2 Q1 Q2 hq hc
      obtain ⟨x, e1, x2, v, e2, hg, sc, eb, hc⟩ := hc
      refine ⟨x, e1, x2, v, e2, hg, sc, eb, ?_⟩
      revert hc
      cases sc with
      | false => exact fun hc => hq _ _ hc
      | true =>
        intro hc
        obtain ⟨y, f1, X', a', d', b', f2, f3, f4, f5⟩ := hc
        refine ⟨y, f1, X', a', d', b', f2, f3, f4, fun t ht => ?_⟩
        obtain ⟨p, xs, g1, g2, g3, g4, q, g5, g6⟩ := f5 t ht
        exact ⟨p, xs, g1, g2, g3, g4, q, g5, hq _ _ g6⟩
end
end My

set_option pp.maxSteps 300
set_option Elab.async false
set_option linter.all false
set_option maxRecDepth 100000
set_option maxHeartbeats 1000000
namespace My
open PySem L2 MyR RT
/-! ### sums and products -/
section
variable {P : Program} {w : World} {K : PySem.W.Frag} {mg : Str → Option Value} {base : Heap}
abbrev s_Reader_whole : Stmt := inClass (top 40) 7
abbrev N_Reader_whole : List Str := ["self", "node"]
theorem sc_Reader_whole : FnScope N_Reader_whole ["self"] (defScope s_Reader_whole) := ⟨rfl, rfl, rfl, by decide +kernel, rfl, by decide +kernel, by decide +kernel⟩
theorem ok_Reader_whole {f C cT cC : Addr} {c : CA} {fd : FuncData} {n : Nat} (F : Fun K "whole" "Reader.whole" s_Reader_whole f fd) (C0 : RdC K C) (M : Mks P w K mg base c) (MH : Mt P w K mg base CX0 C 1 "here" ["self"] (spHere C)) (MT : Mt P w K mg base CX0 C 2 "took" ["self", "word"] (spTook C)) (MN : Mt P w K mg base (L2.CX P w) C 4 "need" ["self", "word"] (spNeed C cT))
    (MP : Mt P w K mg base (L2.CX P w) C (7 * n + 19) "product" ["self"] (spJob C cT c cC .prod n)) : FnOk P w K mg base (L2.CX P w) (7 * n + 20) f fd ["self"] (spJob C cT c cC .sum n) := by
  refine F.okX (k := 7 * n + 19) sc_Reader_whole (fun vs H Q E h => ?_) (fun cdv A outer s H vs Q E hr h => ?_)
  · obtain ⟨R, a, d, g, res, rfl, _⟩ := h
    rfl
  · obtain ⟨R, a, d, g, res, rfl, rfl, I, hd, hn, hrun, kO, kE⟩ := h
    have nd := sc_Reader_whole.nd
    refine ⟨_, (pss_cons (ps_set (i := 1) nd rfl (Or.inl rfl) (pe_meth0 (pv 0) C0.cl MP.m MP.ok hr MP.b .nil (fun pins σ H s e s' I c => passAt (takes_of rfl rfl rfl rfl) σ pins H s e s' I c)))
    (pss_cons (ps_while (passes_of rfl) (pt_cmpR op_in_seq (pe_meth0 (pv 0) C0.cl MH.m MH.ok (hr.mono (by omega)) MH.b .nil pass0) (pe_tup (pa_cons pe_str (pa_cons pe_str pa_nil))) (by rfl))
    (pss_one (ps_if (pt_val (pe_meth (pv 0) C0.cl MT.m MT.ok (hr.mono (by omega)) MT.b .nil pass0 (pa_cons pe_str pa_nil)))
    (pss_one (ps_set (i := 1) nd rfl (Or.inl rfl) (pe_make M.add.m M.add.ok (hr.mono (by omega)) (by rfl) M.add.g M.add.b .nil pass0 (pa_cons (pv 1) (pa_cons (pe_meth0 (pv 0) C0.cl MP.m MP.ok hr MP.b .nil (fun pins σ H s e s' I c => passAt (takes_of rfl rfl rfl rfl) σ pins H s e s' I c)) pa_nil)))))
    (pss_cons (ps_expr (pe_meth (pv 0) C0.cl MN.m MN.ok (hr.mono (by omega)) MN.b .nil (fun pins σ H s e s' I c => passAt (takes_of rfl rfl rfl rfl) σ pins H s e s' I c) (pa_cons pe_str pa_nil)))
    (pss_one (ps_set (i := 1) nd rfl (Or.inl rfl) (pe_make M.sub.m M.sub.ok (hr.mono (by omega)) (by rfl) M.sub.g M.sub.b .nil pass0 (pa_cons (pv 1) (pa_cons (pe_meth0 (pv 0) C0.cl MP.m MP.ok hr MP.b .nil (fun pins σ H s e s' I c => passAt (takes_of rfl rfl rfl rfl) σ pins H s e s' I c)) pa_nil)))))))))
    (pss_one (ps_ret (pv 1))))), ?_⟩
    have zl' : 16777216 = sizeLine := sizeLine_eq.symm
    cases g with
    | zero => cases hrun
    | succ g =>
    refine seq_by (fun σ H1 => ∃ (T : Tr) (a1 : Nat) (x : Addr) (g1 : Nat), σ = [some (.ref R.r), some (.ref x)] ∧ R.At H1 a1 d ∧ SameP R.r H H1 ∧ NdAt c cC H1 T x ∧ run R.ws g1 (.sumL T) a1 d = some res) (fun D' hD' => ?_) ?_
    · rcases bd_some (show bd (run R.ws g .prod a d) (fun T a => run R.ws g (.sumL T) a d) = some res from hrun) with ⟨i, h1, e⟩ | ⟨T, a1, h1, h2⟩
      · exact ⟨_, rfl, R.r, R.dx, _, rfl, I.o, rfl, R, a, d, g, _, rfl, rfl, I, hd, hn, h1, fun T a e => (by cases e), fun j e2 => (by
          cases e2
          exact kE _ e)⟩
      · exact ⟨_, rfl, R.r, R.dx, _, rfl, I.o, rfl, R, a, d, g, _, rfl, rfl, I, hd, hn, h1, fun T' a' e2 x H1 I1 s1 hT => (by
          cases e2
          exact hD' _ _ ⟨T, a1, x, g, rfl, I1, s1, hT, h2⟩), fun i e2 => (by cases e2)⟩
    rintro σ H1 ⟨T, a1, x, g1, rfl, I1, s1, hT1, h1⟩
    refine seq_by (fun σ H2 => ∃ (T : Tr) (a1 : Nat) (x : Addr), σ = [some (.ref R.r), some (.ref x)] ∧ R.At H2 a1 d ∧ SameP R.r H H2 ∧ NdAt c cC H2 T x ∧ res = .ok T a1) (fun D' hD' => ?_) ?_
    · refine while_by (fun σ H2 => ∃ (T : Tr) (a1 : Nat) (x : Addr) (g1 : Nat), σ = [some (.ref R.r), some (.ref x)] ∧ R.At H2 a1 d ∧ SameP R.r H H2 ∧ NdAt c cC H2 T x ∧ run R.ws g1 (.sumL T) a1 d = some res)
        (fun _ H2 => 2000 - atOf (H2 R.r)) ⟨T, a1, x, g1, rfl, I1, s1, hT1, h1⟩ ?_ ?_
      · clear I1 s1 hT1 h1
        rintro σ H2 ⟨T, a1, x, g1, rfl, I2, s2, hT2, h2⟩
        cases g1 with
        | zero => cases h2
        | succ g1 =>
        have kn := I2.k.n
        unfold run at h2
        refine ⟨_, rfl, R.r, R.dx, _, rfl, I2.o, rfl, R, a1, d, rfl, rfl, I2, (by show 2 ≤ sizeLine; omega), fun t ht => ⟨t, _, rfl, .inr (SqT.of upd_same), rfl, (by decide +kernel), _, rfl, ?_⟩⟩
        have st := new_same (o := .tup [V.str "+", .str "-"]) ht
        have I3 := I2.same st
        have s3 := s2.trans (SameP.of (p := R.r) st)
        have hT3 := I2.nd (SameP.of st) hT2
        generalize upd H2 t (.tup [V.str "+", .str "-"]) = H3 at I3 s3 hT3 ⊢
        have ein : inV (.str (wd (tk R.ws a1))) [V.str "+", .str "-"] = [wPlus, wMinus].contains (tk R.ws a1) := by
          rw [st_plus, st_minus]
          exact inV_wd [wPlus, wMinus] _
        rw [show (if false = true then !inV (.str (wd (tk R.ws a1))) [V.str "+", .str "-"] else inV (.str (wd (tk R.ws a1))) [V.str "+", .str "-"]) = [wPlus, wMinus].contains (tk R.ws a1) from ein]
        have nxt : ∀ (U : Tr) (a2 : Nat) (x2 : Addr) (k : Bk) (C' : Addr), C' = c.bk k → a1 + 1 + 1 ≤ a2 → a1 < R.ws.length → run R.ws g1 (.sumL (two k T U)) a2 d = some res → ∀ H5, R.At H5 a2 d → SameP R.r H H5 → NdAt c cC H5 T x → NdAt c cC H5 U x2 → ∀ (x3 dx3 : Addr), H5 x3 = none → H5 dx3 = none → ∀ H6, Ini (upd (upd H5 dx3 (.own x3)) x3 (.ins C' dx3 [])) x3 C' dx3 [(k.f1, .ref x), (k.f2, .ref x2)] H6 →
            (∃ (T : Tr) (a1 : Nat) (x : Addr) (g1 : Nat), [some (.ref R.r), some (V.ref x3)] = [some (.ref R.r), some (.ref x)] ∧ R.At H6 a1 d ∧ SameP R.r H H6 ∧ NdAt c cC H6 T x ∧ run R.ws g1 (.sumL T) a1 d = some res) ∧ 2000 - atOf (H6 R.r) < 2000 - atOf (H2 R.r) := by
          intro U a2 x2 k C' eC hge hlt hr2 H5 I5 s5 hT5 hU5 x3 dx3 hx hdx H6 ini
          subst eC
          obtain ⟨q1, q2⟩ := mk_done hx hdx (Same.refl _) ini
          have I6 := I5.same q1
          refine ⟨⟨two k T U, a2, x3, g1, rfl, I6, s5.trans (SameP.of q1), .of (as := [x, x2]) ⟨dx3, q2⟩ (.cons (hT5.stay (.of q1)) (.cons (hU5.stay (.of q1)) .nil)), hr2⟩, ?_⟩
          rw [I6.of, I2.of]
          omega
        by_cases e1 : tk R.ws a1 = wPlus
        · rw [if_pos e1] at h2
          have hlt := tk_lt e1 (by decide)
          rw [e1]
          refine iteT ⟨_, rfl, R.r, R.dx, _, rfl, I3.o, rfl, R, a1, d, wPlus, vs2 st_plus, rfl, I3, by decide, fun _ H4 I4 s4 => ⟨_, rfl, iteT ?_⟩, fun z => absurd e1 z⟩
          have s34 := s3.trans s4
          have hT4 := I3.nd s4 hT3
          rcases bd_some h2 with ⟨i, q1, e⟩ | ⟨U, a2, q1, q2⟩
          · exact ⟨_, rfl, _, rfl, R.r, R.dx, _, rfl, I4.o, rfl, R, a1 + 1, d, g1, _, rfl, rfl, I4, hd, hn, q1, fun T a e => (by cases e), fun j e2 => (by
              cases e2
              exact (kE _ e).mono s34)⟩
          · have hge := (run_ge _ _ _ _ _ _ _ q1).1
            exact ⟨_, rfl, _, rfl, R.r, R.dx, _, rfl, I4.o, rfl, R, a1 + 1, d, g1, _, rfl, rfl, I4, hd, hn, q1, fun T' a' e2 x2 H5 I5 s5 hU => (by
              cases e2
              intro x3 dx3 hx hdx hne
              exact ⟨x3, dx3, _, _, rfl, upd_same, fun H6 ini => ⟨rfl, nxt U a2 x2 .add _ rfl hge hlt q2 H5 I5 (s34.trans s5) (I4.nd s5 hT4) hU x3 dx3 hx hdx H6 ini⟩⟩), fun i e2 => (by cases e2)⟩
        · rw [if_neg e1] at h2
          by_cases e2 : tk R.ws a1 = wMinus
          · rw [if_pos e2] at h2
            have hlt := tk_lt e2 (by decide)
            rw [e2]
            refine iteT ⟨_, rfl, R.r, R.dx, _, rfl, I3.o, rfl, R, a1, d, wPlus, vs2 st_plus, rfl, I3, by decide, fun z => absurd z e1, fun _ => ⟨_, rfl, iteF ?_⟩⟩
            refine ⟨_, rfl, R.r, R.dx, _, rfl, I3.o, rfl, R, a1, d, wMinus, vs2 st_minus, rfl, I3, by decide, fun _ H4 I4 s4 => ?_, fun z => absurd e2 z⟩
            have s34 := s3.trans s4
            have hT4 := I3.nd s4 hT3
            rcases bd_some h2 with ⟨i, q1, e⟩ | ⟨U, a2, q1, q2⟩
            · exact ⟨_, rfl, _, rfl, R.r, R.dx, _, rfl, I4.o, rfl, R, a1 + 1, d, g1, _, rfl, rfl, I4, hd, hn, q1, fun T a e => (by cases e), fun j e2 => (by
                cases e2
                exact (kE _ e).mono s34)⟩
            · have hge := (run_ge _ _ _ _ _ _ _ q1).1
              exact ⟨_, rfl, _, rfl, R.r, R.dx, _, rfl, I4.o, rfl, R, a1 + 1, d, g1, _, rfl, rfl, I4, hd, hn, q1, fun T' a' e2 x2 H5 I5 s5 hU => (by
                cases e2
                intro x3 dx3 hx hdx hne
                exact ⟨x3, dx3, _, _, rfl, upd_same, fun H6 ini => ⟨rfl, nxt U a2 x2 .sub _ rfl hge hlt q2 H5 I5 (s34.trans s5) (I4.nd s5 hT4) hU x3 dx3 hx hdx H6 ini⟩⟩), fun i e2 => (by cases e2)⟩
          · rw [if_neg e2] at h2
            have ec : [wPlus, wMinus].contains (tk R.ws a1) = false := by
              rw [Bool.eq_false_iff]
              intro q
              rw [List.contains_iff_mem] at q
              rcases List.mem_cons.mp q with q | q
              · exact e1 q
              · exact e2 (List.mem_singleton.mp q)
            rw [ec]
            exact iteF (hD' _ _ ⟨T, a1, x, rfl, I3, s3, hT3, (Option.some.inj h2).symm⟩)
      · intro σ H2 Q1 Q2 hq hc
        obtain ⟨y, e1, b, dx, fs, e2, e3, e4, R', a', d', e5, e6, e7, sz, hf⟩ := hc
        refine ⟨y, e1, b, dx, fs, e2, e3, e4, R', a', d', e5, e6, e7, sz, fun t ht => ?_⟩
        obtain ⟨p, xs, f1, f2, f3, f4, q, f5, f6⟩ := hf t ht
        exact ⟨p, xs, f1, f2, f3, f4, q, f5, hq _ _ f6⟩
    rintro σ H2 ⟨T, a1, x, rfl, I2, s2, hT2, e⟩
    exact ⟨_, rfl, kO T a1 e x H2 I2 s2 hT2⟩
abbrev s_Reader_product : Stmt := inClass (top 40) 8
abbrev N_Reader_product : List Str := ["self", "node"]
theorem sc_Reader_product : FnScope N_Reader_product ["self"] (defScope s_Reader_product) := ⟨rfl, rfl, rfl, by decide +kernel, rfl, by decide +kernel, by decide +kernel⟩
theorem ok_Reader_product {f C cT cC : Addr} {c : CA} {fd : FuncData} {n : Nat} (F : Fun K "product" "Reader.product" s_Reader_product f fd) (C0 : RdC K C) (M : Mks P w K mg base c) (MH : Mt P w K mg base CX0 C 1 "here" ["self"] (spHere C)) (MT : Mt P w K mg base CX0 C 2 "took" ["self", "word"] (spTook C)) (MN : Mt P w K mg base (L2.CX P w) C 4 "need" ["self", "word"] (spNeed C cT))
    (MP : Mt P w K mg base (L2.CX P w) C (7 * n + 18) "tight" ["self"] (spJob C cT c cC .fac n)) : FnOk P w K mg base (L2.CX P w) (7 * n + 19) f fd ["self"] (spJob C cT c cC .prod n) := by
  refine F.okX (k := 7 * n + 18) sc_Reader_product (fun vs H Q E h => ?_) (fun cdv A outer s H vs Q E hr h => ?_)
  · obtain ⟨R, a, d, g, res, rfl, _⟩ := h
    rfl
  · obtain ⟨R, a, d, g, res, rfl, rfl, I, hd, hn, hrun, kO, kE⟩ := h
    have nd := sc_Reader_product.nd
    refine ⟨_, (pss_cons (ps_set (i := 1) nd rfl (Or.inl rfl) (pe_meth0 (pv 0) C0.cl MP.m MP.ok hr MP.b .nil (fun pins σ H s e s' I c => passAt (takes_of rfl rfl rfl rfl) σ pins H s e s' I c)))
    (pss_cons (ps_while (passes_of rfl) (pt_cmpR op_in_seq (pe_meth0 (pv 0) C0.cl MH.m MH.ok (hr.mono (by omega)) MH.b .nil pass0) (pe_tup (pa_cons pe_str (pa_cons pe_str pa_nil))) (by rfl))
    (pss_one (ps_if (pt_val (pe_meth (pv 0) C0.cl MT.m MT.ok (hr.mono (by omega)) MT.b .nil pass0 (pa_cons pe_str pa_nil)))
    (pss_one (ps_set (i := 1) nd rfl (Or.inl rfl) (pe_make M.mul.m M.mul.ok (hr.mono (by omega)) (by rfl) M.mul.g M.mul.b .nil pass0 (pa_cons (pv 1) (pa_cons (pe_meth0 (pv 0) C0.cl MP.m MP.ok hr MP.b .nil (fun pins σ H s e s' I c => passAt (takes_of rfl rfl rfl rfl) σ pins H s e s' I c)) pa_nil)))))
    (pss_cons (ps_expr (pe_meth (pv 0) C0.cl MN.m MN.ok (hr.mono (by omega)) MN.b .nil (fun pins σ H s e s' I c => passAt (takes_of rfl rfl rfl rfl) σ pins H s e s' I c) (pa_cons pe_str pa_nil)))
    (pss_one (ps_set (i := 1) nd rfl (Or.inl rfl) (pe_make M.over.m M.over.ok (hr.mono (by omega)) (by rfl) M.over.g M.over.b .nil pass0 (pa_cons (pv 1) (pa_cons (pe_meth0 (pv 0) C0.cl MP.m MP.ok hr MP.b .nil (fun pins σ H s e s' I c => passAt (takes_of rfl rfl rfl rfl) σ pins H s e s' I c)) pa_nil)))))))))
    (pss_one (ps_ret (pv 1))))), ?_⟩
    have zl' : 16777216 = sizeLine := sizeLine_eq.symm
    cases g with
    | zero => cases hrun
    | succ g =>
    refine seq_by (fun σ H1 => ∃ (T : Tr) (a1 : Nat) (x : Addr) (g1 : Nat), σ = [some (.ref R.r), some (.ref x)] ∧ R.At H1 a1 d ∧ SameP R.r H H1 ∧ NdAt c cC H1 T x ∧ run R.ws g1 (.prodL T) a1 d = some res) (fun D' hD' => ?_) ?_
    · rcases bd_some (show bd (run R.ws g .fac a d) (fun T a => run R.ws g (.prodL T) a d) = some res from hrun) with ⟨i, h1, e⟩ | ⟨T, a1, h1, h2⟩
      · exact ⟨_, rfl, R.r, R.dx, _, rfl, I.o, rfl, R, a, d, g, _, rfl, rfl, I, hd, hn, h1, fun T a e => (by cases e), fun j e2 => (by
          cases e2
          exact kE _ e)⟩
      · exact ⟨_, rfl, R.r, R.dx, _, rfl, I.o, rfl, R, a, d, g, _, rfl, rfl, I, hd, hn, h1, fun T' a' e2 x H1 I1 s1 hT => (by
          cases e2
          exact hD' _ _ ⟨T, a1, x, g, rfl, I1, s1, hT, h2⟩), fun i e2 => (by cases e2)⟩
    rintro σ H1 ⟨T, a1, x, g1, rfl, I1, s1, hT1, h1⟩
    refine seq_by (fun σ H2 => ∃ (T : Tr) (a1 : Nat) (x : Addr), σ = [some (.ref R.r), some (.ref x)] ∧ R.At H2 a1 d ∧ SameP R.r H H2 ∧ NdAt c cC H2 T x ∧ res = .ok T a1) (fun D' hD' => ?_) ?_
    · refine while_by (fun σ H2 => ∃ (T : Tr) (a1 : Nat) (x : Addr) (g1 : Nat), σ = [some (.ref R.r), some (.ref x)] ∧ R.At H2 a1 d ∧ SameP R.r H H2 ∧ NdAt c cC H2 T x ∧ run R.ws g1 (.prodL T) a1 d = some res)
        (fun _ H2 => 2000 - atOf (H2 R.r)) ⟨T, a1, x, g1, rfl, I1, s1, hT1, h1⟩ ?_ ?_
      · clear I1 s1 hT1 h1
        rintro σ H2 ⟨T, a1, x, g1, rfl, I2, s2, hT2, h2⟩
        cases g1 with
        | zero => cases h2
        | succ g1 =>
        have kn := I2.k.n
        unfold run at h2
        refine ⟨_, rfl, R.r, R.dx, _, rfl, I2.o, rfl, R, a1, d, rfl, rfl, I2, (by show 2 ≤ sizeLine; omega), fun t ht => ⟨t, _, rfl, .inr (SqT.of upd_same), rfl, (by decide +kernel), _, rfl, ?_⟩⟩
        have st := new_same (o := .tup [V.str "*", .str "over"]) ht
        have I3 := I2.same st
        have s3 := s2.trans (SameP.of (p := R.r) st)
        have hT3 := I2.nd (SameP.of st) hT2
        generalize upd H2 t (.tup [V.str "*", .str "over"]) = H3 at I3 s3 hT3 ⊢
        have ein : inV (.str (wd (tk R.ws a1))) [V.str "*", .str "over"] = [wStar, wOver].contains (tk R.ws a1) := by
          rw [st_star, st_over]
          exact inV_wd [wStar, wOver] _
        rw [show (if false = true then !inV (.str (wd (tk R.ws a1))) [V.str "*", .str "over"] else inV (.str (wd (tk R.ws a1))) [V.str "*", .str "over"]) = [wStar, wOver].contains (tk R.ws a1) from ein]
        have nxt : ∀ (U : Tr) (a2 : Nat) (x2 : Addr) (k : Bk) (C' : Addr), C' = c.bk k → a1 + 1 + 1 ≤ a2 → a1 < R.ws.length → run R.ws g1 (.prodL (two k T U)) a2 d = some res → ∀ H5, R.At H5 a2 d → SameP R.r H H5 → NdAt c cC H5 T x → NdAt c cC H5 U x2 → ∀ (x3 dx3 : Addr), H5 x3 = none → H5 dx3 = none → ∀ H6, Ini (upd (upd H5 dx3 (.own x3)) x3 (.ins C' dx3 [])) x3 C' dx3 [(k.f1, .ref x), (k.f2, .ref x2)] H6 →
            (∃ (T : Tr) (a1 : Nat) (x : Addr) (g1 : Nat), [some (.ref R.r), some (V.ref x3)] = [some (.ref R.r), some (.ref x)] ∧ R.At H6 a1 d ∧ SameP R.r H H6 ∧ NdAt c cC H6 T x ∧ run R.ws g1 (.prodL T) a1 d = some res) ∧ 2000 - atOf (H6 R.r) < 2000 - atOf (H2 R.r) := by
          intro U a2 x2 k C' eC hge hlt hr2 H5 I5 s5 hT5 hU5 x3 dx3 hx hdx H6 ini
          subst eC
          obtain ⟨q1, q2⟩ := mk_done hx hdx (Same.refl _) ini
          have I6 := I5.same q1
          refine ⟨⟨two k T U, a2, x3, g1, rfl, I6, s5.trans (SameP.of q1), .of (as := [x, x2]) ⟨dx3, q2⟩ (.cons (hT5.stay (.of q1)) (.cons (hU5.stay (.of q1)) .nil)), hr2⟩, ?_⟩
          rw [I6.of, I2.of]
          omega
        by_cases e1 : tk R.ws a1 = wStar
        · rw [if_pos e1] at h2
          have hlt := tk_lt e1 (by decide)
          rw [e1]
          refine iteT ⟨_, rfl, R.r, R.dx, _, rfl, I3.o, rfl, R, a1, d, wStar, vs2 st_star, rfl, I3, by decide, fun _ H4 I4 s4 => ⟨_, rfl, iteT ?_⟩, fun z => absurd e1 z⟩
          have s34 := s3.trans s4
          have hT4 := I3.nd s4 hT3
          rcases bd_some h2 with ⟨i, q1, e⟩ | ⟨U, a2, q1, q2⟩
          · exact ⟨_, rfl, _, rfl, R.r, R.dx, _, rfl, I4.o, rfl, R, a1 + 1, d, g1, _, rfl, rfl, I4, hd, hn, q1, fun T a e => (by cases e), fun j e2 => (by
              cases e2
              exact (kE _ e).mono s34)⟩
          · have hge := (run_ge _ _ _ _ _ _ _ q1).1
            exact ⟨_, rfl, _, rfl, R.r, R.dx, _, rfl, I4.o, rfl, R, a1 + 1, d, g1, _, rfl, rfl, I4, hd, hn, q1, fun T' a' e2 x2 H5 I5 s5 hU => (by
              cases e2
              intro x3 dx3 hx hdx hne
              exact ⟨x3, dx3, _, _, rfl, upd_same, fun H6 ini => ⟨rfl, nxt U a2 x2 .mul _ rfl hge hlt q2 H5 I5 (s34.trans s5) (I4.nd s5 hT4) hU x3 dx3 hx hdx H6 ini⟩⟩), fun i e2 => (by cases e2)⟩
        · rw [if_neg e1] at h2
          by_cases e2 : tk R.ws a1 = wOver
          · rw [if_pos e2] at h2
            have hlt := tk_lt e2 (by decide)
            rw [e2]
            refine iteT ⟨_, rfl, R.r, R.dx, _, rfl, I3.o, rfl, R, a1, d, wStar, vs2 st_star, rfl, I3, by decide, fun z => absurd z e1, fun _ => ⟨_, rfl, iteF ?_⟩⟩
            refine ⟨_, rfl, R.r, R.dx, _, rfl, I3.o, rfl, R, a1, d, wOver, vs2 st_over, rfl, I3, by decide, fun _ H4 I4 s4 => ?_, fun z => absurd e2 z⟩
            have s34 := s3.trans s4
            have hT4 := I3.nd s4 hT3
            rcases bd_some h2 with ⟨i, q1, e⟩ | ⟨U, a2, q1, q2⟩
            · exact ⟨_, rfl, _, rfl, R.r, R.dx, _, rfl, I4.o, rfl, R, a1 + 1, d, g1, _, rfl, rfl, I4, hd, hn, q1, fun T a e => (by cases e), fun j e2 => (by
                cases e2
                exact (kE _ e).mono s34)⟩
            · have hge := (run_ge _ _ _ _ _ _ _ q1).1
              exact ⟨_, rfl, _, rfl, R.r, R.dx, _, rfl, I4.o, rfl, R, a1 + 1, d, g1, _, rfl, rfl, I4, hd, hn, q1, fun T' a' e2 x2 H5 I5 s5 hU => (by
                cases e2
                intro x3 dx3 hx hdx hne
                exact ⟨x3, dx3, _, _, rfl, upd_same, fun H6 ini => ⟨rfl, nxt U a2 x2 .over _ rfl hge hlt q2 H5 I5 (s34.trans s5) (I4.nd s5 hT4) hU x3 dx3 hx hdx H6 ini⟩⟩), fun i e2 => (by cases e2)⟩
          · rw [if_neg e2] at h2
            have ec : [wStar, wOver].contains (tk R.ws a1) = false := by
              rw [Bool.eq_false_iff]
              intro q
              rw [List.contains_iff_mem] at q
              rcases List.mem_cons.mp q with q | q
              · exact e1 q
              · exact e2 (List.mem_singleton.mp q)
            rw [ec]
            exact iteF (hD' _ _ ⟨T, a1, x, rfl, I3, s3, hT3, (Option.some.inj h2).symm⟩)
      · intro σ H2 Q1 Q2 hq hc
        obtain ⟨y, e1, b, dx, fs, e2, e3, e4, R', a', d', e5, e6, e7, sz, hf⟩ := hc
        refine ⟨y, e1, b, dx, fs, e2, e3, e4, R', a', d', e5, e6, e7, sz, fun t ht => ?_⟩
        obtain ⟨p, xs, f1, f2, f3, f4, q, f5, f6⟩ := hf t ht
        exact ⟨p, xs, f1, f2, f3, f4, q, f5, hq _ _ f6⟩
    rintro σ H2 ⟨T, a1, x, rfl, I2, s2, hT2, e⟩
    exact ⟨_, rfl, kO T a1 e x H2 I2 s2 hT2⟩
end
end My

set_option pp.maxSteps 300
set_option Elab.async false
set_option linter.all false
set_option maxRecDepth 100000
set_option maxHeartbeats 1000000
namespace My
open PySem L2 MyR RT
/-! ### what may stand behind half and to -/
def Same2 (r W : Addr) (H H' : Hp) : Prop := ∀ a o, H a = some o → a ≠ r → a ≠ W → H' a = some o
def spStep (C cT : Addr) (c : CA) (cC : Addr) (n : Nat) : Sp := fun vs H Q E => ∃ (R : RX) (a d f : Nat) (W : Addr) (acc : List V), vs = [.ref R.r, .ref W] ∧ R.C = C ∧ R.At H a d ∧ d ≤ 20 ∧ 20 ≤ d + n ∧ H W = some (.lst acc) ∧ W ≠ R.L ∧ acc.length ≤ 2000 ∧
  (tk R.ws a = wHalf → ∀ H', R.At H' (a + 1) d → Same2 R.r W H H' → H' W = some (.lst (acc ++ [.non])) → Q .non H') ∧
  (tk R.ws a ≠ wHalf → ∃ res, run R.ws f .atom a d = some res ∧ (∀ i, res = .fail i → Er E cT R.r H i) ∧
    ∀ T a1, res = .ok T a1 →
      (tk R.ws a1 = wTo → ∀ (x : Addr) H', R.At H' (a1 + 1) d → Same2 R.r W H H' → NdAt c cC H' T x → H' W = some (.lst (acc ++ [.ref x])) → Q .non H') ∧
      (tk R.ws a1 ≠ wTo → ∀ (x : Addr) H', R.At H' a1 d → Same2 R.r W H H' → NdAt c cC H' T x → H' W = some (.lst acc) → Q (.ref x) H'))
theorem NdAt.updL {c : CA} {cC : Addr} {H : Hp} {T : Tr} {x W : Addr} {us vs : List V} (h : NdAt c cC H T x) (hW : H W = some (.lst us)) : NdAt c cC (upd H W (.lst vs)) T x :=
  h.stay (Stay.lst hW)
theorem RX.At.updL {R : RX} {H : Hp} {a d : Nat} {W : Addr} {us vs : List V} (I : R.At H a d) (hW : H W = some (.lst us)) (n : W ≠ R.L) : R.At (upd H W (.lst vs)) a d :=
  ⟨upd_keep I.o (ne_of I.o hW (by intro z; cases z)), upd_keep I.l (Ne.symm n), I.k⟩
section
variable {P : Program} {w : World} {K : PySem.W.Frag} {mg : Str → Option Value} {base : Heap}
abbrev s_Reader_step : Stmt := inClass (top 40) 10
abbrev N_Reader_step : List Str := ["self", "waiting", "node"]
theorem sc_Reader_step : FnScope N_Reader_step ["self", "waiting"] (defScope s_Reader_step) := ⟨rfl, rfl, rfl, by decide +kernel, rfl, by decide +kernel, by decide +kernel⟩
theorem ok_Reader_step {f C cT cC : Addr} {c : CA} {fd : FuncData} {n : Nat} (F : Fun K "step" "Reader.step" s_Reader_step f fd) (C0 : RdC K C) (MT : Mt P w K mg base CX0 C 2 "took" ["self", "word"] (spTook C)) (MP : Mt P w K mg base (L2.CX P w) C (7 * n + 16) "plain" ["self"] (spJob C cT c cC .atom n)) : FnOk P w K mg base (L2.CX P w) (7 * n + 17) f fd ["self", "waiting"] (spStep C cT c cC n) := by
  refine F.okX (k := 7 * n + 16) sc_Reader_step (fun vs H Q E h => ?_) (fun cdv A outer s H vs Q E hr h => ?_)
  · obtain ⟨R, a, d, g, W, acc, rfl, _⟩ := h
    rfl
  · obtain ⟨R, a, d, g, W, acc, rfl, rfl, I, hd, hn, hW, nWL, hacc, k1, k2⟩ := h
    have nd := sc_Reader_step.nd
    refine ⟨_, (pss_cons (ps_if (pt_val (pe_meth (pv 0) C0.cl MT.m MT.ok (hr.mono (by omega)) MT.b .nil pass0 (pa_cons pe_str pa_nil)))
    (pss_cons (ps_expr (pe_bm PySem.F.plainAttrs_list PySem.F.slot_list_append PySem.F.type_list_append mt_append (pv 1) (pa_cons pe_non pa_nil)))
    (pss_one (ps_ret pe_non)))
    pss_nil)
    (pss_cons (ps_set (i := 2) nd rfl (Or.inl rfl) (pe_meth0 (pv 0) C0.cl MP.m MP.ok hr MP.b .nil (fun pins σ H s e s' I c => passAt (takes_of rfl rfl rfl rfl) σ pins H s e s' I c)))
    (pss_cons (ps_if (pt_not (pt_val (pe_meth (pv 0) C0.cl MT.m MT.ok (hr.mono (by omega)) MT.b .nil pass0 (pa_cons pe_str pa_nil))))
    (pss_one (ps_ret (pv 2)))
    pss_nil)
    (pss_cons (ps_expr (pe_bm PySem.F.plainAttrs_list PySem.F.slot_list_append PySem.F.type_list_append mt_append (pv 1) (pa_cons (pv 2) pa_nil)))
    (pss_one (ps_ret pe_non)))))), ?_⟩
    have zl' : 16777216 = sizeLine := sizeLine_eq.symm
    have nWr : W ≠ R.r := ne_of hW I.o (by intro z; cases z)
    refine ⟨_, rfl, R.r, R.dx, _, rfl, I.o, rfl, R, a, d, wHalf, vs2 st_half, rfl, I, by decide, fun h H1 I1 s1 => ⟨_, rfl, iteT ?_⟩, fun h => ⟨_, rfl, iteF ?_⟩⟩
    · have hW1 := s1 _ _ hW nWr
      refine ⟨_, rfl, .inl ⟨rfl, _, SqL.of hW1⟩, W, _, _, rfl, rfl, hW1, by omega, ?_⟩
      exact k1 h _ (I1.updL hW1 nWL) (fun p o e n1 n2 => by rw [upd_ne n2]; exact s1 _ _ e n1) upd_same
    · obtain ⟨res, hrun, kE, kO⟩ := k2 h
      refine ⟨_, rfl, R.r, R.dx, _, rfl, I.o, rfl, R, a, d, g, res, rfl, rfl, I, hd, hn, hrun, fun T a1 e x H1 I1 s1 hT => ?_, kE⟩
      have hW1 := s1 _ _ hW nWr
      obtain ⟨o1, o2⟩ := kO T a1 e
      refine ⟨_, rfl, R.r, R.dx, _, rfl, I1.o, rfl, R, a1, d, wTo, vs2 st_to, rfl, I1, by decide, fun h2 H2 I2 s2 => ⟨_, rfl, iteF ?_⟩, fun h2 => ⟨_, rfl, iteT ?_⟩⟩
      · have hW2 := s2 _ _ hW1 nWr
        have hT2 := I1.nd s2 hT
        refine ⟨_, rfl, .inl ⟨rfl, _, SqL.of hW2⟩, _, rfl, W, _, _, rfl, rfl, hW2, by omega, ?_⟩
        exact o1 h2 x _ (I2.updL hW2 nWL) (fun p o e n1 n2 => by rw [upd_ne n2]; exact s2 _ _ (s1 _ _ e n1) n1) (hT2.updL hW2) upd_same
      · exact ⟨_, rfl, o2 h2 x H1 I1 (fun p o e n1 _ => s1 _ _ e n1) hT hW1⟩
end
end My

set_option pp.maxSteps 300
set_option Elab.async false
set_option linter.all false
set_option maxRecDepth 100000
set_option maxHeartbeats 1000000
namespace My
open PySem L2 MyR RT
/-! ### half and to, the one behind the other -/
def wrapT : List (Option Tr) → Tr → Tr
  | [], T => T
  | none :: o, T => .mk .half [wrapT o T]
  | some U :: o, T => two .rai U (wrapT o T)
def wrapR (o : List (Option Tr)) : Res → Res
  | .fail i => .fail i
  | .ok T a => .ok (wrapT o T) a
theorem wrapT_app : ∀ (a b : List (Option Tr)) (T : Tr), wrapT (a ++ b) T = wrapT a (wrapT b T)
  | [], _, _ => rfl
  | none :: a, b, T => by
    show Tr.mk .half [wrapT (a ++ b) T] = Tr.mk .half [wrapT a (wrapT b T)]
    rw [wrapT_app a b T]
  | some U :: a, b, T => by
    show two .rai U (wrapT (a ++ b) T) = two .rai U (wrapT a (wrapT b T))
    rw [wrapT_app a b T]
theorem wrapR_app (a b : List (Option Tr)) (r : Res) : wrapR a (wrapR b r) = wrapR (a ++ b) r := by
  cases r with
  | fail i => rfl
  | ok T n =>
    show Res.ok (wrapT a (wrapT b T)) n = .ok (wrapT (a ++ b) T) n
    rw [wrapT_app]
def tailR (ws : List (List Nat)) (T : Tr) (a : Nat) : Option Res := if tk ws a = wPow then nn ws 0 64 (a + 1) fun n a => some (.ok (.mk (.pow n) [T]) a) else some (.ok T a)
/-- one turn of half, to -/
theorem fac_some {ws : List (List Nat)} {g a d : Nat} {r : Res} (h : run ws (g + 1) .fac a d = some r) :
    (tk ws a = wHalf → ∃ r1, run ws g .fac (a + 1) d = some r1 ∧ r = wrapR [none] r1) ∧
    (tk ws a ≠ wHalf → ∃ r0, run ws g .atom a d = some r0 ∧ (∀ i, r0 = .fail i → r = .fail i) ∧ ∀ T a1, r0 = .ok T a1 →
      (tk ws a1 = wTo → ∃ r1, run ws g .fac (a1 + 1) d = some r1 ∧ r = wrapR [some T] r1) ∧ (tk ws a1 ≠ wTo → tailR ws T a1 = some r)) := by
  unfold run at h
  refine ⟨fun e => ?_, fun e => ?_⟩
  · rw [if_pos e] at h
    rcases bd_some h with ⟨i, h1, e2⟩ | ⟨T, a1, h1, h2⟩
    · exact ⟨_, h1, e2⟩
    · exact ⟨_, h1, (Option.some.inj h2).symm⟩
  · rw [if_neg e] at h
    rcases bd_some h with ⟨i, h1, e2⟩ | ⟨T, a1, h1, h2⟩
    · exact ⟨_, h1, fun j q => by cases q; exact e2, fun T a q => by cases q⟩
    · refine ⟨_, h1, fun j q => (by cases q), fun T' a' q => ?_⟩
      cases q
      refine ⟨fun e2 => ?_, fun e2 => ?_⟩
      · rw [if_neg (show ¬ tk ws a1 = wPow from fun q => by rw [e2] at q; exact absurd q (by decide)), if_pos e2] at h2
        rcases bd_some h2 with ⟨i, h3, e3⟩ | ⟨U, a2, h3, h4⟩
        · exact ⟨_, h3, e3⟩
        · exact ⟨_, h3, (Option.some.inj h4).symm⟩
      · unfold tailR
        rw [if_neg e2] at h2
        exact h2
def RW (c : CA) (cC : Addr) (H : Hp) (o : Option Tr) (v : V) : Prop := match o with
  | none => v = .non
  | some T => ∃ x, v = .ref x ∧ NdAt c cC H T x
theorem RW.imp {c : CA} {cC : Addr} {H H' : Hp} (h : ∀ T x, NdAt c cC H T x → NdAt c cC H' T x) {o : Option Tr} {v : V} (q : RW c cC H o v) : RW c cC H' o v := by
  cases o with
  | none => exact q
  | some T =>
    obtain ⟨x, e, q⟩ := q
    exact ⟨x, e, h T x q⟩
theorem RX.At.nd2 {R : RX} {H H' : Hp} {a d : Nat} {W : Addr} {us vs : List V} {c : CA} {cC : Addr} {T : Tr} {x : Addr} (I : R.At H a d) (hW : H W = some (.lst us)) (s : Same2 R.r W H H') (hW' : H' W = some (.lst vs)) (h : NdAt c cC H T x) : NdAt c cC H' T x := by
  have h1 : SameP R.r H (upd H' W (.lst us)) := fun p o e n => by
    by_cases q : p = W
    · subst q
      rw [upd_same, ← hW]
      exact e
    · rw [upd_ne q]
      exact s p o e n q
  have h2 := NdAt.updL (vs := vs) (I.nd h1 h) upd_same
  have e : upd (upd H' W (.lst us)) W (.lst vs) = H' := by
    funext p
    by_cases q : p = W
    · subst q
      rw [upd_same, hW']
    · rw [upd_ne q, upd_ne q]
  rw [e] at h2
  exact h2
theorem SameP.two {r W : Addr} {H H1 H2 : Hp} (s : SameP r H H1) (s2 : Same2 r W H1 H2) (hW : H W = none) : SameP r H H2 := fun p o e n => s2 p o (s p o e n) n (ne_of_none e hW)
section
variable {P : Program} {w : World} {K : PySem.W.Frag} {mg : Str → Option Value} {base : Heap}
abbrev s_Reader_tight : Stmt := inClass (top 40) 9
abbrev N_Reader_tight : List Str := ["self", "waiting", "node", "base"]
theorem sc_Reader_tight : FnScope N_Reader_tight ["self"] (defScope s_Reader_tight) := ⟨rfl, rfl, rfl, by decide +kernel, rfl, by decide +kernel, by decide +kernel⟩
/-- under way: still none, or the node behind them all -/
def Tg (R : RX) (c : CA) (cC : Addr) (H : Hp) (W : Addr) (d : Nat) (res : Res) (v : V) (b : Nat) (H1 : Hp) : Prop := ∃ (o : List (Option Tr)) (acc : List V), SameP R.r H H1 ∧ R.At H1 b d ∧ H1 W = some (.lst acc) ∧ All2 (RW c cC H1) o acc ∧ acc.length ≤ b ∧ (acc = [] ∨ b ≤ R.ws.length) ∧
  ((v = .non ∧ ∃ g r1, run R.ws g .fac b d = some r1 ∧ res = wrapR o r1) ∨ ∃ T x r1, v = .ref x ∧ NdAt c cC H1 T x ∧ tailR R.ws T b = some r1 ∧ res = wrapR o r1)
theorem step_use {C cT cC : Addr} {c : CA} {n : Nat} {R : RX} {H H1 : Hp} {W : Addr} {a d g : Nat} {o : List (Option Tr)} {acc : List V} {res r1 : Res} {Q : VK} {E : XK} (hC : R.C = C) (hd : d ≤ 20) (hn : 20 ≤ d + n) (hW0 : H W = none) (hWL : W ≠ R.L) (kE : ∀ i, res = .fail i → Er E cT R.r H i)
    (s1 : SameP R.r H H1) (I : R.At H1 a d) (hW : H1 W = some (.lst acc)) (ao : All2 (RW c cC H1) o acc) (l1 : acc.length ≤ a) (l2 : acc = [] ∨ a ≤ R.ws.length) (hr : run R.ws g .fac a d = some r1) (er : res = wrapR o r1)
    (k : ∀ v H2 b, a < b → b ≤ R.ws.length → Tg R c cC H W d res v b H2 → Q v H2) : spStep C cT c cC n [.ref R.r, .ref W] H1 Q E := by
  cases g with
  | zero => cases hr
  | succ g =>
  obtain ⟨f1, f2⟩ := fac_some hr
  have kn := I.k.n
  refine ⟨R, a, d, g, W, acc, rfl, hC, I, hd, hn, hW, hWL, ?_, fun h H2 I2 s2 hW2 => ?_, fun h => ?_⟩
  · rcases l2 with l2 | l2
    · rw [l2]
      exact Nat.zero_le _
    · omega
  · obtain ⟨r2, h2, e2⟩ := f1 h
    have hlt := tk_lt h (by decide)
    refine k .non H2 (a + 1) (by omega) (by omega) ⟨o ++ [none], acc ++ [.non], s1.two s2 hW0, I2, hW2, (ao.imp fun o v q => RW.imp (fun T x q => I.nd2 hW s2 hW2 q) q).app (.cons (show RW c cC H2 none .non from rfl) .nil), ?_, .inr (by omega), .inl ⟨rfl, g, r2, h2, ?_⟩⟩
    · rw [List.length_append, List.length_singleton]
      omega
    · rw [er, e2, wrapR_app]
  · obtain ⟨r0, h0, fE, fO⟩ := f2 h
    refine ⟨r0, h0, fun i e => ?_, fun T a1 e => ?_⟩
    · have e2 := fE i e
      refine (kE i ?_).mono s1
      rw [er, e2]
      rfl
    · obtain ⟨o1, o2⟩ := fO T a1 e
      rw [e] at h0
      obtain ⟨g1, g2⟩ := run_ge _ _ _ _ _ _ _ h0
      have g2 := g2 (.inr rfl)
      have g1 : a + 1 ≤ a1 := g1
      refine ⟨fun h2 x H2 I2 s2 hT hW2 => ?_, fun h2 x H2 I2 s2 hT hW2 => ?_⟩
      · obtain ⟨r2, h3, e2⟩ := o1 h2
        have hlt := tk_lt h2 (by decide)
        refine k .non H2 (a1 + 1) (by omega) (by omega) ⟨o ++ [some T], acc ++ [.ref x], s1.two s2 hW0, I2, hW2, (ao.imp fun o v q => RW.imp (fun T x q => I.nd2 hW s2 hW2 q) q).app (.cons (show RW c cC H2 (some T) (.ref x) from ⟨x, rfl, hT⟩) .nil), ?_, .inr (by omega), .inl ⟨rfl, g, r2, h3, ?_⟩⟩
        · rw [List.length_append, List.length_singleton]
          omega
        · rw [er, e2, wrapR_app]
      · exact k (.ref x) H2 a1 (by omega) g2 ⟨o, acc, s1.two s2 hW0, I2, hW2, ao.imp fun o v q => RW.imp (fun T x q => I.nd2 hW s2 hW2 q) q, by omega, .inr g2, .inr ⟨T, x, r1, rfl, hT, o2 h2, er⟩⟩
end
end My

set_option pp.maxSteps 300
set_option Elab.async false
set_option linter.all false
set_option maxRecDepth 100000
set_option maxHeartbeats 1000000
namespace My
open PySem L2 MyR RT
/-! ### what the law reads: halves and powers -/
def spNo : Sp := fun _ _ _ _ => False
def spPrev (j : Job) : Nat → Sp
  | 0 => spNo
  | n + 1 => spLj j n
theorem num_pos {l : List Nat} {n : Int} (h : numV l = some n) : 0 ≤ n := by
  unfold numV at h
  by_cases e : numB l = true
  · rw [if_pos e] at h
    cases h
    exact Int.natCast_nonneg _
  · rw [if_neg e] at h
    cases h
theorem fk_yes {ws : List (List Nat)} {a : Nat} {m n : Int} (h : numV (tk ws a) = some n) (hm : n ≤ m) : fk ws m a true = true := by
  unfold fk
  rw [h]
  exact decide_eq_true hm
theorem fk_no {ws : List (List Nat)} {a : Nat} {m : Int} {b : Bool} (h : ∀ n, numV (tk ws a) = some n → ¬ n ≤ m) : fk ws m a b = false := by
  unfold fk
  cases hv : numV (tk ws a) with
  | none => exact Bool.and_false b
  | some n =>
    show (b && decide (n ≤ m)) = false
    rw [decide_eq_false (h n hv), Bool.and_false]
theorem st_lk2 (ws : List (List Nat)) (a : Nat) {s : Str} {w : List Nat} (h : s = wd w) (h1 : w ≠ []) (h2 : w ≠ [10]) : decide (V.str (wd (lk ws a)) = V.str s) = decide (tk ws a = w) := by
  rw [h]
  exact st_lk ws a h1 h2
theorem prev_lt {j : Job} {n a l : Nat} (h1 : l ≤ a + n) (h2 : a < l) : ∃ m, n = m + 1 ∧ spPrev j n = spLj j m := by
  cases n with
  | zero => omega
  | succ m => exact ⟨m, rfl, rfl⟩
section
variable {P : Program} {w : World} {K : PySem.W.Frag} {mg : Str → Option Value} {base : Heap}
abbrev s_law_factor : Stmt := top 59
abbrev N_law_factor : List Str := ["_law_reading", "_law_term"]
theorem sc_law_factor : FnScope N_law_factor ["_law_reading"] (defScope s_law_factor) := ⟨rfl, rfl, rfl, by decide +kernel, rfl, by decide +kernel, by decide +kernel⟩
theorem ok_law_factor {f : Addr} {fd : FuncData} {n : Nat} (F : Fun K "_law_factor" "_law_factor" s_law_factor f fd) (T0 : Glob mg) (D_law_next : Df P w K mg base 1 "_law_next" ["_law_reading"] spLn) (D_law_count : Df P w K mg base 2 "_law_count" ["_law_reading", "_law_most"] spLk) (D_atom : Df P w K mg base (5 * n + 6) "_law_atom" ["_law_reading"] (spLj .atom n)) (D_fac : Df P w K mg base (5 * n + 2) "_law_factor" ["_law_reading"] (spPrev .fac n)) : FnOk P w K mg base CX0 (5 * n + 7) f fd ["_law_reading"] (spLj .fac n) := by
  refine F.ok (k := 5 * n + 6) sc_law_factor (fun vs H Q E h => ?_) (fun cdv A outer s H vs Q E hr h => ?_)
  · obtain ⟨X, a, d, b, rfl, _⟩ := h
    rfl
  · obtain ⟨X, a, d, b, rfl, I, hn, kF, kT⟩ := h
    have nd := sc_law_factor.nd
    have hu := hu_of hr
    refine ⟨_, (pss_cons (ps_if (PW.pt (pw_and (pt_val (pe_dget hu (pv 0) pe_str (fun _ _ => rfl))) (pw_and1 (pt_cmpR op_eq (pe_call D_law_next.ok (hr.mono (by omega)) (by rfl) D_law_next.g D_law_next.kp D_law_next.b .nil pass0 (pa_cons (pv 0) pa_nil)) pe_str (nomark _)))))
    (pss_cons (ps_dput hu (pv 0) pe_str (pe_op op_add (pe_dget hu (pv 0) pe_str (fun _ _ => rfl)) pe_int) rfl)
    (pss_one (ps_ret (pe_tup (pa_cons pe_str (pa_cons (pe_call D_fac.ok (hr.mono (by omega)) (by rfl) D_fac.g D_fac.kp D_fac.b .nil pass0 (pa_cons (pv 0) pa_nil)) pa_nil))))))
    pss_nil)
    (pss_cons (ps_set (i := 1) nd rfl (Or.inl rfl) (pe_call D_atom.ok hr (by rfl) D_atom.g D_atom.kp D_atom.b .nil pass0 (pa_cons (pv 0) pa_nil)))
    (pss_cons (ps_if (PW.pt (pw_and (pt_val (pe_dget hu (pv 0) pe_str (fun _ _ => rfl))) (pw_and1 (pt_cmpR op_eq (pe_call D_law_next.ok (hr.mono (by omega)) (by rfl) D_law_next.g D_law_next.kp D_law_next.b .nil pass0 (pa_cons (pv 0) pa_nil)) pe_str (nomark _)))))
    (pss_cons (ps_dput hu (pv 0) pe_str (pe_op op_add (pe_dget hu (pv 0) pe_str (fun _ _ => rfl)) pe_int) rfl)
    (pss_one (ps_ret (pe_tup (pa_cons pe_str (pa_cons (pv 1) (pa_cons (pe_call D_law_count.ok (hr.mono (by omega)) (by rfl) D_law_count.g D_law_count.kp D_law_count.b .nil pass0 (pa_cons (pv 0) (pa_cons pe_int pa_nil))) pa_nil)))))))
    pss_nil)
    (pss_cons (ps_if (PW.pt (pw_and (pt_val (pe_dget hu (pv 0) pe_str (fun _ _ => rfl))) (pw_and1 (pt_cmpR op_eq (pe_call D_law_next.ok (hr.mono (by omega)) (by rfl) D_law_next.g D_law_next.kp D_law_next.b .nil pass0 (pa_cons (pv 0) pa_nil)) pe_str (nomark _)))))
    (pss_cons (ps_dput hu (pv 0) pe_str (pe_op op_add (pe_dget hu (pv 0) pe_str (fun _ _ => rfl)) pe_int) rfl)
    (pss_one (ps_ret (pe_tup (pa_cons pe_str (pa_cons (pv 1) (pa_cons (pe_call D_fac.ok (hr.mono (by omega)) (by rfl) D_fac.g D_fac.kp D_fac.b .nil pass0 (pa_cons (pv 0) pa_nil)) pa_nil)))))))
    pss_nil)
    (pss_one (ps_ret (pv 1))))))), ?_⟩
    have zl' : 16777216 = sizeLine := sizeLine_eq.symm
    -- half
    refine seq_rt (fun σ H1 => σ = [some (.ref X.D), none] ∧ H1 = H ∧ (b = true → tk X.ws a ≠ wHalf)) (fun nx' hnx => ?_) ?_
    · refine ⟨_, rfl, X.D, _, rfl, I.fine, _, rfl, ?_⟩
      cases b with
      | false => exact iteF (hnx _ _ ⟨rfl, rfl, fun z => by cases z⟩)
      | true =>
        refine iteT ⟨_, rfl, X, a, d, true, rfl, I, rfl, _, rfl, ?_⟩
        rw [st_lk2 _ _ st_half (by decide) (by decide)]
        refine ite2 (fun z => ?_) (fun z => hnx _ _ ⟨rfl, rfl, fun _ q => z (decide_eq_true q)⟩)
        have z : tk X.ws a = wHalf := of_decide_eq_true z
        have hlt := tk_lt z (by decide)
        obtain ⟨f, d0, res, hr0, G⟩ := kT rfl
        cases f with
        | zero => cases hr0
        | succ f =>
        obtain ⟨r1, h1, e1⟩ := (fac_some hr0).1 z
        refine ⟨_, rfl, X.D, _, rfl, I.at, _, _, rfl, rfl, _, rfl, X.D, _, rfl, I.pat _, ?_⟩
        have I1 := I.go (a + 1) d true
        obtain ⟨m, em, es⟩ := prev_lt (j := .fac) (hn rfl) hlt
        refine ⟨_, rfl, ?_⟩
        rw [es]
        refine ⟨X, a + 1, d, true, rfl, I1, fun _ => (by have := hn rfl; omega), fun z => (by cases z), fun _ => ⟨f, d0, r1, h1, G.e, G.m, fun i e v H5 d' I5 s5 => ?_, fun T a1 e p H5 I5 s5 hT => ?_⟩⟩
        · refine ⟨(by show 2 ≤ sizeLine; omega), fun t ht => ?_⟩
          have sx := new_same (o := .tup [V.str "half", v]) ht
          exact G.bad i (by rw [e1, e]; rfl) _ _ d' (I5.same sx) ((SameP.rfl'.up.trans s5).trans (.of sx))
        · refine ⟨(by show 2 ≤ sizeLine; omega), fun t ht => ?_⟩
          have sx := new_same (o := .tup [V.str "half", .ref p]) ht
          exact G.good (.mk .half [T]) a1 (by rw [e1, e]; rfl) t _ (I5.same sx) ((SameP.rfl'.up.trans s5).trans (.of sx)) (.of (T := .mk .half [T]) (as := [p]) upd_same (.cons (hT.same sx) .nil))
    rintro σ H1 ⟨rfl, rfl, hnh⟩
    -- the atom
    refine seq_by (fun σ H2 => ∃ v, σ = [some (.ref X.D), some v] ∧ SameP X.D H1 H2 ∧
      ((∃ i d', X.At H2 i d' false ∧ ∀ (v : V) H' d', X.At H' i d' false → SameP X.D H1 H' → Q v H') ∨
      ∃ (T : Tr) (p : Addr) (a1 f d0 : Nat) (r : Res), v = .ref p ∧ X.At H2 a1 d true ∧ TrAt H2 T p ∧ X.ws.length ≤ a1 + n ∧ LGood X H1 Q d d0 r ∧ (tk X.ws a1 = wTo → ∃ r1, run X.ws f .fac (a1 + 1) d0 = some r1 ∧ r = wrapR [some T] r1) ∧ (tk X.ws a1 ≠ wTo → tailR X.ws T a1 = some r))) (fun D' hD' => ?_) ?_
    · refine ⟨_, rfl, X, a, d, b, rfl, I, hn, fun e v H2 d' I2 s2 => hD' _ _ ⟨v, rfl, s2, .inl ⟨a, d', I2, kF e⟩⟩, fun e => ?_⟩
      obtain ⟨f, d0, res, hr0, G⟩ := kT e
      cases f with
      | zero => cases hr0
      | succ f =>
      obtain ⟨r0, h0, fE, fO⟩ := (fac_some hr0).2 (hnh e)
      refine ⟨f, d0, r0, h0, G.e, G.m, fun i e0 v H2 d' I2 s2 => hD' _ _ ⟨v, rfl, s2, .inl ⟨i, d', I2, G.bad i (fE i e0)⟩⟩, fun T a1 e0 p H2 I2 s2 hT => hD' _ _ ⟨_, rfl, s2, .inr ⟨T, p, a1, f, d0, res, rfl, I2, hT, ?_, G, fO T a1 e0⟩⟩⟩
      rw [e0] at h0
      have := (run_ge _ _ _ _ _ _ _ h0).1
      have := hn e
      omega
    clear I hn kF kT hnh
    rintro σ H2 ⟨v, rfl, s2, q⟩
    rcases q with ⟨i, d', I2, kE⟩ | ⟨T, p, a1, f, d0, r, rfl, I2, hT, hn1, G, o1, o2⟩
    · -- something was wrong
      refine seq_by (fun σ H3 => σ = [some (.ref X.D), some v] ∧ H3 = H2) (fun D' hD' => ?_) ?_
      · exact ⟨_, rfl, X.D, _, rfl, I2.fine, _, rfl, iteF (hD' _ _ ⟨rfl, rfl⟩)⟩
      rintro σ H3 ⟨rfl, rfl⟩
      refine seq_by (fun σ H4 => σ = [some (.ref X.D), some v] ∧ H4 = H3) (fun D' hD' => ?_) ?_
      · exact ⟨_, rfl, X.D, _, rfl, I2.fine, _, rfl, iteF (hD' _ _ ⟨rfl, rfl⟩)⟩
      rintro σ H4 ⟨rfl, rfl⟩
      exact ⟨_, rfl, kE v _ d' I2 s2⟩
    -- **
    refine seq_rt (fun σ H3 => σ = [some (.ref X.D), some (.ref p)] ∧ H3 = H2 ∧ tk X.ws a1 ≠ wPow) (fun nx' hnx => ?_) ?_
    · refine ⟨_, rfl, X.D, _, rfl, I2.fine, _, rfl, iteT ⟨_, rfl, X, a1, d, true, rfl, I2, rfl, _, rfl, ?_⟩⟩
      rw [st_lk2 _ _ st_pow (by decide) (by decide)]
      refine ite2 (fun z => ?_) (fun z => hnx _ _ ⟨rfl, rfl, fun q => z (decide_eq_true q)⟩)
      have z : tk X.ws a1 = wPow := of_decide_eq_true z
      have ht := o2 (fun q => by rw [z] at q; exact absurd q (by decide))
      unfold tailR at ht
      rw [if_pos z] at ht
      refine ⟨_, rfl, X.D, _, rfl, I2.at, _, _, rfl, rfl, _, rfl, X.D, _, rfl, I2.pat _, ?_⟩
      have I3 := I2.go (a1 + 1) d true
      refine ⟨_, rfl, _, rfl, X, a1 + 1, d, true, 64, rfl, I3, fun H4 I4 s4 => ⟨(by show 3 ≤ sizeLine; omega), fun t ht' => ?_⟩⟩
      have sx := new_same (o := .tup [V.str "power", .ref p, optV (numV (tk X.ws (a1 + 1)))]) ht'
      have s6 := ((s2.up.trans s4).trans (.of sx) : SameP X.D H1 _)
      have I6 := I4.same sx
      rcases nn_some ht with ⟨m, q1, q2, q3, q4⟩ | ⟨q1, q2⟩
      · have hT4 := I3.tr s4 (I2.tr SameP.rfl'.up hT)
        rw [fk_yes q1 q3] at I6
        rw [q1] at I6 sx s6 ⊢
        exact G.good (.mk (.pow m) [T]) (a1 + 1 + 1) (Option.some.inj q4).symm t _ I6 s6 (.of (T := .mk (.pow m) [T]) (as := [p]) upd_same (.cons (hT4.same sx) .nil))
      · rw [fk_no fun m hv q => q1 m hv ⟨num_pos hv, q⟩] at I6
        exact G.bad (a1 + 1) q2 _ _ d I6 s6
    rintro σ H3 ⟨rfl, rfl, hnp⟩
    -- to
    refine seq_rt (fun σ H4 => σ = [some (.ref X.D), some (.ref p)] ∧ H4 = H3 ∧ tk X.ws a1 ≠ wTo) (fun nx' hnx => ?_) ?_
    · refine ⟨_, rfl, X.D, _, rfl, I2.fine, _, rfl, iteT ⟨_, rfl, X, a1, d, true, rfl, I2, rfl, _, rfl, ?_⟩⟩
      rw [st_lk2 _ _ st_to (by decide) (by decide)]
      refine ite2 (fun z => ?_) (fun z => hnx _ _ ⟨rfl, rfl, fun q => z (decide_eq_true q)⟩)
      have z : tk X.ws a1 = wTo := of_decide_eq_true z
      have hlt := tk_lt z (by decide)
      obtain ⟨r1, h1, e1⟩ := o1 z
      refine ⟨_, rfl, X.D, _, rfl, I2.at, _, _, rfl, rfl, _, rfl, X.D, _, rfl, I2.pat _, ?_⟩
      have I3 := I2.go (a1 + 1) d true
      obtain ⟨m, em, es⟩ := prev_lt (j := .fac) hn1 hlt
      refine ⟨_, rfl, _, rfl, ?_⟩
      rw [es]
      refine ⟨X, a1 + 1, d, true, rfl, I3, fun _ => (by omega), fun z => (by cases z), fun _ => ⟨f, d0, r1, h1, G.e, G.m, fun i e v H5 d' I5 s5 => ?_, fun U a2 e p2 H5 I5 s5 hU => ?_⟩⟩
      · refine ⟨(by show 3 ≤ sizeLine; omega), fun t ht => ?_⟩
        have sx := new_same (o := .tup [V.str "raised", .ref p, v]) ht
        exact G.bad i (by rw [e1, e]; rfl) _ _ d' (I5.same sx) ((s2.up.trans s5).trans (.of sx))
      · refine ⟨(by show 3 ≤ sizeLine; omega), fun t ht => ?_⟩
        have sx := new_same (o := .tup [V.str "raised", .ref p, .ref p2]) ht
        exact G.good (two .rai T U) a2 (by rw [e1, e]; rfl) t _ (I5.same sx) ((s2.up.trans s5).trans (.of sx)) (.of (T := two .rai T U) (as := [p, p2]) upd_same (.cons ((I3.tr s5 (I2.tr SameP.rfl'.up hT)).same sx) (.cons (hU.same sx) .nil)))
    rintro σ H4 ⟨rfl, rfl, hnt⟩
    have ht := o2 hnt
    unfold tailR at ht
    rw [if_neg hnp] at ht
    exact ⟨_, rfl, G.good T a1 (Option.some.inj ht).symm p _ I2 s2 hT⟩
end
end My

set_option pp.maxSteps 300
set_option Elab.async false
set_option linter.all false
set_option maxRecDepth 100000
set_option maxHeartbeats 1000000
namespace My
open PySem L2 MyR RT
/-! ### what the law reads: choices -/
theorem set_dict {X : Cx} (hu : X.A.units + 1 < cLine) : PSet X (fun o i v H Q => ∃ a H', o = .ref a ∧ DPut H a i v H' ∧ Q H') := by
  intro pins s σ H o i v ov iv u Q I ro ri rv h
  obtain ⟨a, H', rfl, g, q⟩ := h
  obtain rfl : ov = Value.ref a := ro
  exact d_setItem hu I g ri rv fun s4 I4 => ⟨H', I4, q⟩
def Bad (X : LX) (H : Hp) (Q : VK) (H1 : Hp) : Prop := ∃ i d', X.At H1 i d' false ∧ ∀ (v : V) H' d', X.At H' i d' false → SameP X.D H H' → Q v H'
def spLch (n : Nat) : Sp := fun vs H Q _ => ∃ (X : LX) (a : Nat) (d : Int) (b : Bool), vs = [.ref X.D] ∧ X.At H a d b ∧ (b = true → X.ws.length ≤ a + n) ∧
  (b = false → ∀ (v : V) H' d', X.At H' a d' false → SameP X.D H H' → Q v H') ∧
  (b = true → tk X.ws a = wIf ∧ ∃ (f d0 : Nat) (res : Res), run X.ws f .cho (a + 1) d0 = some res ∧ LGood X H Q d d0 res)
theorem take_good {X : LX} {H2 : Hp} {a : Nat} {d : Int} {w : List Nat} {f : Nat → Option Res} {res : Res} (I2 : X.At H2 (up1 a (fw X.ws w a true)) d (fw X.ws w a true)) (h : nd X.ws w a f = some res) : (f (a + 1) = some res ∧ X.At H2 (a + 1) d true) ∨ (res = .fail a ∧ X.At H2 a d false) := by
  rcases nd_some h with ⟨z, e⟩ | ⟨z, e⟩
  · rw [show fw X.ws w a true = true from decide_eq_true z] at I2
    exact .inl ⟨e, I2⟩
  · rw [show fw X.ws w a true = false from decide_eq_false z] at I2
    exact .inr ⟨e, I2⟩
theorem count_good {X : LX} {H2 : Hp} {a : Nat} {d m : Int} {f : Int → Nat → Option Res} {res : Res} (I2 : X.At H2 (up1 a (fk X.ws m a true)) d (fk X.ws m a true)) (h : nn X.ws 0 m a f = some res) : (∃ n, numV (tk X.ws a) = some n ∧ 0 ≤ n ∧ n ≤ m ∧ f n (a + 1) = some res ∧ X.At H2 (a + 1) d true) ∨ (res = .fail a ∧ X.At H2 a d false) := by
  rcases nn_some h with ⟨n, q1, q2, q3, q4⟩ | ⟨z, e⟩
  · rw [fk_yes q1 q3] at I2
    exact .inl ⟨n, q1, q2, q3, q4, I2⟩
  · rw [fk_no fun n hv q => z n hv ⟨num_pos hv, q⟩] at I2
    exact .inr ⟨e, I2⟩
theorem mod_good {X : LX} {H2 : Hp} {a : Nat} {d : Int} {f : Int → Nat → Option Res} {res : Res} (I2 : X.At H2 (up1 a (fk X.ws 64 a true)) d (fk X.ws 64 a true)) (h : nn X.ws 2 64 a f = some res) : (∃ n, numV (tk X.ws a) = some n ∧ (isM n = true → f n (a + 1) = some res) ∧ (2 ≤ n → f n (a + 1) = some res) ∧ (n < 2 → res = .fail a) ∧ X.At H2 (a + 1) d true) ∨ (res = .fail a ∧ X.At H2 a d false) := by
  have ge : ∀ n, isM n = true → 2 ≤ n := fun n q => by
    have := isM_ok q
    unfold OkM at this
    omega
  rcases nn_some h with ⟨n, q1, q2, q3, q4⟩ | ⟨z, e⟩
  · rw [fk_yes q1 q3] at I2
    exact .inl ⟨n, q1, fun _ => q4, fun _ => q4, fun q => absurd q (by omega), I2⟩
  · cases hv : numV (tk X.ws a) with
    | none =>
      rw [fk_no fun n hn _ => by rw [hv] at hn; cases hn] at I2
      exact .inr ⟨e, I2⟩
    | some n =>
      have hz := z n hv
      by_cases h64 : n ≤ 64
      · rw [fk_yes hv h64] at I2
        exact .inl ⟨n, rfl, fun q => absurd ⟨ge n q, h64⟩ hz, fun q => absurd ⟨q, h64⟩ hz, fun _ => e, I2⟩
      · rw [fk_no fun n' hn q => by rw [hv] at hn; cases hn; exact h64 q] at I2
        exact .inr ⟨e, I2⟩
section
variable {P : Program} {w : World} {K : PySem.W.Frag} {mg : Str → Option Value} {base : Heap}
abbrev s_law_choice : Stmt := top 60
abbrev N_law_choice : List Str := ["_law_reading", "_law_tested", "_law_modulus", "_law_rest", "_law_yes"]
theorem sc_law_choice : FnScope N_law_choice ["_law_reading"] (defScope s_law_choice) := ⟨rfl, rfl, rfl, by decide +kernel, rfl, by decide +kernel, by decide +kernel⟩
theorem ok_law_choice {f : Addr} {fd : FuncData} {n : Nat} (F : Fun K "_law_choice" "_law_choice" s_law_choice f fd) (T0 : Glob mg) (D_law_take : Df P w K mg base 2 "_law_take" ["_law_reading", "_law_word"] spLt) (D_law_count : Df P w K mg base 2 "_law_count" ["_law_reading", "_law_most"] spLk) (D_sum : Df P w K mg base (5 * n + 9) "_law_sum" ["_law_reading"] (spLj .sum n)) : FnOk P w K mg base CX0 (5 * n + 10) f fd ["_law_reading"] (spLch n) := by
  refine F.ok (k := 5 * n + 9) sc_law_choice (fun vs H Q E h => ?_) (fun cdv A outer s H vs Q E hr h => ?_)
  · obtain ⟨X, a, d, b, rfl, _⟩ := h
    rfl
  · obtain ⟨X, a, d, b, rfl, I, hn, kF, kT⟩ := h
    have nd := sc_law_choice.nd
    have hu := hu_of hr
    refine ⟨_, (pss_cons (ps_expr (pe_call D_law_take.ok (hr.mono (by omega)) (by rfl) D_law_take.g D_law_take.kp D_law_take.b .nil pass0 (pa_cons (pv 0) (pa_cons pe_str pa_nil))))
    (pss_cons (ps_set (i := 1) nd rfl (Or.inl rfl) (pe_call D_sum.ok hr (by rfl) D_sum.g D_sum.kp D_sum.b .nil pass0 (pa_cons (pv 0) pa_nil)))
    (pss_cons (ps_expr (pe_call D_law_take.ok (hr.mono (by omega)) (by rfl) D_law_take.g D_law_take.kp D_law_take.b .nil pass0 (pa_cons (pv 0) (pa_cons pe_str pa_nil))))
    (pss_cons (ps_set (i := 2) nd rfl (Or.inl rfl) (pe_call D_law_count.ok (hr.mono (by omega)) (by rfl) D_law_count.g D_law_count.kp D_law_count.b .nil pass0 (pa_cons (pv 0) (pa_cons pe_int pa_nil))))
    (pss_cons (ps_if (PW.pt (pw_and (pt_val (pe_dget hu (pv 0) pe_str (fun _ _ => rfl))) (pw_and1 (pt_cmpR op_notIn_seq (pv 2) (pe_tup (pa_cons pe_int (pa_cons pe_int (pa_cons pe_int (pa_cons pe_int (pa_cons pe_int (pa_cons pe_int pa_nil))))))) (by rfl)))))
    (pss_one (ps_asg (pe_tup (pa_cons pe_bl (pa_cons (pe_op op_sub (pe_dget hu (pv 0) pe_str (fun _ _ => rfl)) pe_int) pa_nil))) (pg_tup (by rfl) (pgs_cons (pg_sub (pv 0) pe_str (set_dict hu)) (pgs_cons (pg_sub (pv 0) pe_str (set_dict hu)) pgs_nil)))))
    pss_nil)
    (pss_cons (ps_expr (pe_call D_law_take.ok (hr.mono (by omega)) (by rfl) D_law_take.g D_law_take.kp D_law_take.b .nil pass0 (pa_cons (pv 0) (pa_cons pe_str pa_nil))))
    (pss_cons (ps_set (i := 3) nd rfl (Or.inl rfl) (pe_call D_law_count.ok (hr.mono (by omega)) (by rfl) D_law_count.g D_law_count.kp D_law_count.b .nil pass0 (pa_cons (pv 0) (pa_cons (pe_op op_sub (pe_orT (pv 2) (pe_one pe_int)) pe_int) pa_nil))))
    (pss_cons (ps_expr (pe_call D_law_take.ok (hr.mono (by omega)) (by rfl) D_law_take.g D_law_take.kp D_law_take.b .nil pass0 (pa_cons (pv 0) (pa_cons pe_str pa_nil))))
    (pss_cons (ps_set (i := 4) nd rfl (Or.inl rfl) (pe_call D_sum.ok hr (by rfl) D_sum.g D_sum.kp D_sum.b .nil pass0 (pa_cons (pv 0) pa_nil)))
    (pss_cons (ps_expr (pe_call D_law_take.ok (hr.mono (by omega)) (by rfl) D_law_take.g D_law_take.kp D_law_take.b .nil pass0 (pa_cons (pv 0) (pa_cons pe_str pa_nil))))
    (pss_one (ps_ret (pe_tup (pa_cons pe_str (pa_cons (pv 1) (pa_cons (pv 2) (pa_cons (pv 3) (pa_cons (pv 4) (pa_cons (pe_call D_sum.ok hr (by rfl) D_sum.g D_sum.kp D_sum.b .nil pass0 (pa_cons (pv 0) pa_nil)) pa_nil))))))))))))))))))), ?_⟩
    have zl' : 16777216 = sizeLine := sizeLine_eq.symm
    -- if
    refine seq_by (fun σ H1 => σ = [some (.ref X.D), none, none, none, none] ∧ SameP X.D H H1 ∧ (Bad X H Q H1 ∨ ∃ (a f d0 : Nat) (res : Res), X.At H1 a d true ∧ X.ws.length ≤ a + n ∧ run X.ws f .cho a d0 = some res ∧ LGood X H Q d d0 res)) (fun D' hD' => ?_) ?_
    · refine ⟨_, rfl, X, a, d, b, wIf, vs2 st_if, I, by decide, by decide, fun H2 I2 s2 => ?_⟩
      cases b with
      | false => exact hD' _ _ ⟨rfl, s2, .inl ⟨a, d, I2, kF rfl⟩⟩
      | true =>
        obtain ⟨z, f, d0, res, h1, G⟩ := kT rfl
        rw [show fw X.ws wIf a true = true from decide_eq_true z] at I2
        exact hD' _ _ ⟨rfl, s2, .inr ⟨a + 1, f, d0, res, I2, (by have := hn rfl; omega), h1, G⟩⟩
    clear I hn kF kT
    rintro σ H1 ⟨rfl, s1, q⟩
    -- the tested one
    refine seq_by (fun σ H2 => ∃ v1, σ = [some (.ref X.D), some v1, none, none, none] ∧ SameP X.D H H2 ∧ (Bad X H Q H2 ∨ ∃ (p1 : Addr) (T : Tr) (a f d0 : Nat) (res : Res), v1 = .ref p1 ∧ TrAt H2 T p1 ∧ X.At H2 a d true ∧ X.ws.length ≤ a + n ∧ LGood X H Q d d0 res ∧ (My.nd X.ws wMod a fun a => nn X.ws 2 64 a fun m a =>
      if isM m = true then My.nd X.ws wIs a fun a => nn X.ws 0 (m - 1) a fun r a => My.nd X.ws wThen a fun a => bd (run X.ws f .sum a d0) fun U a => My.nd X.ws wElse a fun a => bd (run X.ws f .sum a d0) fun V a => some (.ok (.mk (.cho m r) [T, U, V]) a)
      else some (.fail (a - 1))) = some res)) (fun D' hD' => ?_) ?_
    · rcases q with ⟨i, d', I1, kE⟩ | ⟨a, f, d0, res, I1, hn, h1, G⟩
      · exact ⟨_, rfl, X, i, d', false, rfl, I1, fun z => (by cases z), fun _ v H2 d2 I2 s2 => hD' _ _ ⟨v, rfl, s1.trans s2, .inl ⟨i, d2, I2, kE⟩⟩, fun z => (by cases z)⟩
      · cases f with
        | zero => cases h1
        | succ f =>
        unfold run at h1
        rcases bd_some h1 with ⟨i, h2, e⟩ | ⟨T, a1, h2, h3⟩
        · exact ⟨_, rfl, X, a, d, true, rfl, I1, fun _ => hn, fun z => (by cases z), fun _ => ⟨f, d0, _, h2, G.e, G.m, fun j e2 v H2 d2 I2 s2 => (by
            cases e2
            exact hD' _ _ ⟨v, rfl, s1.trans s2, .inl ⟨i, d2, I2, G.bad i e⟩⟩), fun T a1 e2 => (by cases e2)⟩⟩
        · have hge := (run_ge _ _ _ _ _ _ _ h2).1
          exact ⟨_, rfl, X, a, d, true, rfl, I1, fun _ => hn, fun z => (by cases z), fun _ => ⟨f, d0, _, h2, G.e, G.m, fun j e2 => (by cases e2), fun T' a' e2 p H2 I2 s2 hT => (by
            cases e2
            exact hD' _ _ ⟨_, rfl, s1.trans s2, .inr ⟨p, T, a1, f, d0, res, rfl, hT, I2, (by omega), G, h3⟩⟩)⟩⟩
    clear q s1
    rintro σ H1 ⟨v1, rfl, s1, q⟩
    -- mod
    refine seq_by (fun σ H2 => σ = [some (.ref X.D), some v1, none, none, none] ∧ SameP X.D H H2 ∧ (Bad X H Q H2 ∨ ∃ (p1 : Addr) (T : Tr) (a f d0 : Nat) (res : Res), v1 = .ref p1 ∧ TrAt H2 T p1 ∧ X.At H2 a d true ∧ X.ws.length ≤ a + n ∧ LGood X H Q d d0 res ∧ (nn X.ws 2 64 a fun m a =>
      if isM m = true then My.nd X.ws wIs a fun a => nn X.ws 0 (m - 1) a fun r a => My.nd X.ws wThen a fun a => bd (run X.ws f .sum a d0) fun U a => My.nd X.ws wElse a fun a => bd (run X.ws f .sum a d0) fun V a => some (.ok (.mk (.cho m r) [T, U, V]) a)
      else some (.fail (a - 1))) = some res)) (fun D' hD' => ?_) ?_
    · rcases q with ⟨i, d', I1, kE⟩ | ⟨p1, T, a, f, d0, res, rfl, hT, I1, hn, G, h1⟩
      · exact ⟨_, rfl, X, i, d', false, wMod, vs2 st_mod, I1, by decide, by decide, fun H2 I2 s2 => hD' _ _ ⟨rfl, s1.trans s2, .inl ⟨i, d', I2, kE⟩⟩⟩
      · refine ⟨_, rfl, X, a, d, true, wMod, vs2 st_mod, I1, by decide, by decide, fun H2 I2 s2 => ?_⟩
        rcases take_good I2 h1 with ⟨h2, I3⟩ | ⟨e, I3⟩
        · exact hD' _ _ ⟨rfl, s1.trans s2, .inr ⟨p1, T, a + 1, f, d0, res, rfl, I1.tr s2 hT, I3, by omega, G, h2⟩⟩
        · exact hD' _ _ ⟨rfl, s1.trans s2, .inl ⟨a, d, I3, G.bad a e⟩⟩
    clear q s1
    rintro σ H1 ⟨rfl, s1, q⟩
    -- the modulus
    refine seq_by (fun σ H2 => ∃ o2 : Option Int, σ = [some (.ref X.D), some v1, some (optV o2), none, none] ∧ SameP X.D H H2 ∧ (Bad X H Q H2 ∨ ∃ (p1 : Addr) (T : Tr) (m : Int) (a f d0 : Nat) (res : Res), v1 = .ref p1 ∧ TrAt H2 T p1 ∧ o2 = some m ∧ X.At H2 (a + 1) d true ∧ X.ws.length ≤ a + 1 + n ∧ LGood X H Q d d0 res ∧ (isM m = false → res = .fail a) ∧ (isM m = true → (My.nd X.ws wIs (a + 1) fun a => nn X.ws 0 (m - 1) a fun r a => My.nd X.ws wThen a fun a => bd (run X.ws f .sum a d0) fun U a => My.nd X.ws wElse a fun a => bd (run X.ws f .sum a d0) fun V a => some (.ok (.mk (.cho m r) [T, U, V]) a)) = some res))) (fun D' hD' => ?_) ?_
    · rcases q with ⟨i, d', I1, kE⟩ | ⟨p1, T, a, f, d0, res, rfl, hT, I1, hn, G, h1⟩
      · exact ⟨_, rfl, X, i, d', false, 64, rfl, I1, fun H2 I2 s2 => hD' _ _ ⟨_, rfl, s1.trans s2, .inl ⟨i, d', I2, kE⟩⟩⟩
      · refine ⟨_, rfl, X, a, d, true, 64, rfl, I1, fun H2 I2 s2 => ?_⟩
        rcases mod_good I2 h1 with ⟨m, q1, q2, q3, q4, I3⟩ | ⟨e, I3⟩
        · refine hD' _ _ ⟨_, rfl, s1.trans s2, .inr ⟨p1, T, m, a, f, d0, res, rfl, I1.tr s2 hT, q1, I3, by omega, G, fun e => ?_, fun e => ?_⟩⟩
          · by_cases h2 : 2 ≤ m
            · have q5 := q3 h2
              rw [if_neg (by rw [e]; decide)] at q5
              exact (Option.some.inj q5).symm
            · exact q4 (by omega)
          · have q5 := q2 e
            rw [if_pos e] at q5
            exact q5
        · exact hD' _ _ ⟨_, rfl, s1.trans s2, .inl ⟨a, d, I3, G.bad a e⟩⟩
    clear q s1
    rintro σ H1 ⟨o2, rfl, s1, q⟩
    -- one of them?
    refine seq_by (fun σ H2 => σ = [some (.ref X.D), some v1, some (optV o2), none, none] ∧ SameP X.D H H2 ∧ (Bad X H Q H2 ∨ ∃ (p1 : Addr) (T : Tr) (m : Int) (a f d0 : Nat) (res : Res), v1 = .ref p1 ∧ TrAt H2 T p1 ∧ o2 = some m ∧ isM m = true ∧ X.At H2 a d true ∧ X.ws.length ≤ a + n ∧ LGood X H Q d d0 res ∧ (My.nd X.ws wIs a fun a => nn X.ws 0 (m - 1) a fun r a => My.nd X.ws wThen a fun a => bd (run X.ws f .sum a d0) fun U a => My.nd X.ws wElse a fun a => bd (run X.ws f .sum a d0) fun V a => some (.ok (.mk (.cho m r) [T, U, V]) a)) = some res)) (fun D' hD' => ?_) ?_
    · rcases q with ⟨i, d', I1, kE⟩ | ⟨p1, T, m, a, f, d0, res, rfl, hT, rfl, I1, hn, G, c1, c2⟩
      · exact ⟨_, rfl, X.D, _, rfl, I1.fine, _, rfl, iteF (hD' _ _ ⟨rfl, s1, .inl ⟨i, d', I1, kE⟩⟩)⟩
      · refine ⟨_, rfl, X.D, _, rfl, I1.fine, _, rfl, iteT ⟨_, rfl, (by show 6 ≤ sizeLine; omega), fun t ht => ⟨t, _, rfl, .inr (SqT.of upd_same), rfl, (by decide +kernel), _, rfl, ?_⟩⟩⟩
        have st := new_same (o := .tup [V.int 2, .int 4, .int 8, .int 16, .int 32, .int 64]) ht
        have I2 := I1.same st
        have s2 := s1.trans (SameP.of (p := X.D) st)
        have hT2 := hT.same st
        generalize upd H1 t (.tup [V.int 2, .int 4, .int 8, .int 16, .int 32, .int 64]) = H2 at I2 s2 hT2 ⊢
        have em : inV (.int m) (([2, 4, 8, 16, 32, 64] : List Int).map V.int) = isM m := in_moduli m
        show if (if true = true then !inV (.int m) (([2, 4, 8, 16, 32, 64] : List Int).map V.int) else inV (.int m) (([2, 4, 8, 16, 32, 64] : List Int).map V.int)) = true then _ else _
        rw [show (if true = true then !inV (.int m) (([2, 4, 8, 16, 32, 64] : List Int).map V.int) else inV (.int m) (([2, 4, 8, 16, 32, 64] : List Int).map V.int)) = !isM m from by rw [em]; rfl]
        cases e : isM m with
        | true => exact iteF (hD' _ _ ⟨rfl, s2, .inr ⟨p1, T, m, a + 1, f, d0, res, rfl, hT2, rfl, e, I2, hn, G, c2 e⟩⟩)
        | false =>
          refine iteT ⟨_, rfl, X.D, _, rfl, I2.at, _, _, rfl, rfl, (by show 2 ≤ sizeLine; omega), fun t2 ht2 => ?_⟩
          have sx := new_same (o := .tup [V.bl false, .int (((a + 1 : Nat) : Int) - 1)]) ht2
          have I3 := I2.same sx
          have I4 := I3.go (a + 1) d false
          refine ⟨t2, _, rfl, SqT.of upd_same, rfl, _, _, rfl, ⟨_, rfl, X.D, _, rfl, I3.pfine false, _, _, rfl, ⟨_, rfl, X.D, _, rfl, I4.pat _, rfl, ?_⟩⟩⟩
          have I5 := I4.go a d false
          have ea : ((a + 1 : Nat) : Int) - 1 = (a : Int) := by omega
          have e5 : rdV X.L (a : Int) d false = rdV X.L (((a + 1 : Nat) : Int) - 1) d false := by rw [ea]
          have g := hD' _ _ ⟨rfl, (s2.trans (.of sx)).up.up, .inl ⟨a, d, I5, G.bad a (c1 e)⟩⟩
          rw [e5] at g
          exact g
    clear q s1
    rintro σ H1 ⟨rfl, s1, q⟩
    -- is
    refine seq_by (fun σ H2 => σ = [some (.ref X.D), some v1, some (optV o2), none, none] ∧ SameP X.D H H2 ∧ (Bad X H Q H2 ∨ ∃ (p1 : Addr) (T : Tr) (m : Int) (a f d0 : Nat) (res : Res), v1 = .ref p1 ∧ TrAt H2 T p1 ∧ o2 = some m ∧ isM m = true ∧ X.At H2 a d true ∧ X.ws.length ≤ a + n ∧ LGood X H Q d d0 res ∧ (nn X.ws 0 (m - 1) a fun r a => My.nd X.ws wThen a fun a => bd (run X.ws f .sum a d0) fun U a => My.nd X.ws wElse a fun a => bd (run X.ws f .sum a d0) fun V a => some (.ok (.mk (.cho m r) [T, U, V]) a)) = some res)) (fun D' hD' => ?_) ?_
    · rcases q with ⟨i, d', I1, kE⟩ | ⟨p1, T, m, a, f, d0, res, rfl, hT, rfl, hm, I1, hn, G, h1⟩
      · exact ⟨_, rfl, X, i, d', false, wIs, vs2 st_is, I1, by decide, by decide, fun H2 I2 s2 => hD' _ _ ⟨rfl, s1.trans s2, .inl ⟨i, d', I2, kE⟩⟩⟩
      · refine ⟨_, rfl, X, a, d, true, wIs, vs2 st_is, I1, by decide, by decide, fun H2 I2 s2 => ?_⟩
        rcases take_good I2 h1 with ⟨h2, I3⟩ | ⟨e, I3⟩
        · exact hD' _ _ ⟨rfl, s1.trans s2, .inr ⟨p1, T, m, a + 1, f, d0, res, rfl, I1.tr s2 hT, rfl, hm, I3, by omega, G, h2⟩⟩
        · exact hD' _ _ ⟨rfl, s1.trans s2, .inl ⟨a, d, I3, G.bad a e⟩⟩
    clear q s1
    rintro σ H1 ⟨rfl, s1, q⟩
    -- the rest
    refine seq_by (fun σ H2 => ∃ o3 : Option Int, σ = [some (.ref X.D), some v1, some (optV o2), some (optV o3), none] ∧ SameP X.D H H2 ∧ (Bad X H Q H2 ∨ ∃ (p1 : Addr) (T : Tr) (m r : Int) (a f d0 : Nat) (res : Res), v1 = .ref p1 ∧ TrAt H2 T p1 ∧ o2 = some m ∧ o3 = some r ∧ X.At H2 a d true ∧ X.ws.length ≤ a + n ∧ LGood X H Q d d0 res ∧ (My.nd X.ws wThen a fun a => bd (run X.ws f .sum a d0) fun U a => My.nd X.ws wElse a fun a => bd (run X.ws f .sum a d0) fun V a => some (.ok (.mk (.cho m r) [T, U, V]) a)) = some res)) (fun D' hD' => ?_) ?_
    · rcases q with ⟨i, d', I1, kE⟩ | ⟨p1, T, m, a, f, d0, res, rfl, hT, rfl, hm, I1, hn, G, h1⟩
      · have fin : ∀ m' : Int, spLk [.ref X.D, .int m'] H1 (fun x H1 => gName 3 x [some (.ref X.D), some v1, some (optV o2), none, none] H1 D'.nx) (E0 : XK) := fun m' => ⟨X, i, d', false, m', rfl, I1, fun H2 I2 s2 => hD' _ _ ⟨_, rfl, s1.trans s2, .inl ⟨i, d', I2, kE⟩⟩⟩
        refine ⟨_, rfl, _, rfl, ?_⟩
        cases o2 with
        | none => exact ⟨false, rfl, iteF ⟨_, _, rfl, rfl, fin _⟩⟩
        | some z =>
          refine ⟨z != 0, rfl, ?_⟩
          cases e : z != 0 with
          | false => exact iteF ⟨_, _, rfl, rfl, fin _⟩
          | true => exact iteT ⟨_, _, rfl, rfl, fin _⟩
      · have h0 : (m != 0) = true := by
          have := isM_ok hm
          unfold OkM at this
          exact bne_iff_ne.mpr (by omega)
        refine ⟨_, rfl, _, rfl, true, h0.symm, iteT ⟨_, _, rfl, rfl, X, a, d, true, m - 1, rfl, I1, fun H2 I2 s2 => ?_⟩⟩
        rcases count_good I2 h1 with ⟨r, q1, q2, q3, h2, I3⟩ | ⟨e, I3⟩
        · exact hD' _ _ ⟨_, rfl, s1.trans s2, .inr ⟨p1, T, m, r, a + 1, f, d0, res, rfl, I1.tr s2 hT, rfl, q1, I3, by omega, G, h2⟩⟩
        · exact hD' _ _ ⟨_, rfl, s1.trans s2, .inl ⟨a, d, I3, G.bad a e⟩⟩
    clear q s1
    rintro σ H1 ⟨o3, rfl, s1, q⟩
    -- then
    refine seq_by (fun σ H2 => σ = [some (.ref X.D), some v1, some (optV o2), some (optV o3), none] ∧ SameP X.D H H2 ∧ (Bad X H Q H2 ∨ ∃ (p1 : Addr) (T : Tr) (m r : Int) (a f d0 : Nat) (res : Res), v1 = .ref p1 ∧ TrAt H2 T p1 ∧ o2 = some m ∧ o3 = some r ∧ X.At H2 a d true ∧ X.ws.length ≤ a + n ∧ LGood X H Q d d0 res ∧ (bd (run X.ws f .sum a d0) fun U a => My.nd X.ws wElse a fun a => bd (run X.ws f .sum a d0) fun V a => some (.ok (.mk (.cho m r) [T, U, V]) a)) = some res)) (fun D' hD' => ?_) ?_
    · rcases q with ⟨i, d', I1, kE⟩ | ⟨p1, T, m, r, a, f, d0, res, rfl, hT, rfl, rfl, I1, hn, G, h1⟩
      · exact ⟨_, rfl, X, i, d', false, wThen, vs2 st_then, I1, by decide, by decide, fun H2 I2 s2 => hD' _ _ ⟨rfl, s1.trans s2, .inl ⟨i, d', I2, kE⟩⟩⟩
      · refine ⟨_, rfl, X, a, d, true, wThen, vs2 st_then, I1, by decide, by decide, fun H2 I2 s2 => ?_⟩
        rcases take_good I2 h1 with ⟨h2, I3⟩ | ⟨e, I3⟩
        · exact hD' _ _ ⟨rfl, s1.trans s2, .inr ⟨p1, T, m, r, a + 1, f, d0, res, rfl, I1.tr s2 hT, rfl, rfl, I3, by omega, G, h2⟩⟩
        · exact hD' _ _ ⟨rfl, s1.trans s2, .inl ⟨a, d, I3, G.bad a e⟩⟩
    clear q s1
    rintro σ H1 ⟨rfl, s1, q⟩
    -- yes
    refine seq_by (fun σ H2 => ∃ v4, σ = [some (.ref X.D), some v1, some (optV o2), some (optV o3), some v4] ∧ SameP X.D H H2 ∧ (Bad X H Q H2 ∨ ∃ (p1 p4 : Addr) (T U : Tr) (m r : Int) (a f d0 : Nat) (res : Res), v1 = .ref p1 ∧ v4 = .ref p4 ∧ TrAt H2 T p1 ∧ TrAt H2 U p4 ∧ o2 = some m ∧ o3 = some r ∧ X.At H2 a d true ∧ X.ws.length ≤ a + n ∧ LGood X H Q d d0 res ∧ (My.nd X.ws wElse a fun a => bd (run X.ws f .sum a d0) fun V a => some (.ok (.mk (.cho m r) [T, U, V]) a)) = some res)) (fun D' hD' => ?_) ?_
    · rcases q with ⟨i, d', I1, kE⟩ | ⟨p1, T, m, r, a, f, d0, res, rfl, hT, rfl, rfl, I1, hn, G, h1⟩
      · exact ⟨_, rfl, X, i, d', false, rfl, I1, fun z => (by cases z), fun _ v H2 d2 I2 s2 => hD' _ _ ⟨v, rfl, s1.trans s2, .inl ⟨i, d2, I2, kE⟩⟩, fun z => (by cases z)⟩
      · rcases bd_some h1 with ⟨i, h2, e⟩ | ⟨U, a1, h2, h3⟩
        · exact ⟨_, rfl, X, a, d, true, rfl, I1, fun _ => hn, fun z => (by cases z), fun _ => ⟨f, d0, _, h2, G.e, G.m, fun j e2 v H2 d2 I2 s2 => (by
            cases e2
            exact hD' _ _ ⟨v, rfl, s1.trans s2, .inl ⟨i, d2, I2, G.bad i e⟩⟩), fun T a1 e2 => (by cases e2)⟩⟩
        · have hge := (run_ge _ _ _ _ _ _ _ h2).1
          exact ⟨_, rfl, X, a, d, true, rfl, I1, fun _ => hn, fun z => (by cases z), fun _ => ⟨f, d0, _, h2, G.e, G.m, fun j e2 => (by cases e2), fun T' a' e2 p H2 I2 s2 hU => (by
            cases e2
            exact hD' _ _ ⟨_, rfl, s1.trans s2, .inr ⟨p1, p, T, U, m, r, a1, f, d0, res, rfl, rfl, I1.tr s2 hT, hU, rfl, rfl, I2, (by omega), G, h3⟩⟩)⟩⟩
    clear q s1
    rintro σ H1 ⟨v4, rfl, s1, q⟩
    -- else
    refine seq_by (fun σ H2 => σ = [some (.ref X.D), some v1, some (optV o2), some (optV o3), some v4] ∧ SameP X.D H H2 ∧ (Bad X H Q H2 ∨ ∃ (p1 p4 : Addr) (T U : Tr) (m r : Int) (a f d0 : Nat) (res : Res), v1 = .ref p1 ∧ v4 = .ref p4 ∧ TrAt H2 T p1 ∧ TrAt H2 U p4 ∧ o2 = some m ∧ o3 = some r ∧ X.At H2 a d true ∧ X.ws.length ≤ a + n ∧ LGood X H Q d d0 res ∧ (bd (run X.ws f .sum a d0) fun V a => some (.ok (.mk (.cho m r) [T, U, V]) a)) = some res)) (fun D' hD' => ?_) ?_
    · rcases q with ⟨i, d', I1, kE⟩ | ⟨p1, p4, T, U, m, r, a, f, d0, res, rfl, rfl, hT, hU, rfl, rfl, I1, hn, G, h1⟩
      · exact ⟨_, rfl, X, i, d', false, wElse, vs2 st_else, I1, by decide, by decide, fun H2 I2 s2 => hD' _ _ ⟨rfl, s1.trans s2, .inl ⟨i, d', I2, kE⟩⟩⟩
      · refine ⟨_, rfl, X, a, d, true, wElse, vs2 st_else, I1, by decide, by decide, fun H2 I2 s2 => ?_⟩
        rcases take_good I2 h1 with ⟨h2, I3⟩ | ⟨e, I3⟩
        · exact hD' _ _ ⟨rfl, s1.trans s2, .inr ⟨p1, p4, T, U, m, r, a + 1, f, d0, res, rfl, rfl, I1.tr s2 hT, I1.tr s2 hU, rfl, rfl, I3, by omega, G, h2⟩⟩
        · exact hD' _ _ ⟨rfl, s1.trans s2, .inl ⟨a, d, I3, G.bad a e⟩⟩
    clear q s1
    rintro σ H1 ⟨rfl, s1, q⟩
    -- no
    refine ⟨_, rfl, _, rfl, _, rfl, _, rfl, _, rfl, ?_⟩
    rcases q with ⟨i, d', I1, kE⟩ | ⟨p1, p4, T, U, m, r, a, f, d0, res, rfl, rfl, hT, hU, rfl, rfl, I1, hn, G, h1⟩
    · refine ⟨X, i, d', false, rfl, I1, fun z => (by cases z), fun _ v H2 d2 I2 s2 => ⟨(by show 6 ≤ sizeLine; omega), fun t ht => ?_⟩, fun z => (by cases z)⟩
      have sx := new_same (o := .tup [V.str "choose", v1, optV o2, optV o3, v4, v]) ht
      exact kE _ _ d2 (I2.same sx) ((s1.trans s2).trans (.of sx))
    · rcases bd_some h1 with ⟨i, h2, e⟩ | ⟨W0, a1, h2, h3⟩
      · refine ⟨X, a, d, true, rfl, I1, fun _ => hn, fun z => (by cases z), fun _ => ⟨f, d0, _, h2, G.e, G.m, fun j e2 v H2 d2 I2 s2 => ⟨(by show 6 ≤ sizeLine; omega), fun t ht => ?_⟩, fun T a1 e2 => (by cases e2)⟩⟩
        cases e2
        have sx := new_same (o := .tup [V.str "choose", .ref p1, .int m, .int r, .ref p4, v]) ht
        exact G.bad i e _ _ d2 (I2.same sx) ((s1.trans s2).trans (.of sx))
      · refine ⟨X, a, d, true, rfl, I1, fun _ => hn, fun z => (by cases z), fun _ => ⟨f, d0, _, h2, G.e, G.m, fun j e2 => (by cases e2), fun T' a' e2 p H2 I2 s2 hV => ⟨(by show 6 ≤ sizeLine; omega), fun t ht => ?_⟩⟩⟩
        cases e2
        have sx := new_same (o := .tup [V.str "choose", .ref p1, .int m, .int r, .ref p4, .ref p]) ht
        exact G.good (.mk (.cho m r) [T, U, W0]) a1 (Option.some.inj h3).symm t _ (I2.same sx) ((s1.trans s2).trans (.of sx)) (.of (T := .mk (.cho m r) [T, U, W0]) (as := [p1, p4, p]) upd_same (.cons ((I1.tr s2 hT).same sx) (.cons ((I1.tr s2 hU).same sx) (.cons (hV.same sx) .nil))))
end
end My

set_option pp.maxSteps 300
set_option Elab.async false
set_option linter.all false
set_option maxRecDepth 100000
set_option maxHeartbeats 1000000
namespace My
open PySem L2 MyR RT
/-! ### what stands in parentheses -/
def spEnc (C cT : Addr) (c : CA) (cC : Addr) (n : Nat) : Sp := fun vs H Q E => ∃ (R : RX) (a d f : Nat) (res : Res), vs = [.ref R.r] ∧ R.C = C ∧ R.At H a d ∧ d ≤ 20 ∧ 20 ≤ d + n ∧ tk R.ws a = wOpen ∧ run R.ws f .atom a d = some res ∧ Out R c cC cT H d res Q E
def spCd (C cT : Addr) (c : CA) (cC : Addr) (n : Nat) : Sp := fun vs H Q E => ∃ (R : RX) (a d f : Nat) (res : Res) (x : List Nat), vs = [.ref R.r, .str (wd x)] ∧ R.C = C ∧ R.At H a d ∧ d ≤ 20 ∧ 20 ≤ d + n ∧ isNm x = true ∧ tk R.ws a = wOpen ∧ (if d = 20 then some (.fail a) else run R.ws f (.args x []) (a + 1) (d + 1)) = some res ∧ Out R c cC cT H d res Q E
def spCall6 (K : PySem.W.Frag) (C : Addr) : Sp := fun vs H Q _ => ∃ (p dx a : Addr) (v : V) (xs : List V), vs = [.ref p, v, .ref a] ∧ H p = some (.ins C dx []) ∧ Arg H v ∧ SqL K H a xs ∧ (nmV v && !xs.isEmpty) = true ∧
  ∀ (t : Addr) H1 H', Same H H1 → H' t = some (.tup xs) → Ini H1 p C dx [("name", v), ("arguments", .ref t)] H' → Q .non H'
theorem none_back {r L : Addr} {H H1 : Hp} {o : HO} (s : SameP r H H1) (hr : H1 r = some o) (h : H1 L = none) : H L = none := by
  cases e : H L with
  | none => rfl
  | some u =>
    have n : L ≠ r := fun q => by
      rw [q, hr] at h
      cases h
    rw [s _ _ e n] at h
    cases h
section
variable {P : Program} {w : World} {K : PySem.W.Frag} {mg : Str → Option Value} {base : Heap}
theorem ok_Call_init6 {f C cI : Addr} {fd : FuncData} (F : Fun K "__init__" "Call.__init__" s_Call_init f fd) (T : Glob mg) (cl : Cls K C) (n0 : NoAttr K C "name") (n1 : NoAttr K C "arguments") (D_is_name : Df P w K mg base 1 "is_name" ["value"] spIsName) : FnOk P w K mg base CX0 2 f fd ["self", "name", "arguments"] (spCall6 K C) := by
  refine F.ok sc_Call_init (fun vs H Q E h => ?_) (fun cdv A outer s H vs Q E hr h => ?_)
  · obtain ⟨p, dx, a, v, xs, rfl, _⟩ := h
    rfl
  · obtain ⟨p, dx, a, v, xs, rfl, hp, ha, hS, hok, k⟩ := h
    have nd := sc_Call_init.nd
    have no : ∀ (H1 : Hp), Same H H1 → (nmV v && !xs.isEmpty) = false → False := fun H1 sm hz => by rw [hok] at hz; cases hz
    refine ⟨_, (pss_cons (ps_if (PW.pt (pw_or (pt_not (pt_val (pe_call D_is_name.ok (hr.mono (by decide)) (by rfl) D_is_name.g D_is_name.kp D_is_name.b .nil pass0 (pa_cons (pv 1) pa_nil)))) (pw_or1 (pt_cmpR op_eq (pe_callB call_len_seq (by rfl) T.g_len PySem.boot_len (pa_cons (pv 2) pa_nil)) pe_int (nomark _)))))
    (pss_one ps_never)
    pss_nil)
    (pss_cons (ps_fld (pv 0) (pv 1) rfl)
    (pss_one (ps_fld (pv 0) (pe_callTy call_tuple_of (by rfl) T.g_tuple (by decide +kernel) (pa_cons (pv 2) pa_nil)) rfl)))), ?_⟩
    refine ⟨_, rfl, v, rfl, ha, fun H1 sm => ⟨_, rfl, ?_⟩⟩
    refine ite2 (fun hz => no H1 sm (by rw [bnot_t hz, Bool.false_and])) (fun hz => ?_)
    have hn := bnot_f hz
    refine ⟨_, rfl, a, _, rfl, .inl (sm.seq hS), rfl, _, rfl, ?_⟩
    refine ite2 (fun hz => no H1 sm ?_) (fun hz => ?_)
    · have := V.int.inj (of_decide_eq_true hz)
      have e : xs = [] := List.length_eq_zero_iff.mp (by omega)
      rw [e, List.isEmpty_nil, Bool.not_true, Bool.and_false]
    refine ⟨_, rfl, _, rfl, p, C, dx, _, rfl, sm _ _ hp, cl, n0, (by show 0 < 1000; decide), ?_⟩
    have sm1 : ∀ b o, H1 b = some o → b ≠ p → (upd H1 p (.ins C dx (putF "name" v []))) b = some o := fun b o e hb => by rw [upd_ne hb]; exact e
    have hS1 : SqL K (upd H1 p (.ins C dx (putF "name" v []))) a xs := by
      rcases sm.seq hS with (h | ⟨o, h⟩) | h
      · exact .inl (.inl (sm1 _ _ h (ne_of h (sm _ _ hp) (by intro z; cases z))))
      · exact .inl (.inr ⟨o, sm1 _ _ h (ne_of h (sm _ _ hp) (by intro z; cases z))⟩)
      · exact .inr h
    refine ⟨_, rfl, a, xs, rfl, .inl ⟨hS1, fun t ht => ?_⟩⟩
    have npt : p ≠ t := ne_of_none upd_same ht
    refine ⟨_, rfl, p, C, dx, _, rfl, by rw [upd_ne npt]; exact upd_same, cl, n1, (by show 1 < 1000; decide), k t H1 _ sm ?_ ⟨?_, fun b o e hb => ?_⟩⟩
    · rw [upd_ne (Ne.symm npt), upd_same]
    · rw [upd_same]
      show some (HO.ins C dx (putF "arguments" (.ref t) (("name", v) :: []))) = _
      rw [putF_ne (by decide +kernel)]
      rfl
    · rw [upd_ne hb, upd_ne (ne_of_none (sm1 b o e hb) ht)]
      exact sm1 b o e hb
abbrev s_Reader_enclosed : Stmt := inClass (top 40) 13
abbrev N_Reader_enclosed : List Str := ["self", "node"]
theorem sc_Reader_enclosed : FnScope N_Reader_enclosed ["self"] (defScope s_Reader_enclosed) := ⟨rfl, rfl, rfl, by decide +kernel, rfl, by decide +kernel, by decide +kernel⟩
theorem ok_Reader_enclosed0 {f C cT cC : Addr} {c : CA} {fd : FuncData} (F : Fun K "enclosed" "Reader.enclosed" s_Reader_enclosed f fd) (C0 : RdC K C) (MO : Mt P w K mg base (L2.CX P w) C 5 "need_open" ["self"] (spOpen C cT)) : FnOk P w K mg base (L2.CX P w) 15 f fd ["self"] (spEnc C cT c cC 0) := by
  refine F.okX (k := 14) sc_Reader_enclosed (fun vs H Q E h => ?_) (fun cdv A outer s H vs Q E hr h => ?_)
  · obtain ⟨R, a, d, g, res, rfl, _⟩ := h
    rfl
  · obtain ⟨R, a, d, g, res, rfl, rfl, I, hd, hn, ho, hrun, kO, kE⟩ := h
    have nd := sc_Reader_enclosed.nd
    refine ⟨_, (pss_cons (ps_expr (pe_meth0 (pv 0) C0.cl MO.m MO.ok (hr.mono (by decide)) MO.b .nil (fun pins σ H s e s' I c => passAt (takes_of rfl rfl rfl rfl) σ pins H s e s' I c)))
    pss_never), ?_⟩
    have e20 : d = 20 := by omega
    cases g with
    | zero => cases hrun
    | succ g =>
    unfold run at hrun
    rw [if_pos ho, if_pos e20] at hrun
    exact ⟨_, rfl, R.r, R.dx, _, rfl, I.o, rfl, R, a, d, rfl, rfl, I, fun q => absurd e20 q, fun _ => kE a (Option.some.inj hrun).symm⟩
theorem ok_Reader_enclosed {f C cT cC : Addr} {c : CA} {fd : FuncData} {n : Nat} (F : Fun K "enclosed" "Reader.enclosed" s_Reader_enclosed f fd) (C0 : RdC K C) (MT : Mt P w K mg base CX0 C 2 "took" ["self", "word"] (spTook C)) (MO : Mt P w K mg base (L2.CX P w) C 5 "need_open" ["self"] (spOpen C cT)) (ME : Mt P w K mg base (L2.CX P w) C 5 "need_close" ["self"] (spClose C cT))
    (MW : Mt P w K mg base (L2.CX P w) C (7 * n + 20) "whole" ["self"] (spJob C cT c cC .sum n)) (MH : Mt P w K mg base (L2.CX P w) C (7 * n + 21) "chosen" ["self"] (spJob C cT c cC .cho n)) : FnOk P w K mg base (L2.CX P w) (7 * n + 22) f fd ["self"] (spEnc C cT c cC (n + 1)) := by
  refine F.okX (k := 7 * n + 21) sc_Reader_enclosed (fun vs H Q E h => ?_) (fun cdv A outer s H vs Q E hr h => ?_)
  · obtain ⟨R, a, d, g, res, rfl, _⟩ := h
    rfl
  · obtain ⟨R, a, d, g, res, rfl, rfl, I, hd, hn, ho, hrun, kO, kE⟩ := h
    have nd := sc_Reader_enclosed.nd
    refine ⟨_, (pss_cons (ps_expr (pe_meth0 (pv 0) C0.cl MO.m MO.ok (hr.mono (by omega)) MO.b .nil (fun pins σ H s e s' I c => passAt (takes_of rfl rfl rfl rfl) σ pins H s e s' I c)))
    (pss_cons (ps_set (i := 1) nd rfl (Or.inl rfl) (pe_ifExp (pt_val (pe_meth (pv 0) C0.cl MT.m MT.ok (hr.mono (by omega)) MT.b .nil pass0 (pa_cons pe_str pa_nil))) (pe_meth0 (pv 0) C0.cl MH.m MH.ok hr MH.b .nil (fun pins σ H s e s' I c => passAt (takes_of rfl rfl rfl rfl) σ pins H s e s' I c)) (pe_meth0 (pv 0) C0.cl MW.m MW.ok (hr.mono (by omega)) MW.b .nil (fun pins σ H s e s' I c => passAt (takes_of rfl rfl rfl rfl) σ pins H s e s' I c))))
    (pss_cons (ps_expr (pe_meth0 (pv 0) C0.cl ME.m ME.ok (hr.mono (by omega)) ME.b .nil (fun pins σ H s e s' I c => passAt (takes_of rfl rfl rfl rfl) σ pins H s e s' I c)))
    (pss_one (ps_ret (pv 1)))))), ?_⟩
    cases g with
    | zero => cases hrun
    | succ g =>
    unfold run at hrun
    rw [if_pos ho] at hrun
    refine seq_by (fun σ H1 => σ = [some (.ref R.r), none] ∧ d ≠ 20 ∧ R.At H1 (a + 1) (d + 1) ∧ SameP R.r H H1) (fun D' hD' => ?_) ?_
    · refine ⟨_, rfl, R.r, R.dx, _, rfl, I.o, rfl, R, a, d, rfl, rfl, I, fun hne _ H1 I1 s1 => hD' _ _ ⟨rfl, hne, I1, s1⟩, fun hz => ?_⟩
      rcases hz with hz | hz
      · rw [if_pos hz] at hrun
        exact kE a (Option.some.inj hrun).symm
      · exact absurd ho hz
    rintro σ H1 ⟨rfl, hne, I1, s1⟩
    rw [if_neg hne] at hrun
    have hd1 : d + 1 ≤ 20 := by omega
    have hn1 : 20 ≤ d + 1 + n := by omega
    refine seq_by (fun σ H3 => ∃ (x : Addr) (T : Tr) (a1 : Nat), σ = [some (.ref R.r), some (.ref x)] ∧ R.At H3 a1 (d + 1) ∧ SameP R.r H H3 ∧ NdAt c cC H3 T x ∧ My.nd R.ws wClose a1 (fun a => some (.ok T a)) = some res) (fun D' hD' => ?_) ?_
    · refine ⟨_, rfl, R.r, R.dx, _, rfl, I1.o, rfl, R, a + 1, d + 1, wIf, vs2 st_if, rfl, I1, by decide, fun z H2 I2 s2 => ⟨_, rfl, iteT ?_⟩, fun z => ⟨_, rfl, iteF ?_⟩⟩
      · rw [if_pos z] at hrun
        rcases bd_some hrun with ⟨i, h1, e⟩ | ⟨T, a1, h1, h2⟩
        · exact ⟨_, rfl, R.r, R.dx, _, rfl, I2.o, rfl, R, a + 1 + 1, d + 1, g, _, rfl, rfl, I2, hd1, hn1, h1, fun T a e => (by cases e), fun j e2 => (by
            cases e2
            exact (kE _ e).mono (s1.trans s2))⟩
        · exact ⟨_, rfl, R.r, R.dx, _, rfl, I2.o, rfl, R, a + 1 + 1, d + 1, g, _, rfl, rfl, I2, hd1, hn1, h1, fun T' a' e2 x H3 I3 s3 hT => (by
            cases e2
            exact hD' _ _ ⟨x, T, a1, rfl, I3, (s1.trans s2).trans s3, hT, h2⟩), fun i e2 => (by cases e2)⟩
      · rw [if_neg z] at hrun
        rcases bd_some hrun with ⟨i, h1, e⟩ | ⟨T, a1, h1, h2⟩
        · exact ⟨_, rfl, R.r, R.dx, _, rfl, I1.o, rfl, R, a + 1, d + 1, g, _, rfl, rfl, I1, hd1, hn1, h1, fun T a e => (by cases e), fun j e2 => (by
            cases e2
            exact (kE _ e).mono s1)⟩
        · exact ⟨_, rfl, R.r, R.dx, _, rfl, I1.o, rfl, R, a + 1, d + 1, g, _, rfl, rfl, I1, hd1, hn1, h1, fun T' a' e2 x H3 I3 s3 hT => (by
            cases e2
            exact hD' _ _ ⟨x, T, a1, rfl, I3, s1.trans s3, hT, h2⟩), fun i e2 => (by cases e2)⟩
    rintro σ H3 ⟨x, T, a1, rfl, I3, s3, hT, h2⟩
    rcases nd_some h2 with ⟨z, e⟩ | ⟨z, e⟩
    · exact ⟨_, rfl, R.r, R.dx, _, rfl, I3.o, rfl, R, a1, d, rfl, rfl, I3, fun _ H4 I4 s4 => ⟨_, rfl, kO T (a1 + 1) (Option.some.inj e).symm x H4 I4 (s3.trans s4) (I3.nd s4 hT)⟩, fun q => absurd z q⟩
    · exact ⟨_, rfl, R.r, R.dx, _, rfl, I3.o, rfl, R, a1, d, rfl, rfl, I3, fun q => absurd q z, fun _ => (kE a1 e).mono s3⟩
end
end My

set_option pp.maxSteps 300
set_option Elab.async false
set_option linter.all false
set_option maxRecDepth 100000
set_option maxHeartbeats 1000000
namespace My
open PySem L2 MyR RT
/-! ### calls -/
section
variable {P : Program} {w : World} {K : PySem.W.Frag} {mg : Str → Option Value} {base : Heap}
abbrev s_Reader_called : Stmt := inClass (top 40) 12
abbrev N_Reader_called : List Str := ["self", "name", "arguments"]
theorem sc_Reader_called : FnScope N_Reader_called ["self", "name"] (defScope s_Reader_called) := ⟨rfl, rfl, rfl, by decide +kernel, rfl, by decide +kernel, by decide +kernel⟩
theorem ok_Reader_called0 {f C cT cC : Addr} {c : CA} {fd : FuncData} (F : Fun K "called" "Reader.called" s_Reader_called f fd) (C0 : RdC K C) (MO : Mt P w K mg base (L2.CX P w) C 5 "need_open" ["self"] (spOpen C cT)) : FnOk P w K mg base (L2.CX P w) 15 f fd ["self", "name"] (spCd C cT c cC 0) := by
  refine F.okX (k := 14) sc_Reader_called (fun vs H Q E h => ?_) (fun cdv A outer s H vs Q E hr h => ?_)
  · obtain ⟨R, a, d, g, res, x, rfl, _⟩ := h
    rfl
  · obtain ⟨R, a, d, g, res, x, rfl, rfl, I, hd, hn, hx, ho, hrun, kO, kE⟩ := h
    have nd := sc_Reader_called.nd
    refine ⟨_, (pss_cons (ps_expr (pe_meth0 (pv 0) C0.cl MO.m MO.ok (hr.mono (by decide)) MO.b .nil (fun pins σ H s e s' I c => passAt (takes_of rfl rfl rfl rfl) σ pins H s e s' I c)))
    pss_never), ?_⟩
    have e20 : d = 20 := by omega
    rw [if_pos e20] at hrun
    exact ⟨_, rfl, R.r, R.dx, _, rfl, I.o, rfl, R, a, d, rfl, rfl, I, fun q => absurd e20 q, fun _ => kE a (Option.some.inj hrun).symm⟩
/-- behind an argument -/
def argR (ws : List (List Nat)) (g : Nat) (x : List Nat) (as : List Tr) (b d : Nat) : Option Res := if tk ws b = wComma then run ws g (.args x as) (b + 1) d else nd ws wClose b fun a => some (.ok (.mk (.call x) as) a)
theorem args_some {ws : List (List Nat)} {g a d : Nat} {x : List Nat} {as : List Tr} {r : Res} (h : run ws g (.args x as) a d = some r) : ∃ g1 r1, run ws g1 .sum a d = some r1 ∧ (∀ i, r1 = .fail i → r = .fail i) ∧ ∀ T b, r1 = .ok T b → argR ws g1 x (as ++ [T]) b d = some r := by
  cases g with
  | zero => cases h
  | succ g =>
  rcases bd_some (show bd (run ws g .sum a d) (fun T a => if tk ws a = wComma then run ws g (.args x (as ++ [T])) (a + 1) d else nd ws wClose a fun a => some (.ok (.mk (.call x) (as ++ [T])) a)) = some r from h) with ⟨i, h1, e2⟩ | ⟨T, a1, h1, h2⟩
  · exact ⟨g, _, h1, fun j q => (by cases q; exact e2), fun T b q => (by cases q)⟩
  · exact ⟨g, _, h1, fun j q => (by cases q), fun T' b q => (by cases q; exact h2)⟩
theorem ok_Reader_called {f C cT cC : Addr} {c : CA} {fd : FuncData} {n : Nat} (F : Fun K "called" "Reader.called" s_Reader_called f fd) (C0 : RdC K C) (CC : Mo P w K mg base CX0 2 "Call" cC ["self", "name", "arguments"] (spCall6 K cC)) (MT : Mt P w K mg base CX0 C 2 "took" ["self", "word"] (spTook C)) (MO : Mt P w K mg base (L2.CX P w) C 5 "need_open" ["self"] (spOpen C cT)) (ME : Mt P w K mg base (L2.CX P w) C 5 "need_close" ["self"] (spClose C cT))
    (MW : Mt P w K mg base (L2.CX P w) C (7 * n + 20) "whole" ["self"] (spJob C cT c cC .sum n)) : FnOk P w K mg base (L2.CX P w) (7 * n + 22) f fd ["self", "name"] (spCd C cT c cC (n + 1)) := by
  refine F.okX (k := 7 * n + 21) sc_Reader_called (fun vs H Q E h => ?_) (fun cdv A outer s H vs Q E hr h => ?_)
  · obtain ⟨R, a, d, g, res, x, rfl, _⟩ := h
    rfl
  · obtain ⟨R, a, d, g, res, x, rfl, rfl, I, hd, hn, hx, ho, hrun, kO, kE⟩ := h
    have nd := sc_Reader_called.nd
    refine ⟨_, (pss_cons (ps_expr (pe_meth0 (pv 0) C0.cl MO.m MO.ok (hr.mono (by omega)) MO.b .nil (fun pins σ H s e s' I c => passAt (takes_of rfl rfl rfl rfl) σ pins H s e s' I c)))
    (pss_cons (ps_set (i := 2) nd rfl (Or.inl rfl) (pe_lst (pa_cons (pe_meth0 (pv 0) C0.cl MW.m MW.ok (hr.mono (by omega)) MW.b .nil (fun pins σ H s e s' I c => passAt (takes_of rfl rfl rfl rfl) σ pins H s e s' I c)) pa_nil)))
    (pss_cons (ps_while (passes_of rfl) (pt_val (pe_meth (pv 0) C0.cl MT.m MT.ok (hr.mono (by omega)) MT.b .nil pass0 (pa_cons pe_str pa_nil)))
    (pss_one (ps_expr (pe_bm PySem.F.plainAttrs_list PySem.F.slot_list_append PySem.F.type_list_append mt_append (pv 2) (pa_cons (pe_meth0 (pv 0) C0.cl MW.m MW.ok (hr.mono (by omega)) MW.b .nil (fun pins σ H s e s' I c => passAt (takes_of rfl rfl rfl rfl) σ pins H s e s' I c)) pa_nil)))))
    (pss_cons (ps_expr (pe_meth0 (pv 0) C0.cl ME.m ME.ok (hr.mono (by omega)) ME.b .nil (fun pins σ H s e s' I c => passAt (takes_of rfl rfl rfl rfl) σ pins H s e s' I c)))
    (pss_one (ps_ret (pe_make CC.m CC.ok (hr.mono (by omega)) (by rfl) CC.g CC.b .nil pass0 (pa_cons (pv 1) (pa_cons (pv 2) pa_nil))))))))), ?_⟩
    have zl' : 16777216 = sizeLine := sizeLine_eq.symm
    refine seq_by (fun σ H1 => σ = [some (.ref R.r), some (.str (wd x)), none] ∧ d ≠ 20 ∧ R.At H1 (a + 1) (d + 1) ∧ SameP R.r H H1) (fun D' hD' => ?_) ?_
    · refine ⟨_, rfl, R.r, R.dx, _, rfl, I.o, rfl, R, a, d, rfl, rfl, I, fun hne _ H1 I1 s1 => hD' _ _ ⟨rfl, hne, I1, s1⟩, fun hz => ?_⟩
      rcases hz with hz | hz
      · rw [if_pos hz] at hrun
        exact kE a (Option.some.inj hrun).symm
      · exact absurd ho hz
    rintro σ H1 ⟨rfl, hne, I1, s1⟩
    rw [if_neg hne] at hrun
    have hd1 : d + 1 ≤ 20 := by omega
    have hn1 : 20 ≤ d + 1 + n := by omega
    have hnl : x.length ≤ 100 := by
      have := nm_len (z := x) hx
      omega
    refine seq_by (fun σ H2 => ∃ (L : Addr) (as : List Tr) (xs : List Addr) (b g1 : Nat), σ = [some (.ref R.r), some (.str (wd x)), some (.ref L)] ∧ H L = none ∧ L ≠ R.L ∧ R.At H2 b (d + 1) ∧ SameP R.r H H2 ∧ H2 L = some (.lst (xs.map V.ref)) ∧ All2 (NdAt c cC H2) as xs ∧ xs ≠ [] ∧ xs.length ≤ b ∧ b ≤ R.ws.length ∧ argR R.ws g1 x as b (d + 1) = some res) (fun D' hD' => ?_) ?_
    · obtain ⟨g1, r1, h1, f1, f2⟩ := args_some hrun
      refine ⟨_, rfl, R.r, R.dx, _, rfl, I1.o, rfl, R, a + 1, d + 1, g1, r1, rfl, rfl, I1, hd1, hn1, h1, fun T b e x1 H2 I2 s2 hT => ?_, fun i e => (kE i (f1 i e)).mono s1⟩
      have s12 := s1.trans s2
      obtain ⟨q1, q2⟩ := run_ge _ _ _ _ _ _ _ (e ▸ h1)
      refine ⟨(by show 1 ≤ sizeLine; omega), fun L hL => ?_⟩
      have st := new_same (o := .lst [V.ref x1]) hL
      have hLn := none_back s12 I2.o hL
      refine hD' _ _ ⟨L, [] ++ [T], [x1], b, g1, rfl, hLn, fun q => ?_, I2.same st, s12.trans (.of st), upd_same, .cons (hT.stay (.of st)) .nil, List.cons_ne_nil _ _, ?_, q2 (.inr rfl), f2 T b e⟩
      · rw [q, I2.l] at hL
        cases hL
      · have q1 : a + 1 + 1 ≤ b := q1
        show 1 ≤ b
        omega
    rintro σ H2 ⟨L, as, xs, b, g1, rfl, hLn, hLL, I2, s2, hL2, hA2, hx2, hl2, hb2, hr2⟩
    have nLr : L ≠ R.r := fun e => by
      have := I.o
      rw [← e, hLn] at this
      cases this
    refine seq_by (fun σ H3 => ∃ (as : List Tr) (xs : List Addr) (b : Nat), σ = [some (.ref R.r), some (.str (wd x)), some (.ref L)] ∧ R.At H3 b (d + 1) ∧ SameP R.r H H3 ∧ H3 L = some (.lst (xs.map V.ref)) ∧ All2 (NdAt c cC H3) as xs ∧ xs ≠ [] ∧ My.nd R.ws wClose b (fun a => some (.ok (.mk (.call x) as) a)) = some res) (fun D' hD' => ?_) ?_
    · refine while_by (fun σ H2 => ∃ (as : List Tr) (xs : List Addr) (b g1 : Nat), σ = [some (.ref R.r), some (.str (wd x)), some (.ref L)] ∧ R.At H2 b (d + 1) ∧ SameP R.r H H2 ∧ H2 L = some (.lst (xs.map V.ref)) ∧ All2 (NdAt c cC H2) as xs ∧ xs ≠ [] ∧ xs.length ≤ b ∧ b ≤ R.ws.length ∧ argR R.ws g1 x as b (d + 1) = some res) (fun _ H2 => 2000 - atOf (H2 R.r)) ⟨as, xs, b, g1, rfl, I2, s2, hL2, hA2, hx2, hl2, hb2, hr2⟩ ?_ ?_
      · clear I2 s2 hL2 hA2 hx2 hl2 hb2 hr2
        rintro σ H2 ⟨as, xs, b, g1, rfl, I2, s2, hL2, hA2, hx2, hl2, hb2, hr2⟩
        have kn := I2.k.n
        unfold argR at hr2
        refine ⟨_, rfl, R.r, R.dx, _, rfl, I2.o, rfl, R, b, d + 1, wComma, vs2 st_comma, rfl, I2, by decide, fun z H3 I3 s3 => ⟨_, rfl, iteT ?_⟩, fun z => ⟨_, rfl, iteF ?_⟩⟩
        · rw [if_pos z] at hr2
          have hlt := tk_lt z (by decide)
          have s23 := s2.trans s3
          have hL3 := s3 _ _ hL2 nLr
          have hA3 := hA2.imp fun T a q => I2.nd s3 q
          obtain ⟨g2, r1, h1, f1, f2⟩ := args_some hr2
          refine ⟨_, rfl, .inl ⟨rfl, _, SqL.of hL3⟩, _, rfl, R.r, R.dx, _, rfl, I3.o, rfl, R, b + 1, d + 1, g2, r1, rfl, rfl, I3, hd1, hn1, h1, fun T b2 e x1 H4 I4 s4 hT => ?_, fun i e => (kE i (f1 i e)).mono s23⟩
          obtain ⟨q1, q2⟩ := run_ge _ _ _ _ _ _ _ (e ▸ h1)
          have q2 := q2 (.inr rfl)
          have q1 : b + 1 + 1 ≤ b2 := q1
          have hL4 := s4 _ _ hL3 nLr
          have hA4 := hA3.imp fun T a q => I3.nd s4 q
          refine ⟨L, _, _, rfl, rfl, hL4, by rw [List.length_map]; omega, ?_⟩
          have I5 := I4.updL (vs := xs.map V.ref ++ [V.ref x1]) hL4 hLL
          refine ⟨⟨as ++ [T], xs ++ [x1], b2, g2, rfl, I5, ?_, ?_, ?_, ?_, ?_, q2, f2 T b2 e⟩, ?_⟩
          · intro p o e n
            rw [upd_ne (ne_of_none e hLn)]
            exact s4 _ _ (s23 _ _ e n) n
          · rw [upd_same, List.map_append]
            rfl
          · exact (hA4.imp fun T a q => q.updL hL4).app (.cons (hT.updL hL4) .nil)
          · intro z
            cases xs <;> cases z
          · rw [List.length_append, List.length_singleton]
            omega
          · rw [I5.of, I2.of]
            omega
        · rw [if_neg z] at hr2
          exact hD' _ _ ⟨as, xs, b, rfl, I2, s2, hL2, hA2, hx2, hr2⟩
      · intro σ H2 Q1 Q2 hq hc
        obtain ⟨y, e1, b, dx, fs, e2, e3, e4, R', a', d', w', e5, e6, e7, e8, k1, k2⟩ := hc
        refine ⟨y, e1, b, dx, fs, e2, e3, e4, R', a', d', w', e5, e6, e7, e8, fun z H' I' s' => ?_, fun z => ?_⟩
        · obtain ⟨p, f1, f2⟩ := k1 z H' I' s'
          exact ⟨p, f1, hq _ _ f2⟩
        · obtain ⟨p, f1, f2⟩ := k2 z
          exact ⟨p, f1, hq _ _ f2⟩
    clear I2 s2 hL2 hA2 hx2 hl2 hb2 hr2
    rintro σ H3 ⟨as, xs, b, rfl, I3, s3, hL3, hA3, hx3, h3⟩
    refine seq_by (fun σ H4 => ∃ b2, σ = [some (.ref R.r), some (.str (wd x)), some (.ref L)] ∧ R.At H4 b2 d ∧ SameP R.r H H4 ∧ H4 L = some (.lst (xs.map V.ref)) ∧ All2 (NdAt c cC H4) as xs ∧ res = .ok (.mk (.call x) as) b2) (fun D' hD' => ?_) ?_
    · rcases nd_some h3 with ⟨z, e⟩ | ⟨z, e⟩
      · exact ⟨_, rfl, R.r, R.dx, _, rfl, I3.o, rfl, R, b, d, rfl, rfl, I3, fun _ H4 I4 s4 => hD' _ _ ⟨b + 1, rfl, I4, s3.trans s4, s4 _ _ hL3 nLr, hA3.imp fun T a q => I3.nd s4 q, (Option.some.inj e).symm⟩, fun q => absurd z q⟩
      · exact ⟨_, rfl, R.r, R.dx, _, rfl, I3.o, rfl, R, b, d, rfl, rfl, I3, fun q => absurd q z, fun _ => (kE b e).mono s3⟩
    rintro σ H4 ⟨b2, rfl, I4, s4, hL4, hA4, e⟩
    refine ⟨_, rfl, _, rfl, fun x3 dx3 hx3' hdx hne => ?_⟩
    refine ⟨x3, dx3, L, .str (wd x), xs.map V.ref, rfl, upd_same, .str _ (by rw [wd_len]; omega), SqL.of (by rw [upd_ne (ne_of_none hL4 hx3'), upd_ne (ne_of_none hL4 hdx)]; exact hL4), ?_, fun u H5 H' sm hu5 ini => ?_⟩
    · have h1 : nmV (.str (wd x)) = true := hx
      rw [h1, Bool.true_and]
      cases xs with
      | nil => exact absurd rfl hx3
      | cons a b => rfl
    · obtain ⟨t1, t2⟩ := mk_done hx3' hdx sm ini
      exact ⟨rfl, kO _ b2 e x3 H' (I4.same t1) (s4.trans (.of t1)) (.of (as := xs) (holds_call ⟨dx3, u, t2, hu5⟩) (hA4.imp fun T a h => NdAt.stay (.of t1) h))⟩
end
end My

set_option pp.maxSteps 300
set_option Elab.async false
set_option linter.all false
set_option maxRecDepth 100000
set_option maxHeartbeats 1000000
namespace My
open PySem L2 MyR RT
/-! ### what the law reads: numbers, names, calls -/
def spPrevC : Nat → Sp
  | 0 => spNo
  | n + 1 => spLch n
theorem prevC_lt {n a l : Nat} (h1 : l ≤ a + n) (h2 : a < l) : ∃ m, n = m + 1 ∧ spPrevC n = spLch m ∧ spPrev .sum n = spLj .sum m := by
  cases n with
  | zero => omega
  | succ m => exact ⟨m, rfl, rfl, rfl⟩
def spIntL : Sp := fun vs H Q _ => ∃ s : Str, vs = [.str s] ∧ s.length ≤ 1000 ∧ PyData.strOk s = true ∧ ∀ H', Same H H' → Q (optV (intV (TL.tl s))) H'
def spNmL : Sp := fun vs H Q _ => ∃ s : Str, vs = [.str s] ∧ s.length ≤ 1000 ∧ ∀ H', Same H H' → Q (.bl (isNm (TL.tl s))) H'
theorem close_good {X : LX} {H2 : Hp} {a : Nat} {d : Int} {f : Nat → Option Res} {res : Res} (I2 : X.At H2 (up1 a (fw X.ws wClose a true)) (d + 1 - 1) (fw X.ws wClose a true)) (h : nd X.ws wClose a f = some res) : (f (a + 1) = some res ∧ X.At H2 (a + 1) d true) ∨ (res = .fail a ∧ X.At H2 a d false) := by
  rw [show d + 1 - 1 = d by omega] at I2
  exact take_good I2 h
theorem LX.At.updL {X : LX} {H : Hp} {a : Nat} {d : Int} {b : Bool} {W : Addr} {us vs : List V} (I : X.At H a d b) (hW : H W = some (.lst us)) (n : W ≠ X.L) : X.At (upd H W (.lst vs)) a d b :=
  ⟨upd_keep I.o (ne_of I.o hW (by intro z; cases z)), upd_keep I.l (Ne.symm n), I.k, I.s⟩
theorem TrAt.updL {H : Hp} {T : Tr} {p W : Addr} {us vs : List V} (h : TrAt H T p) (hW : H W = some (.lst us)) : TrAt (upd H W (.lst vs)) T p :=
  h.map fun q xs e => by rw [upd_ne (ne_of e hW (by intro z; cases z))]; exact e
section
variable {P : Program} {w : World} {K : PySem.W.Frag} {mg : Str → Option Value} {base : Heap}
abbrev s_law_atom : Stmt := top 61
abbrev N_law_atom : List Str := ["_law_reading", "_law_word", "_law_term", "_law_parts"]
theorem sc_law_atom : FnScope N_law_atom ["_law_reading"] (defScope s_law_atom) := ⟨rfl, rfl, rfl, by decide +kernel, rfl, by decide +kernel, by decide +kernel⟩
theorem ok_law_atom {f : Addr} {fd : FuncData} {n : Nat} (F : Fun K "_law_atom" "_law_atom" s_law_atom f fd) (T0 : Glob mg) (D_law_next : Df P w K mg base 1 "_law_next" ["_law_reading"] spLn) (D_law_open : Df P w K mg base 3 "_law_open" ["_law_reading"] spLo) (D_law_close : Df P w K mg base 3 "_law_close" ["_law_reading"] spLc) (D_law_integer : Df P w K mg base 2 "_law_integer" ["_law_word"] spIntL) (D_law_is_name : Df P w K mg base 1 "_law_is_name" ["_law_word"] spNmL)
    (D_sum : Df P w K mg base (5 * n + 4) "_law_sum" ["_law_reading"] (spPrev .sum n)) (D_cho : Df P w K mg base (5 * n + 5) "_law_choice" ["_law_reading"] (spPrevC n)) : FnOk P w K mg base CX0 (5 * n + 6) f fd ["_law_reading"] (spLj .atom n) := by
  refine F.ok (k := 5 * n + 5) sc_law_atom (fun vs H Q E h => ?_) (fun cdv A outer s H vs Q E hr h => ?_)
  · obtain ⟨X, a, d, b, rfl, _⟩ := h
    rfl
  · obtain ⟨X, a, d, b, rfl, I, hn, kF, kT⟩ := h
    have nd := sc_law_atom.nd
    have hu := hu_of hr
    refine ⟨_, (pss_cons (ps_set (i := 1) nd rfl (Or.inl rfl) (pe_call D_law_next.ok (hr.mono (by omega)) (by rfl) D_law_next.g D_law_next.kp D_law_next.b .nil pass0 (pa_cons (pv 0) pa_nil)))
    (pss_cons (ps_if (pt_not (pt_val (pe_dget hu (pv 0) pe_str (fun _ _ => rfl))))
    (pss_one (ps_ret (pe_tup (pa_cons pe_str (pa_cons pe_int pa_nil)))))
    pss_nil)
    (pss_cons (ps_if (pt_cmpR op_eq (pv 1) pe_str (nomark _))
    (pss_cons (ps_expr (pe_call D_law_open.ok (hr.mono (by omega)) (by rfl) D_law_open.g D_law_open.kp D_law_open.b .nil pass0 (pa_cons (pv 0) pa_nil)))
    (pss_cons (ps_set (i := 2) nd rfl (Or.inl rfl) (pe_ifExp (pt_cmpR op_eq (pe_call D_law_next.ok (hr.mono (by omega)) (by rfl) D_law_next.g D_law_next.kp D_law_next.b .nil pass0 (pa_cons (pv 0) pa_nil)) pe_str (nomark _)) (pe_call D_cho.ok hr (by rfl) D_cho.g D_cho.kp D_cho.b .nil pass0 (pa_cons (pv 0) pa_nil)) (pe_call D_sum.ok (hr.mono (by omega)) (by rfl) D_sum.g D_sum.kp D_sum.b .nil pass0 (pa_cons (pv 0) pa_nil))))
    (pss_cons (ps_expr (pe_call D_law_close.ok (hr.mono (by omega)) (by rfl) D_law_close.g D_law_close.kp D_law_close.b .nil pass0 (pa_cons (pv 0) pa_nil)))
    (pss_one (ps_ret (pv 2))))))
    pss_nil)
    (pss_cons (ps_if (PW.pt (pw_and (pt_cmpR op_isN (pe_call D_law_integer.ok (hr.mono (by omega)) (by rfl) D_law_integer.g D_law_integer.kp D_law_integer.b .nil pass0 (pa_cons (pv 1) pa_nil)) pe_non (nomark _)) (pw_and1 (pt_not (pt_val (pe_call D_law_is_name.ok (hr.mono (by omega)) (by rfl) D_law_is_name.g D_law_is_name.kp D_law_is_name.b .nil pass0 (pa_cons (pv 1) pa_nil)))))))
    (pss_cons (ps_dput hu (pv 0) pe_str pe_bl rfl)
    (pss_one (ps_ret (pe_tup (pa_cons pe_str (pa_cons pe_int pa_nil))))))
    pss_nil)
    (pss_cons (ps_dput hu (pv 0) pe_str (pe_op op_add (pe_dget hu (pv 0) pe_str (fun _ _ => rfl)) pe_int) rfl)
    (pss_cons (ps_if (pt_cmpR op_notN (pe_call D_law_integer.ok (hr.mono (by omega)) (by rfl) D_law_integer.g D_law_integer.kp D_law_integer.b .nil pass0 (pa_cons (pv 1) pa_nil)) pe_non (nomark _))
    (pss_one (ps_ret (pe_tup (pa_cons pe_str (pa_cons (pe_call D_law_integer.ok (hr.mono (by omega)) (by rfl) D_law_integer.g D_law_integer.kp D_law_integer.b .nil pass0 (pa_cons (pv 1) pa_nil)) pa_nil)))))
    pss_nil)
    (pss_cons (ps_if (pt_cmpR op_ne (pe_call D_law_next.ok (hr.mono (by omega)) (by rfl) D_law_next.g D_law_next.kp D_law_next.b .nil pass0 (pa_cons (pv 0) pa_nil)) pe_str (nomark _))
    (pss_one (ps_ret (pe_tup (pa_cons pe_str (pa_cons (pv 1) pa_nil)))))
    pss_nil)
    (pss_cons (ps_expr (pe_call D_law_open.ok (hr.mono (by omega)) (by rfl) D_law_open.g D_law_open.kp D_law_open.b .nil pass0 (pa_cons (pv 0) pa_nil)))
    (pss_cons (ps_set (i := 3) nd rfl (Or.inl rfl) (pe_lst (pa_cons (pe_call D_sum.ok (hr.mono (by omega)) (by rfl) D_sum.g D_sum.kp D_sum.b .nil pass0 (pa_cons (pv 0) pa_nil)) pa_nil)))
    (pss_cons (ps_while PassesOwn.never (PW.pt (pw_and (pt_val (pe_dget hu (pv 0) pe_str (fun _ _ => rfl))) (pw_and1 (pt_cmpR op_eq (pe_call D_law_next.ok (hr.mono (by omega)) (by rfl) D_law_next.g D_law_next.kp D_law_next.b .nil pass0 (pa_cons (pv 0) pa_nil)) pe_str (nomark _)))))
    (pss_cons (ps_dput hu (pv 0) pe_str (pe_op op_add (pe_dget hu (pv 0) pe_str (fun _ _ => rfl)) pe_int) rfl)
    (pss_one (ps_expr (pe_bm PySem.F.plainAttrs_list PySem.F.slot_list_append PySem.F.type_list_append mt_append (pv 3) (pa_cons (pe_call D_sum.ok (hr.mono (by omega)) (by rfl) D_sum.g D_sum.kp D_sum.b .nil pass0 (pa_cons (pv 0) pa_nil)) pa_nil))))))
    (pss_cons (ps_expr (pe_call D_law_close.ok (hr.mono (by omega)) (by rfl) D_law_close.g D_law_close.kp D_law_close.b .nil pass0 (pa_cons (pv 0) pa_nil)))
    (pss_one (ps_ret (pe_tup (pa_cons pe_str (pa_cons (pv 1) (pa_cons (pe_callTy call_tuple_of (by rfl) T0.g_tuple (by decide +kernel) (pa_cons (pv 3) pa_nil)) pa_nil))))))))))))))))), ?_⟩
    have zl' : 16777216 = sizeLine := sizeLine_eq.symm
    refine seq_by (fun σ H1 => σ = [some (.ref X.D), some (.str (wd (lk X.ws a))), none, none] ∧ H = H1) (fun D' hD' => ?_) ?_
    · exact ⟨_, rfl, X, a, d, b, rfl, I, hD' _ _ ⟨rfl, rfl⟩⟩
    rintro σ H1 ⟨rfl, rfl⟩
    -- fine?
    refine seq_rt (fun σ H2 => σ = [some (.ref X.D), some (.str (wd (lk X.ws a))), none, none] ∧ H = H2 ∧ b = true) (fun nx' hnx => ?_) ?_
    · refine ⟨_, rfl, X.D, _, rfl, I.fine, _, rfl, ?_⟩
      cases b with
      | true => exact iteF (hnx _ _ ⟨rfl, rfl, rfl⟩)
      | false =>
        refine iteT ⟨(by show 2 ≤ sizeLine; omega), fun t ht => ?_⟩
        have sx := new_same (o := .tup [V.str "number", .int 0]) ht
        exact kF rfl _ _ d (I.same sx) (SameP.of sx)
    rintro σ H2 ⟨rfl, rfl, rfl⟩
    obtain ⟨f, d0, res, hr0, G⟩ := kT rfl
    have hn := hn rfl
    clear kF kT
    cases f with
    | zero => cases hr0
    | succ f =>
    unfold run at hr0
    have hd20 : ∀ k : Nat, k ≤ 20 → (decide ((k : Int) < 20) = true ↔ k ≠ 20) := fun k hk => ⟨fun q => by
      have := of_decide_eq_true q
      omega, fun q => decide_eq_true (by omega)⟩
    -- parentheses
    refine seq_rt (fun σ H2 => σ = [some (.ref X.D), some (.str (wd (lk X.ws a))), none, none] ∧ H = H2 ∧ tk X.ws a ≠ wOpen) (fun nx' hnx => ?_) ?_
    · refine ⟨_, rfl, rfl, _, rfl, ?_⟩
      rw [st_lk2 _ _ st_open (by decide) (by decide)]
      refine ite2 (fun z => ?_) (fun z => hnx _ _ ⟨rfl, rfl, fun q => z (decide_eq_true q)⟩)
      have z : tk X.ws a = wOpen := of_decide_eq_true z
      have hlt := tk_lt z (by decide)
      obtain ⟨m, em, ec, es⟩ := prevC_lt hn hlt
      rw [if_pos z] at hr0
      refine seq_by (fun σ H2 => σ = [some (.ref X.D), some (.str (wd (lk X.ws a))), none, none] ∧ SameP X.D H H2 ∧ (Bad X H Q H2 ∨ (d0 ≠ 20 ∧ X.At H2 (a + 1) (d + 1) true))) (fun D' hD' => ?_) ?_
      · refine ⟨_, rfl, X, a, d, true, rfl, I, fun H2 I2 s2 => ?_⟩
        by_cases e20 : d0 = 20
        · rw [if_pos e20] at hr0
          rw [show fw X.ws wOpen a (true && decide (d < 20)) = false from by rw [G.e, e20]; rfl] at I2
          exact hD' _ _ ⟨rfl, s2, .inl ⟨a, d + 1, I2, G.bad a (Option.some.inj hr0).symm⟩⟩
        · rw [show fw X.ws wOpen a (true && decide (d < 20)) = true from by
            unfold fw
            rw [G.e, (hd20 d0 G.m).mpr e20, decide_eq_true z]
            rfl] at I2
          exact hD' _ _ ⟨rfl, s2, .inr ⟨e20, I2⟩⟩
      rintro σ H2 ⟨rfl, s2, q⟩
      refine seq_by (fun σ H3 => ∃ v, σ = [some (.ref X.D), some (.str (wd (lk X.ws a))), some v, none] ∧ SameP X.D H H3 ∧ (Bad X H Q H3 ∨ ∃ (p : Addr) (T : Tr) (a1 : Nat), v = .ref p ∧ TrAt H3 T p ∧ X.At H3 a1 (d + 1) true ∧ My.nd X.ws wClose a1 (fun a => some (.ok T a)) = some res)) (fun D' hD' => ?_) ?_
      · rcases q with ⟨i, d', I2, kE⟩ | ⟨e20, I2⟩
        · refine ⟨_, rfl, X, i, d', false, rfl, I2, rfl, _, rfl, ?_⟩
          refine ite2 (fun _ => ?_) (fun _ => ?_)
          · refine ⟨_, rfl, ?_⟩
            rw [ec]
            exact ⟨X, i, d', false, rfl, I2, fun z => (by cases z), fun _ v H3 d2 I3 s3 => hD' _ _ ⟨v, rfl, s2.trans s3, .inl ⟨i, d2, I3, kE⟩⟩, fun z => (by cases z)⟩
          · refine ⟨_, rfl, ?_⟩
            rw [es]
            exact ⟨X, i, d', false, rfl, I2, fun z => (by cases z), fun _ v H3 d2 I3 s3 => hD' _ _ ⟨v, rfl, s2.trans s3, .inl ⟨i, d2, I3, kE⟩⟩, fun z => (by cases z)⟩
        · rw [if_neg e20] at hr0
          have hd1 : d + 1 = ((d0 + 1 : Nat) : Int) := by rw [G.e]; rfl
          have hm1 : d0 + 1 ≤ 20 := by have := G.m; omega
          refine ⟨_, rfl, X, a + 1, d + 1, true, rfl, I2, rfl, _, rfl, ?_⟩
          rw [st_lk2 _ _ st_if (by decide) (by decide)]
          refine ite2 (fun z2 => ?_) (fun z2 => ?_)
          · have z2 : tk X.ws (a + 1) = wIf := of_decide_eq_true z2
            rw [if_pos z2] at hr0
            refine ⟨_, rfl, ?_⟩
            rw [ec]
            rcases bd_some hr0 with ⟨i, h2, e⟩ | ⟨T, a1, h2, h3⟩
            · exact ⟨X, a + 1, d + 1, true, rfl, I2, fun _ => (by omega), fun z => (by cases z), fun _ => ⟨z2, f, d0 + 1, _, h2, hd1, hm1, fun j e2 v H3 d2 I3 s3 => (by
                cases e2
                exact hD' _ _ ⟨v, rfl, s2.trans s3, .inl ⟨i, d2, I3, G.bad i e⟩⟩), fun T a1 e2 => (by cases e2)⟩⟩
            · exact ⟨X, a + 1, d + 1, true, rfl, I2, fun _ => (by omega), fun z => (by cases z), fun _ => ⟨z2, f, d0 + 1, _, h2, hd1, hm1, fun j e2 => (by cases e2), fun T' a' e2 p H3 I3 s3 hT => (by
                cases e2
                exact hD' _ _ ⟨_, rfl, s2.trans s3, .inr ⟨p, T, a1, rfl, hT, I3, h3⟩⟩)⟩⟩
          · rw [if_neg (fun q => z2 (decide_eq_true q))] at hr0
            refine ⟨_, rfl, ?_⟩
            rw [es]
            rcases bd_some hr0 with ⟨i, h2, e⟩ | ⟨T, a1, h2, h3⟩
            · exact ⟨X, a + 1, d + 1, true, rfl, I2, fun _ => (by omega), fun z => (by cases z), fun _ => ⟨f, d0 + 1, _, h2, hd1, hm1, fun j e2 v H3 d2 I3 s3 => (by
                cases e2
                exact hD' _ _ ⟨v, rfl, s2.trans s3, .inl ⟨i, d2, I3, G.bad i e⟩⟩), fun T a1 e2 => (by cases e2)⟩⟩
            · exact ⟨X, a + 1, d + 1, true, rfl, I2, fun _ => (by omega), fun z => (by cases z), fun _ => ⟨f, d0 + 1, _, h2, hd1, hm1, fun j e2 => (by cases e2), fun T' a' e2 p H3 I3 s3 hT => (by
                cases e2
                exact hD' _ _ ⟨_, rfl, s2.trans s3, .inr ⟨p, T, a1, rfl, hT, I3, h3⟩⟩)⟩⟩
      rintro σ H3 ⟨v, rfl, s3, q⟩
      rcases q with ⟨i, d', I3, kE⟩ | ⟨p, T, a1, rfl, hT, I3, h3⟩
      · exact ⟨_, rfl, X, i, d', false, rfl, I3, fun H4 I4 s4 => ⟨_, rfl, kE v H4 _ I4 (s3.trans s4)⟩⟩
      · refine ⟨_, rfl, X, a1, d + 1, true, rfl, I3, fun H4 I4 s4 => ?_⟩
        rcases close_good I4 h3 with ⟨e, I5⟩ | ⟨e, I5⟩
        · exact ⟨_, rfl, G.good T (a1 + 1) (Option.some.inj e).symm p H4 I5 (s3.trans s4) (I3.tr s4 hT)⟩
        · exact ⟨_, rfl, G.bad a1 e _ H4 d I5 (s3.trans s4)⟩
    rintro σ H2 ⟨rfl, rfl, ho⟩
    rw [if_neg ho] at hr0
    have hlen : (wd (lk X.ws a)).length ≤ 1000 := by
      rw [wd_len]
      have := nx_len I.k a
      omega
    have hok := nx_ok I.s a
    have hiv : intV (TL.tl (wd (lk X.ws a))) = intV (tk X.ws a) := nx_int X.ws a
    have hnv : isNm (TL.tl (wd (lk X.ws a))) = isNm (tk X.ws a) := nx_nm X.ws a
    -- neither a number nor a name
    refine seq_rt (fun σ H3 => σ = [some (.ref X.D), some (.str (wd (lk X.ws a))), none, none] ∧ Same H H3 ∧ (intV (tk X.ws a) = none → isNm (tk X.ws a) = true)) (fun nx' hnx => ?_) ?_
    · refine ⟨_, rfl, _, rfl, hlen, hok, fun H3 s3 => ?_⟩
      rw [hiv]
      cases hv : intV (tk X.ws a) with
      | some z => exact ⟨rfl, _, rfl, iteF (hnx _ _ ⟨rfl, s3, fun q => absurd (hv.symm.trans q) (by intro z; cases z)⟩)⟩
      | none =>
        refine ⟨rfl, _, rfl, iteT ⟨_, rfl, _, rfl, hlen, fun H4 s4 => ⟨_, rfl, ?_⟩⟩⟩
        rw [hnv]
        cases hm : isNm (tk X.ws a) with
        | true => exact iteF (hnx _ _ ⟨rfl, s3.trans s4, fun _ => hm⟩)
        | false =>
          rw [hv] at hr0
          have hr0 : (if isNm (tk X.ws a) = true then if tk X.ws (a + 1) = wOpen then if d0 = 20 then some (.fail (a + 1)) else run X.ws f (.args (tk X.ws a) []) (a + 2) (d0 + 1) else some (.ok (.mk (.nam (tk X.ws a)) []) (a + 1)) else some (.fail a)) = some res := hr0
          rw [if_neg (by rw [hm]; decide)] at hr0
          have I4 := I.same (s3.trans s4)
          refine iteT ⟨_, rfl, X.D, _, rfl, I4.pfine false, (by show 2 ≤ sizeLine; omega), fun t ht => ?_⟩
          have sx := new_same (o := .tup [V.str "number", .int 0]) ht
          exact G.bad a (Option.some.inj hr0).symm _ _ d ((I4.go a d false).same sx) ((SameP.of (s3.trans s4)).up.trans (.of sx))
    rintro σ H3 ⟨rfl, s3, hnm⟩
    have I3 := I.same s3
    refine seq_by (fun σ H4 => σ = [some (.ref X.D), some (.str (wd (lk X.ws a))), none, none] ∧ SameP X.D H H4 ∧ X.At H4 (a + 1) d true) (fun D' hD' => ?_) ?_
    · exact ⟨_, rfl, X.D, _, rfl, I3.at, _, _, rfl, rfl, _, rfl, X.D, _, rfl, I3.pat _, hD' _ _ ⟨rfl, (SameP.of s3).up, I3.go (a + 1) d true⟩⟩
    rintro σ H4 ⟨rfl, s4, I4⟩
    -- a number
    refine seq_rt (fun σ H5 => σ = [some (.ref X.D), some (.str (wd (lk X.ws a))), none, none] ∧ SameP X.D H H5 ∧ X.At H5 (a + 1) d true ∧ intV (tk X.ws a) = none) (fun nx' hnx => ?_) ?_
    · refine ⟨_, rfl, _, rfl, hlen, hok, fun H5 s5 => ?_⟩
      rw [hiv]
      cases hv : intV (tk X.ws a) with
      | none => exact ⟨rfl, _, rfl, iteF (hnx _ _ ⟨rfl, s4.trans (.of s5), I4.same s5, hv⟩)⟩
      | some z =>
        rw [hv] at hr0
        refine ⟨rfl, _, rfl, iteT ⟨_, rfl, _, rfl, hlen, hok, fun H6 s6 => ⟨(by show 2 ≤ sizeLine; omega), fun t ht => ?_⟩⟩⟩
        rw [hiv, hv]
        have sx := new_same (o := .tup [V.str "number", .int z]) ht
        exact G.good (.mk (.num z) []) (a + 1) (Option.some.inj hr0).symm t _ (((I4.same s5).same s6).same sx) (((s4.trans (.of s5)).trans (.of s6)).trans (.of sx)) (.of (T := .mk (.num z) []) (as := []) upd_same .nil)
    clear s3 I3 I4 s4
    rintro σ H5 ⟨rfl, s5, I5, hv⟩
    rw [hv] at hr0
    have hm := hnm hv
    have hr0 : (if isNm (tk X.ws a) = true then if tk X.ws (a + 1) = wOpen then if d0 = 20 then some (.fail (a + 1)) else run X.ws f (.args (tk X.ws a) []) (a + 2) (d0 + 1) else some (.ok (.mk (.nam (tk X.ws a)) []) (a + 1)) else some (.fail a)) = some res := hr0
    rw [if_pos hm] at hr0
    have elk : lk X.ws a = tk X.ws a := nx_in fun q => by
      rw [q, nm_nil] at hm
      cases hm
    rw [elk]
    have ha1 := nm_lt hm
    -- a name
    refine seq_rt (fun σ H6 => σ = [some (.ref X.D), some (.str (wd (tk X.ws a))), none, none] ∧ H5 = H6 ∧ tk X.ws (a + 1) = wOpen) (fun nx' hnx => ?_) ?_
    · refine ⟨_, rfl, X, a + 1, d, true, rfl, I5, rfl, _, rfl, ?_⟩
      rw [st_lk2 _ _ st_open (by decide) (by decide)]
      by_cases z : tk X.ws (a + 1) = wOpen
      · rw [decide_eq_true z]
        exact iteF (hnx _ _ ⟨rfl, rfl, z⟩)
      · rw [if_neg z] at hr0
        rw [decide_eq_false z]
        refine iteT ⟨_, rfl, (by show 2 ≤ sizeLine; omega), fun t ht => ?_⟩
        have sx := new_same (o := .tup [V.str "name", .str (wd (tk X.ws a))]) ht
        exact G.good (.mk (.nam (tk X.ws a)) []) (a + 1) (Option.some.inj hr0).symm t _ (I5.same sx) (s5.trans (.of sx)) (.of (T := .mk (.nam (tk X.ws a)) []) (as := []) upd_same .nil)
    rintro σ H6 ⟨rfl, rfl, z⟩
    rw [if_pos z] at hr0
    have hlt := tk_lt z (by decide)
    obtain ⟨m, em, ec, es⟩ := prevC_lt hn (by omega)
    have hd1 : d + 1 = ((d0 + 1 : Nat) : Int) := by rw [G.e]; rfl
    -- the call
    refine seq_by (fun σ H7 => σ = [some (.ref X.D), some (.str (wd (tk X.ws a))), none, none] ∧ SameP X.D H H7 ∧ (Bad X H Q H7 ∨ (d0 ≠ 20 ∧ X.At H7 (a + 2) (d + 1) true))) (fun D' hD' => ?_) ?_
    · refine ⟨_, rfl, X, a + 1, d, true, rfl, I5, fun H7 I7 s7 => ?_⟩
      by_cases e20 : d0 = 20
      · rw [if_pos e20] at hr0
        rw [show fw X.ws wOpen (a + 1) (true && decide (d < 20)) = false from by rw [G.e, e20]; rfl] at I7
        exact hD' _ _ ⟨rfl, s5.trans s7, .inl ⟨a + 1, d + 1, I7, G.bad (a + 1) (Option.some.inj hr0).symm⟩⟩
      · rw [show fw X.ws wOpen (a + 1) (true && decide (d < 20)) = true from by
          unfold fw
          rw [G.e, (hd20 d0 G.m).mpr e20, decide_eq_true z]
          rfl] at I7
        exact hD' _ _ ⟨rfl, s5.trans s7, .inr ⟨e20, I7⟩⟩
    clear s5 I5
    rintro σ H7 ⟨rfl, s7, q⟩
    refine seq_by (fun σ H8 => ∃ (L : Addr) (us : List V), σ = [some (.ref X.D), some (.str (wd (tk X.ws a))), none, some (.ref L)] ∧ H L = none ∧ L ≠ X.L ∧ H8 L = some (.lst us) ∧ us.length ≤ 1000 ∧ SameP X.D H H8 ∧ (Bad X H Q H8 ∨ ∃ (as : List Tr) (xs : List Addr) (b g : Nat), us = xs.map V.ref ∧ All2 (TrAt H8) as xs ∧ X.At H8 b (d + 1) true ∧ xs.length ≤ b ∧ b ≤ X.ws.length ∧ X.ws.length ≤ b + m ∧ d0 + 1 ≤ 20 ∧ argR X.ws g (tk X.ws a) as b (d0 + 1) = some res)) (fun D' hD' => ?_) ?_
    · rcases q with ⟨i, d', I7, kE⟩ | ⟨e20, I7⟩
      · refine ⟨_, rfl, ?_⟩
        rw [es]
        refine ⟨X, i, d', false, rfl, I7, fun z => (by cases z), fun _ v H8 d2 I8 s8 => ⟨(by show 1 ≤ sizeLine; omega), fun L hL => ?_⟩, fun z => (by cases z)⟩
        have sx := new_same (o := .lst [v]) hL
        have hLn := none_back (s7.trans s8) I8.o hL
        refine hD' _ _ ⟨L, [v], rfl, hLn, fun q => ?_, upd_same, (by show 1 ≤ 1000; decide), (s7.trans s8).trans (.of sx), .inl ⟨i, d2, I8.same sx, kE⟩⟩
        rw [q, I8.l] at hL
        cases hL
      · rw [if_neg e20] at hr0
        obtain ⟨g1, r1, h1, f1, f2⟩ := args_some hr0
        have hm1 : d0 + 1 ≤ 20 := by have := G.m; omega
        refine ⟨_, rfl, ?_⟩
        rw [es]
        refine ⟨X, a + 2, d + 1, true, rfl, I7, fun _ => (by omega), fun z => (by cases z), fun _ => ⟨g1, d0 + 1, r1, h1, hd1, hm1, fun i e v H8 d2 I8 s8 => ⟨(by show 1 ≤ sizeLine; omega), fun L hL => ?_⟩, fun T b e p H8 I8 s8 hT => ⟨(by show 1 ≤ sizeLine; omega), fun L hL => ?_⟩⟩⟩
        · have sx := new_same (o := .lst [v]) hL
          have hLn := none_back (s7.trans s8) I8.o hL
          refine hD' _ _ ⟨L, [v], rfl, hLn, fun q => ?_, upd_same, (by show 1 ≤ 1000; decide), (s7.trans s8).trans (.of sx), .inl ⟨i, d2, I8.same sx, G.bad i (f1 i e)⟩⟩
          rw [q, I8.l] at hL
          cases hL
        · have sx := new_same (o := .lst [V.ref p]) hL
          have hLn := none_back (s7.trans s8) I8.o hL
          obtain ⟨q1, q2⟩ := run_ge _ _ _ _ _ _ _ (e ▸ h1)
          have q1 : a + 2 + 1 ≤ b := q1
          refine hD' _ _ ⟨L, [V.ref p], rfl, hLn, fun q => ?_, upd_same, (by show 1 ≤ 1000; decide), (s7.trans s8).trans (.of sx), .inr ⟨[] ++ [T], [p], b, g1, rfl, .cons (hT.same sx) .nil, I8.same sx, (by show 1 ≤ b; omega), q2 (.inr rfl), by omega, hm1, f2 T b e⟩⟩
          rw [q, I8.l] at hL
          cases hL
    rintro σ H8 ⟨L, us, rfl, hLn, hLL, hL8, hul, s8, q⟩
    have nLD : L ≠ X.D := fun e => by
      have := I.o
      rw [← e, hLn] at this
      cases this
    refine seq_by (fun σ H9 => ∃ us : List V, σ = [some (.ref X.D), some (.str (wd (tk X.ws a))), none, some (.ref L)] ∧ H9 L = some (.lst us) ∧ us.length ≤ 1000 ∧ SameP X.D H H9 ∧ (Bad X H Q H9 ∨ ∃ (as : List Tr) (xs : List Addr) (b : Nat), us = xs.map V.ref ∧ All2 (TrAt H9) as xs ∧ X.At H9 b (d + 1) true ∧ My.nd X.ws wClose b (fun b => some (.ok (.mk (.call (tk X.ws a)) as) b)) = some res)) (fun D' hD' => ?_) ?_
    · refine while_by (fun σ H8 => ∃ us : List V, σ = [some (.ref X.D), some (.str (wd (tk X.ws a))), none, some (.ref L)] ∧ H8 L = some (.lst us) ∧ us.length ≤ 1000 ∧ SameP X.D H H8 ∧ (Bad X H Q H8 ∨ ∃ (as : List Tr) (xs : List Addr) (b g : Nat), us = xs.map V.ref ∧ All2 (TrAt H8) as xs ∧ X.At H8 b (d + 1) true ∧ xs.length ≤ b ∧ b ≤ X.ws.length ∧ X.ws.length ≤ b + m ∧ d0 + 1 ≤ 20 ∧ argR X.ws g (tk X.ws a) as b (d0 + 1) = some res)) (fun _ H8 => muD (H8 X.D)) ⟨us, rfl, hL8, hul, s8, q⟩ ?_ ?_
      · clear q s8 hul hL8
        rintro σ H8 ⟨us, rfl, hL8, hul, s8, q⟩
        rcases q with ⟨i, d', I8, kE⟩ | ⟨as, xs, b, g, rfl, hA, I8, hxb, hbl, hbm, hm1, h8⟩
        · exact ⟨_, rfl, X.D, _, rfl, I8.fine, _, rfl, iteF (hD' _ _ ⟨us, rfl, hL8, hul, s8, .inl ⟨i, d', I8, kE⟩⟩)⟩
        unfold argR at h8
        have kn := I8.k.n
        have m8 := I8.muT
        refine ⟨_, rfl, X.D, _, rfl, I8.fine, _, rfl, iteT ⟨_, rfl, X, b, d + 1, true, rfl, I8, rfl, _, rfl, ?_⟩⟩
        rw [st_lk2 _ _ st_comma (by decide) (by decide)]
        by_cases zc : tk X.ws b = wComma
        · rw [decide_eq_true zc]
          rw [if_pos zc] at h8
          have hbt := tk_lt zc (by decide)
          refine iteT ?_
          refine seq_by (fun σ H9 => σ = [some (.ref X.D), some (.str (wd (tk X.ws a))), none, some (.ref L)] ∧ H9 L = some (.lst (xs.map V.ref)) ∧ SameP X.D H H9 ∧ All2 (TrAt H9) as xs ∧ X.At H9 (b + 1) (d + 1) true) (fun D2 hD2 => ?_) ?_
          · exact ⟨_, rfl, X.D, _, rfl, I8.at, _, _, rfl, rfl, _, rfl, X.D, _, rfl, I8.pat _, hD2 _ _ ⟨rfl, (by rw [upd_ne nLD]; exact hL8), s8.up, hA.imp fun T p q => I8.tr SameP.rfl'.up q, I8.go (b + 1) (d + 1) true⟩⟩
          rintro σ H9 ⟨rfl, hL9, s9, hA9, I9⟩
          obtain ⟨g1, r1, h1, f1, f2⟩ := args_some h8
          refine ⟨_, rfl, .inl ⟨rfl, _, SqL.of hL9⟩, _, rfl, ?_⟩
          rw [es]
          refine ⟨X, b + 1, d + 1, true, rfl, I9, fun _ => (by omega), fun z => (by cases z), fun _ => ⟨g1, d0 + 1, r1, h1, hd1, hm1, fun i e v H10 d2 I10 s10 => ?_, fun T b2 e p H10 I10 s10 hT => ?_⟩⟩
          · have hL10 := s10 _ _ hL9 nLD
            refine ⟨L, _, _, rfl, rfl, hL10, (by omega), ?_⟩
            have I11 := I10.updL (vs := xs.map V.ref ++ [v]) hL10 hLL
            refine ⟨⟨_, rfl, upd_same, ?_, ?_, .inl ⟨i, d2, I11, G.bad i (f1 i e)⟩⟩, ?_⟩
            · rw [List.length_append, List.length_map, List.length_singleton]
              omega
            · intro p o e n
              rw [upd_ne (ne_of_none e hLn)]
              exact s10 _ _ (s9 _ _ e n) n
            · rw [I11.muF, m8]
              omega
          · have hL10 := s10 _ _ hL9 nLD
            obtain ⟨q1, q2⟩ := run_ge _ _ _ _ _ _ _ (e ▸ h1)
            have q2 := q2 (.inr rfl)
            have q1 : b + 1 + 1 ≤ b2 := q1
            have hA10 := hA9.imp fun T p q => I9.tr s10 q
            refine ⟨L, _, _, rfl, rfl, hL10, (by omega), ?_⟩
            have I11 := I10.updL (vs := xs.map V.ref ++ [V.ref p]) hL10 hLL
            refine ⟨⟨_, rfl, upd_same, ?_, ?_, .inr ⟨as ++ [T], xs ++ [p], b2, g1, ?_, (hA10.imp fun T p q => q.updL hL10).app (.cons (hT.updL hL10) .nil), I11, ?_, q2, by omega, hm1, f2 T b2 e⟩⟩, ?_⟩
            · rw [List.length_append, List.length_map, List.length_singleton]
              omega
            · intro p o e n
              rw [upd_ne (ne_of_none e hLn)]
              exact s10 _ _ (s9 _ _ e n) n
            · rw [List.map_append]
              rfl
            · rw [List.length_append, List.length_singleton]
              omega
            · rw [I11.muT, m8]
              omega
        · rw [decide_eq_false zc]
          rw [if_neg zc] at h8
          exact iteF (hD' _ _ ⟨_, rfl, hL8, hul, s8, .inr ⟨as, xs, b, rfl, hA, I8, h8⟩⟩)
      · intro σ H2 Q1 Q2 hq hc
        obtain ⟨x, e1, x2, v, e2, hg, sc, eb, hc⟩ := hc
        refine ⟨x, e1, x2, v, e2, hg, sc, eb, ?_⟩
        revert hc
        cases sc with
        | false => exact fun hc => hq _ _ hc
        | true =>
          intro hc
          obtain ⟨y, f1, X', a', d', b', f2, f3, f4, p, f5, f6⟩ := hc
          exact ⟨y, f1, X', a', d', b', f2, f3, f4, p, f5, hq _ _ f6⟩
    clear q s8 hul hL8
    rintro σ H9 ⟨us, rfl, hL9, hul, s9, q⟩
    refine seq_by (fun σ H10 => σ = [some (.ref X.D), some (.str (wd (tk X.ws a))), none, some (.ref L)] ∧ H10 L = some (.lst us) ∧ SameP X.D H H10 ∧ (Bad X H Q H10 ∨ ∃ (as : List Tr) (xs : List Addr) (b : Nat), us = xs.map V.ref ∧ All2 (TrAt H10) as xs ∧ X.At H10 b d true ∧ res = .ok (.mk (.call (tk X.ws a)) as) b)) (fun D' hD' => ?_) ?_
    · rcases q with ⟨i, d', I9, kE⟩ | ⟨as, xs, b, rfl, hA, I9, h9⟩
      · exact ⟨_, rfl, X, i, d', false, rfl, I9, fun H10 I10 s10 => hD' _ _ ⟨rfl, s10 _ _ hL9 nLD, s9.trans s10, .inl ⟨i, _, I10, kE⟩⟩⟩
      · refine ⟨_, rfl, X, b, d + 1, true, rfl, I9, fun H10 I10 s10 => ?_⟩
        rcases close_good I10 h9 with ⟨e, I11⟩ | ⟨e, I11⟩
        · exact hD' _ _ ⟨rfl, s10 _ _ hL9 nLD, s9.trans s10, .inr ⟨as, xs, b + 1, rfl, hA.imp fun T p q => I9.tr s10 q, I11, (Option.some.inj e).symm⟩⟩
        · exact hD' _ _ ⟨rfl, s10 _ _ hL9 nLD, s9.trans s10, .inl ⟨b, d, I11, G.bad b e⟩⟩
    clear q s9 hL9
    rintro σ H10 ⟨rfl, hL10, s10, q⟩
    refine ⟨_, rfl, _, rfl, L, us, rfl, .inl ⟨SqL.of hL10, fun u hu' => ⟨(by show 3 ≤ sizeLine; omega), fun t ht => ?_⟩⟩⟩
    have sx := new_same (o := .tup us) hu'
    have sy := new_same (o := .tup [V.str "call", .str (wd (tk X.ws a)), .ref u]) ht
    rcases q with ⟨i, d', I10, kE⟩ | ⟨as, xs, b, rfl, hA, I10, e⟩
    · exact kE _ _ d' ((I10.same sx).same sy) ((s10.trans (.of sx)).trans (.of sy))
    · refine G.good _ b e t _ ((I10.same sx).same sy) ((s10.trans (.of sx)).trans (.of sy)) (.of (T := .mk (.call (tk X.ws a)) as) (as := xs) ?_ (hA.imp fun T p q => (q.same sx).same sy))
      have hh : ∃ u', (upd (upd H10 u (.tup (xs.map V.ref))) t (.tup [V.str "call", .str (wd (tk X.ws a)), .ref u])) t = some (.tup [.str "call", .str (wd (tk X.ws a)), .ref u']) ∧ (upd (upd H10 u (.tup (xs.map V.ref))) t (.tup [V.str "call", .str (wd (tk X.ws a)), .ref u])) u' = some (.tup (xs.map V.ref)) := ⟨u, upd_same, sy _ _ upd_same⟩
      cases xs <;> exact hh
end
end My

set_option pp.maxSteps 300
set_option Elab.async false
set_option linter.all false
set_option maxRecDepth 100000
set_option maxHeartbeats 1000000
namespace My
open PySem L2 MyR RT
/-! ### the law's reading together -/
/-- a function of the law -/
structure Lf (K : PySem.W.Frag) (mg : Str → Option Value) (x : Str) (st : Stmt) (ps : List Str) where
  f : Addr
  fd : FuncData
  F : Fun K x x st f fd
  g : mg x = some (.ref f)
  b : Binds K fd ps []
section
variable {P : Program} {w : World} {K : PySem.W.Frag} {mg : Str → Option Value} {base : Heap}
theorem law_sum {S1 : Lf K mg "_law_sum" s_law_sum ["_law_reading"]} {S2 : Lf K mg "_law_product" s_law_product ["_law_reading"]} {S3 : Lf K mg "_law_factor" s_law_factor ["_law_reading"]} {S4 : Lf K mg "_law_choice" s_law_choice ["_law_reading"]} {S5 : Lf K mg "_law_atom" s_law_atom ["_law_reading"]} (T0 : Glob mg)
    (D_law_next : Df P w K mg base 1 "_law_next" ["_law_reading"] spLn) (D_law_take : Df P w K mg base 2 "_law_take" ["_law_reading", "_law_word"] spLt) (D_law_open : Df P w K mg base 3 "_law_open" ["_law_reading"] spLo) (D_law_close : Df P w K mg base 3 "_law_close" ["_law_reading"] spLc) (D_law_count : Df P w K mg base 2 "_law_count" ["_law_reading", "_law_most"] spLk) (D_law_integer : Df P w K mg base 2 "_law_integer" ["_law_word"] spIntL) (D_law_is_name : Df P w K mg base 1 "_law_is_name" ["_law_word"] spNmL) :
    ∀ n : Nat, FnOk P w K mg base CX0 (5 * n + 9) S1.f S1.fd ["_law_reading"] (spLj .sum n) := by
  have up : ∀ n : Nat, FnOk P w K mg base CX0 (5 * n + 2) S3.f S3.fd ["_law_reading"] (spPrev .fac n) → FnOk P w K mg base CX0 (5 * n + 4) S1.f S1.fd ["_law_reading"] (spPrev .sum n) → FnOk P w K mg base CX0 (5 * n + 5) S4.f S4.fd ["_law_reading"] (spPrevC n) →
      FnOk P w K mg base CX0 (5 * n + 7) S3.f S3.fd ["_law_reading"] (spLj .fac n) ∧ FnOk P w K mg base CX0 (5 * n + 9) S1.f S1.fd ["_law_reading"] (spLj .sum n) ∧ FnOk P w K mg base CX0 (5 * n + 10) S4.f S4.fd ["_law_reading"] (spLch n) := by
    intro n h3 h1 h4
    have D5 : Df P w K mg base (5 * n + 6) "_law_atom" ["_law_reading"] (spLj .atom n) := ⟨S5.f, S5.fd, ok_law_atom S5.F T0 D_law_next D_law_open D_law_close D_law_integer D_law_is_name ⟨S1.f, S1.fd, h1, S1.g, S1.F.kp, S1.b⟩ ⟨S4.f, S4.fd, h4, S4.g, S4.F.kp, S4.b⟩, S5.g, S5.F.kp, S5.b⟩
    have o3 := ok_law_factor S3.F T0 D_law_next D_law_count D5 ⟨S3.f, S3.fd, h3, S3.g, S3.F.kp, S3.b⟩
    have D3 : Df P w K mg base (5 * n + 7) "_law_factor" ["_law_reading"] (spLj .fac n) := ⟨S3.f, S3.fd, o3, S3.g, S3.F.kp, S3.b⟩
    have D2 : Df P w K mg base (5 * n + 8) "_law_product" ["_law_reading"] (spLj .prod n) := ⟨S2.f, S2.fd, ok_law_product S2.F T0 D_law_next D3, S2.g, S2.F.kp, S2.b⟩
    have o1 := ok_law_sum S1.F T0 D_law_next D2
    have D1 : Df P w K mg base (5 * n + 9) "_law_sum" ["_law_reading"] (spLj .sum n) := ⟨S1.f, S1.fd, o1, S1.g, S1.F.kp, S1.b⟩
    exact ⟨o3, o1, ok_law_choice S4.F T0 D_law_take D_law_count D1⟩
  have all : ∀ n : Nat, FnOk P w K mg base CX0 (5 * n + 7) S3.f S3.fd ["_law_reading"] (spLj .fac n) ∧ FnOk P w K mg base CX0 (5 * n + 9) S1.f S1.fd ["_law_reading"] (spLj .sum n) ∧ FnOk P w K mg base CX0 (5 * n + 10) S4.f S4.fd ["_law_reading"] (spLch n) := by
    intro n
    induction n with
    | zero =>
      refine up 0 ?_ ?_ ?_
      · exact S3.F.ok (k := 1) sc_law_factor (fun vs H Q E h => h.elim) (fun cdv A outer s H vs Q E hr h => h.elim)
      · exact S1.F.ok (k := 3) sc_law_sum (fun vs H Q E h => h.elim) (fun cdv A outer s H vs Q E hr h => h.elim)
      · exact S4.F.ok (k := 4) sc_law_choice (fun vs H Q E h => h.elim) (fun cdv A outer s H vs Q E hr h => h.elim)
    | succ n ih =>
      refine up (n + 1) ?_ ?_ ?_
      · rw [show 5 * (n + 1) + 2 = 5 * n + 7 by omega]
        exact ih.1
      · rw [show 5 * (n + 1) + 4 = 5 * n + 9 by omega]
        exact ih.2.1
      · rw [show 5 * (n + 1) + 5 = 5 * n + 10 by omega]
        exact ih.2.2
  exact fun n => (all n).2.1
def spLr (n : Nat) : Sp := fun vs H Q _ => ∃ (t : Str) (ws : List (List Nat)) (f : Nat) (res : Res), vs = [.str t] ∧ t.length ≤ 100000 ∧ Txt.split t " " = ws.map wd ∧ WsOk ws ∧ (∀ w ∈ ws, ∀ c ∈ w, c < 256) ∧ ws.length ≤ n ∧ run ws f .sum 0 0 = some res ∧
  (∀ i, (res = .fail i ∨ ∃ T, res = .ok T i ∧ i < ws.length) → ∀ (p : Addr) H', Same H H' → H' p = some (.tup [.str "wrong", .int (i : Int)]) → Q (.ref p) H') ∧
  (∀ T a, res = .ok T a → ws.length ≤ a → ∀ (p q : Addr) H', Same H H' → TrAt H' T q → H' p = some (.tup [.str "read", .ref q]) → Q (.ref p) H')
abbrev s_law_read : Stmt := top 62
abbrev N_law_read : List Str := ["_law_text", "_law_reading", "_law_term"]
theorem sc_law_read : FnScope N_law_read ["_law_text"] (defScope s_law_read) := ⟨rfl, rfl, rfl, by decide +kernel, rfl, by decide +kernel, by decide +kernel⟩
theorem ok_law_read {f : Addr} {fd : FuncData} {n : Nat} (F : Fun K "_law_read" "_law_read" s_law_read f fd) (T : Glob mg) (D_sum : Df P w K mg base (5 * n + 9) "_law_sum" ["_law_reading"] (spLj .sum n)) : FnOk P w K mg base CX0 (5 * n + 10) f fd ["_law_text"] (spLr n) := by
  refine F.ok (k := 5 * n + 9) sc_law_read (fun vs H Q E h => ?_) (fun cdv A outer s H vs Q E hr h => ?_)
  · obtain ⟨t, ws, g, res, rfl, _⟩ := h
    rfl
  · obtain ⟨t, ws, g, res, rfl, ht, hs, hw, hc, hl, hrun, kE, kO⟩ := h
    have nd := sc_law_read.nd
    have hu := hu_of hr
    refine ⟨_, (pss_cons (ps_set (i := 1) nd rfl (Or.inl rfl) (pe_disp (pps_cons pe_str (pe_split (pv 0) pe_str) (pps_cons pe_str pe_int (pps_cons pe_str pe_int (pps_cons pe_str pe_bl pps_nil)))) (by rfl) (by rfl) (fun z => by cases z) (by decide)))
    (pss_cons (ps_set (i := 2) nd rfl (Or.inl rfl) (pe_call D_sum.ok hr (by rfl) D_sum.g D_sum.kp D_sum.b .nil pass0 (pa_cons (pv 1) pa_nil)))
    (pss_cons (ps_if (PW.pt (pw_or (pt_not (pt_val (pe_dget hu (pv 1) pe_str (fun _ _ => rfl)))) (pw_or1 (pt_cmpR op_lt (pe_dget hu (pv 1) pe_str (fun _ _ => rfl)) (pe_callB call_len_seq (by rfl) T.g_len PySem.boot_len (pa_cons (pe_dget hu (pv 1) pe_str (fun _ _ => rfl)) pa_nil)) (nomark _)))))
    (pss_one (ps_ret (pe_tup (pa_cons pe_str (pa_cons (pe_dget hu (pv 1) pe_str (fun _ _ => rfl)) pa_nil)))))
    pss_nil)
    (pss_one (ps_ret (pe_tup (pa_cons pe_str (pa_cons (pv 2) pa_nil)))))))), ?_⟩
    have zl' : 16777216 = sizeLine := sizeLine_eq.symm
    refine seq_by (fun σ H1 => ∃ X : LX, X.ws = ws ∧ σ = [some (.str t), some (.ref X.D), none] ∧ X.At H1 0 0 true ∧ Same H H1 ∧ H X.D = none) (fun D' hD' => ?_) ?_
    · intro p hp
      refine ⟨_, rfl, ⟨_, rfl⟩, t, (" " : Str), rfl, rfl, rfl, by omega, fun L hL => ?_⟩
      have npL : p ≠ L := fun e => by rw [e, upd_same] at hL; cases hL
      have hLn : H L = none := by rw [← upd_ne (H := H) (Ne.symm npL)]; exact hL
      refine ⟨by rw [upd_ne npL]; exact upd_same, rdV L 0 0 true, rfl, (by show 4 ≤ 15; decide), ?_⟩
      rw [r_merge]
      refine hD' _ _ ⟨⟨p, L, ws⟩, rfl, rfl, ⟨upd_same, ?_, hw, hc⟩, fun c o e => ?_, hp⟩
      · rw [upd_ne (Ne.symm npL), upd_same, hs, List.map_map]
        rfl
      · rw [upd_ne (ne_of_none e hp), upd_ne (ne_of_none e hLn), upd_ne (ne_of_none e hp)]
        exact e
    rintro σ H1 ⟨X, rfl, rfl, I, s1, hXn⟩
    have back : ∀ {H2 : Hp}, SameP X.D H1 H2 → Same H H2 := fun s2 b o e => s2 b o (s1 b o e) (ne_of_none e hXn)
    refine seq_by (fun σ H2 => ∃ v, σ = [some (.str t), some (.ref X.D), some v] ∧ SameP X.D H1 H2 ∧ ((∃ i d', X.At H2 i d' false ∧ res = .fail i) ∨ ∃ (p : Addr) (T : Tr) (a : Nat), v = .ref p ∧ X.At H2 a 0 true ∧ TrAt H2 T p ∧ res = .ok T a)) (fun D' hD' => ?_) ?_
    · exact ⟨_, rfl, X, 0, 0, true, rfl, I, fun _ => (by omega), fun z => (by cases z), fun _ => ⟨g, 0, res, hrun, rfl, by decide, fun i e v H2 d' I2 s2 => hD' _ _ ⟨v, rfl, s2, .inl ⟨i, d', I2, e⟩⟩, fun T a e p H2 I2 s2 hT => hD' _ _ ⟨_, rfl, s2, .inr ⟨p, T, a, rfl, I2, hT, e⟩⟩⟩⟩
    rintro σ H2 ⟨v, rfl, s2, q⟩
    rcases q with ⟨i, d', I2, e⟩ | ⟨p, T, a, rfl, I2, hT, e⟩
    · refine ⟨_, rfl, X.D, _, rfl, I2.fine, _, rfl, iteT ?_⟩
      refine iteT ⟨_, rfl, X.D, _, rfl, I2.at, (by show 2 ≤ sizeLine; omega), fun t2 ht2 => ?_⟩
      exact kE i (.inl e) t2 _ ((back s2).trans (new_same ht2)) upd_same
    · refine ⟨_, rfl, X.D, _, rfl, I2.fine, _, rfl, iteF ?_⟩
      refine ⟨_, rfl, X.D, _, rfl, I2.at, _, rfl, X.D, _, rfl, I2.words, X.L, _, rfl, .inl (SqL.of I2.l), _, _, rfl, rfl, _, rfl, ?_⟩
      rw [List.length_map]
      refine ite2 (fun z => ?_) (fun z => ?_)
      · have z : (a : Int) < (X.ws.length : Int) := of_decide_eq_true z
        refine ⟨_, rfl, X.D, _, rfl, I2.at, (by show 2 ≤ sizeLine; omega), fun t2 ht2 => ?_⟩
        exact kE a (.inr ⟨T, e, by omega⟩) t2 _ ((back s2).trans (new_same ht2)) upd_same
      · have z : ¬ (a : Int) < (X.ws.length : Int) := fun q => z (decide_eq_true q)
        refine ⟨_, rfl, (by show 2 ≤ sizeLine; omega), fun t2 ht2 => ?_⟩
        exact kO T a e (by omega) t2 p _ ((back s2).trans (new_same ht2)) (hT.same (new_same ht2)) upd_same
end
end My

set_option pp.maxSteps 300
set_option Elab.async false
set_option linter.all false
set_option maxRecDepth 100000
set_option maxHeartbeats 1000000
namespace My
open PySem L2 MyR RT
/-! ### terms as data -/
mutual
def trD : Tr → PyData
  | .mk t ks => match t with
    | .num z => .tuple [.str "number", .int z]
    | .nam x => .tuple [.str "name", .str (wd x)]
    | .two k => .tuple (.str k.s :: trDs ks)
    | .half => .tuple (.str "half" :: trDs ks)
    | .pow n => .tuple (.str "power" :: (trDs ks ++ [.int n]))
    | .cho m r => .tuple (.str "choose" :: ((trDs ks).take 1 ++ [.int m, .int r] ++ (trDs ks).drop 1))
    | .call x => .tuple [.str "call", .str (wd x), .tuple (trDs ks)]
def trDs : List Tr → List PyData
  | [] => []
  | k :: ks => trD k :: trDs ks
end
section
variable {K : PySem.W.Frag} {H : Hp}
theorem dp_app {xs ys : List V} {ds es : List PyData} (h : DpAll K H xs ds) (g : DpAll K H ys es) : DpAll K H (xs ++ ys) (ds ++ es) := by
  induction ds generalizing xs with
  | nil =>
    cases h
    exact g
  | cons d ds ih =>
    cases h with
    | cons h1 h2 => exact .cons h1 (ih h2)
theorem trAll_1 {a : Tr} {as : List Addr} (h : TrAll H [a] as) : ∃ x, as = [x] ∧ TrAt H a x := by
  simp only [TrAll] at h
  obtain ⟨x, bs, rfl, q, rfl⟩ := h
  exact ⟨x, rfl, q⟩
mutual
theorem TrAt.dp : ∀ {T : Tr} {p : Addr}, TrAt H T p → Dp K H (.ref p) (trD T)
  | .mk t ks, p, h => by
    simp only [TrAt] at h
    obtain ⟨as, ho, hk⟩ := h
    have hd := TrAll.dp hk
    cases t with
    | num z =>
      cases as with
      | nil =>
        simp only [trD]
        exact .tup (SqT.of ho) (.cons (.str _) (.cons (.int _) .nil))
      | cons a b => exact ho.elim
    | nam x =>
      cases as with
      | nil =>
        simp only [trD]
        exact .tup (SqT.of ho) (.cons (.str _) (.cons (.str _) .nil))
      | cons a b => exact ho.elim
    | two k =>
      match as, ho, hd with
      | [a, b], ho, hd =>
        simp only [trD]
        exact .tup (SqT.of ho) (.cons (.str _) hd)
      | [], ho, _ => exact ho.elim
      | [_], ho, _ => exact ho.elim
      | _ :: _ :: _ :: _, ho, _ => exact ho.elim
    | half =>
      match as, ho, hd with
      | [a], ho, hd =>
        simp only [trD]
        exact .tup (SqT.of ho) (.cons (.str _) hd)
      | [], ho, _ => exact ho.elim
      | _ :: _ :: _, ho, _ => exact ho.elim
    | pow n =>
      match as, ho, hd with
      | [a], ho, hd =>
        simp only [trD]
        exact .tup (SqT.of ho) (.cons (.str _) (dp_app hd (.cons (.int n) .nil)))
      | [], ho, _ => exact ho.elim
      | _ :: _ :: _, ho, _ => exact ho.elim
    | cho m r =>
      match as, ho, hd with
      | [a, b, d], ho, hd =>
        simp only [trD]
        obtain ⟨x, y, z, e⟩ : ∃ x y z, trDs ks = [x, y, z] := by
          generalize trDs ks = ds at hd
          cases hd with
          | cons _ q => cases q with
            | cons _ q => cases q with
              | cons _ q => cases q; exact ⟨_, _, _, rfl⟩
        rw [e] at hd ⊢
        cases hd with
        | cons q1 q => cases q with
          | cons q2 q => cases q with
            | cons q3 q => exact .tup (SqT.of ho) (.cons (.str _) (.cons q1 (.cons (.int m) (.cons (.int r) (.cons q2 (.cons q3 .nil))))))
      | [], ho, _ => exact ho.elim
      | [_], ho, _ => exact ho.elim
      | [_, _], ho, _ => exact ho.elim
      | _ :: _ :: _ :: _ :: _, ho, _ => exact ho.elim
    | call x =>
      simp only [trD]
      have hu : ∃ u, H p = some (.tup [.str "call", .str (wd x), .ref u]) ∧ H u = some (.tup (as.map V.ref)) := by
        cases as <;> exact ho
      obtain ⟨u, h1, h2⟩ := hu
      exact .tup (SqT.of h1) (.cons (.str _) (.cons (.str _) (.cons (.tup (SqT.of h2) hd) .nil)))
theorem TrAll.dp : ∀ {ks : List Tr} {as : List Addr}, TrAll H ks as → DpAll K H (as.map V.ref) (trDs ks)
  | [], as, h => by
    simp only [TrAll] at h
    subst h
    simp only [trDs]
    exact .nil
  | k :: ks, as, h => by
    simp only [TrAll] at h
    obtain ⟨a, bs, rfl, q, r⟩ := h
    simp only [trDs]
    exact .cons q.dp r.dp
end
end
theorem nmS_ok {x : List Nat} (h : isNm x = true) : PyData.strOk (wd x) = true := strOk_iff.mpr fun c hc => by
  have := List.all_eq_true.mp (nm_low h) c hc
  have := of_decide_eq_true (Bool.and_eq_true_iff.mp this).2
  omega
theorem lay_app : ∀ (xs ys : List PyData), PyData.canLayAll0 (xs ++ ys) = (PyData.canLayAll0 xs && PyData.canLayAll0 ys)
  | [], ys => by rw [List.nil_append, PyData.canLayAll0, Bool.true_and]
  | x :: xs, ys => by rw [List.cons_append, PyData.canLayAll0, PyData.canLayAll0, lay_app xs ys, Bool.and_assoc]
theorem lay_take : ∀ (n : Nat) (xs : List PyData), PyData.canLayAll0 xs = true → PyData.canLayAll0 (xs.take n) = true ∧ PyData.canLayAll0 (xs.drop n) = true := fun n xs h => by
  rw [← List.take_append_drop n xs, lay_app] at h
  exact Bool.and_eq_true_iff.mp h
mutual
theorem trD_lay : ∀ T : Tr, T.ok → (trD T).canLay0 = true
  | .mk t ks, h => by
    simp only [Tr.ok] at h
    have hk := trDs_lay ks h.2.2
    cases t with
    | num z => simp only [trD, PyData.canLay0, PyData.canLayAll0]; decide +kernel
    | nam x =>
      have hx : isNm x = true := h.1
      have e1 : PyData.strOk (Str.ofString "name") = true := by decide +kernel
      simp only [trD, PyData.canLay0, PyData.canLayAll0, nmS_ok hx, e1, Bool.and_self]
    | two k =>
      simp only [trD, PyData.canLay0, PyData.canLayAll0, hk]
      cases k <;> decide +kernel
    | half =>
      simp only [trD, PyData.canLay0, PyData.canLayAll0, hk]
      decide +kernel
    | pow n =>
      simp only [trD, PyData.canLay0, PyData.canLayAll0, lay_app, hk]
      decide +kernel
    | cho m r =>
      simp only [trD, PyData.canLay0, PyData.canLayAll0, lay_app, (lay_take 1 _ hk).1, (lay_take 1 _ hk).2]
      decide +kernel
    | call x =>
      have hx : isNm x = true := h.1
      have e1 : PyData.strOk (Str.ofString "call") = true := by decide +kernel
      simp only [trD, PyData.canLay0, PyData.canLayAll0, hk, nmS_ok hx, e1, Bool.and_self]
theorem trDs_lay : ∀ ks : List Tr, okL ks → PyData.canLayAll0 (trDs ks) = true
  | [], _ => by simp only [trDs, PyData.canLayAll0]
  | k :: ks, h => by
    simp only [okL] at h
    simp only [trDs, PyData.canLayAll0, trD_lay k h.1, trDs_lay ks h.2, Bool.and_self]
end
theorem dep_app : ∀ (xs ys : List PyData), PyData.depthAll (xs ++ ys) = max (PyData.depthAll xs) (PyData.depthAll ys)
  | [], ys => by
    rw [List.nil_append, PyData.depthAll]
    omega
  | x :: xs, ys => by
    rw [List.cons_append, PyData.depthAll, PyData.depthAll, dep_app xs ys]
    omega
mutual
theorem trD_dep : ∀ T : Tr, (trD T).depth ≤ 2 * (subT T).length
  | .mk t ks => by
    have hk := trDs_dep ks
    rw [sz_mk]
    cases t with
    | num z => simp only [trD, PyData.depth, PyData.depthAll]; omega
    | nam x => simp only [trD, PyData.depth, PyData.depthAll]; omega
    | two k => simp only [trD, PyData.depth, PyData.depthAll]; omega
    | half => simp only [trD, PyData.depth, PyData.depthAll]; omega
    | pow n => simp only [trD, PyData.depth, PyData.depthAll, dep_app]; omega
    | cho m r =>
      have e := dep_app ((trDs ks).take 1) ((trDs ks).drop 1)
      rw [List.take_append_drop] at e
      simp only [trD, PyData.depth, PyData.depthAll, dep_app]
      omega
    | call x => simp only [trD, PyData.depth, PyData.depthAll]; omega
theorem trDs_dep : ∀ ks : List Tr, PyData.depthAll (trDs ks) ≤ 2 * (subTs ks).length
  | [] => by simp only [trDs, PyData.depthAll]; omega
  | k :: ks => by
    have h1 := trD_dep k
    have h2 := trDs_dep ks
    simp only [trDs, PyData.depthAll, subTs, List.length_append]
    omega
end
/-- what the law's reading tells, as data -/
theorem read_shaped {T : Tr} (h : T.ok) (hs : (subT T).length ≤ 30) : SeqAt.shaped (.tuple [.str "read", trD T]) = true := by
  unfold SeqAt.shaped
  have e1 : PyData.strOk (Str.ofString "read") = true := by decide +kernel
  have := trD_dep T
  simp only [PyData.canLay0, PyData.canLayAll0, trD_lay T h, e1, Bool.and_self, Bool.true_and, PyData.depth, PyData.depthAll]
  exact decide_eq_true (by omega)
theorem wrong_shaped (i : Int) : SeqAt.shaped (.tuple [.str "wrong", .int i]) = true := by
  unfold SeqAt.shaped
  have e1 : PyData.strOk (Str.ofString "wrong") = true := by decide +kernel
  simp only [PyData.canLay0, PyData.canLayAll0, e1, Bool.and_self, Bool.true_and, PyData.depth, PyData.depthAll]
  exact decide_eq_true (by omega)
end My

set_option pp.maxSteps 300
set_option Elab.async false
set_option linter.all false
set_option maxRecDepth 100000
set_option maxHeartbeats 1000000
namespace My
open PySem L2 MyR RT
/-! ### rows of words -/
/-- words that a row may have -/
def gw (w : List Nat) : Prop := w.length ≤ 8 ∧ ∀ c ∈ w, c < 256 ∧ c ≠ 32
theorem Deal.same {H H' : Hp} {d l : Addr} (D : Deal H d l) (s : Same H H') : Deal H' d l := by
  obtain ⟨z, n, ns, hd, hl, r⟩ := D.ex
  exact ⟨z, n, ns, s _ _ hd, s _ _ hl, r⟩
theorem Kept.sm {H H1 H2 : Hp} {d l : Addr} (k : Kept d l H H1) (s : Same H1 H2) : Kept d l H H2 := fun b o e n1 n2 => s _ _ (k b o e n1 n2)
theorem nm_gw {w : List Nat} (h : isNm w = true) : gw w := ⟨(nm_len h).2, fun c hc => by
  have := List.all_eq_true.mp (nm_low h) c hc
  have := Bool.and_eq_true_iff.mp this
  have h1 := of_decide_eq_true this.1
  have h2 := of_decide_eq_true this.2
  omega⟩
abbrev txW (ws : List (List Nat)) : Str := Txt.join " " (ws.map wd)
open TL in
theorem join_len (y : Str) {m : Nat} : ∀ {ps : List Str}, (∀ p ∈ ps, p.length ≤ m) → (Txt.join y ps).length ≤ ps.length * (m + y.length) := by
  intro ps h
  rw [join_eq, len_tl, tl_join]
  have : ∀ qs : List (List Nat), (∀ q ∈ qs, q.length ≤ m) → (joinL (tl y) qs).length ≤ qs.length * (m + (tl y).length) := by
    intro qs
    induction qs with
    | nil => intro _; exact Nat.zero_le _
    | cons a l ih =>
      intro hq
      have ha := hq a List.mem_cons_self
      have hl := ih fun q hq' => hq q (List.mem_cons_of_mem _ hq')
      cases l with
      | nil =>
        show a.length ≤ 1 * (m + (tl y).length)
        omega
      | cons b l =>
        show (a ++ (tl y ++ joinL (tl y) (b :: l))).length ≤ _
        rw [List.length_append, List.length_append, List.length_cons, Nat.succ_mul]
        omega
  have q := this (ps.map tl) (fun q hq => by
    obtain ⟨p, hp, rfl⟩ := List.mem_map.mp hq
    rw [← len_tl]
    exact h p hp)
  rw [List.length_map] at q
  rw [len_tl y]
  exact q
theorem txW_len {ws : List (List Nat)} (h : ∀ w ∈ ws, gw w) (hl : ws.length ≤ 30) : (txW ws).length ≤ 300 := by
  have q := join_len " " (m := 8) (ps := ws.map wd) (fun p hp => by
    obtain ⟨w, hw, rfl⟩ := List.mem_map.mp hp
    rw [wd_len]
    exact (h w hw).1)
  rw [List.length_map, show (Str.ofString " ").length = 1 from by decide +kernel] at q
  show (Txt.join (Str.ofString " ") (ws.map wd)).length ≤ 300
  omega
theorem txW_split {ws : List (List Nat)} (h : ∀ w ∈ ws, gw w) (hne : ws ≠ []) : Txt.split (txW ws) " " = ws.map wd :=
  TL.split_join (y := " ") (s := 32) (S := []) (by decide +kernel) (by decide +kernel) (by intro e; exact hne (List.map_eq_nil_iff.mp e)) (fun p hp hc => by
    obtain ⟨w, hw, rfl⟩ := List.mem_map.mp hp
    exact ((h w hw).2 32 hc).2 rfl)
theorem gw_ok {ws : List (List Nat)} (h : ∀ w ∈ ws, gw w) (hl : ws.length ≤ 30) : WsOk ws := ⟨by omega, fun w hw => by
  have := (h w hw).1
  omega⟩
theorem sum_gw : ∀ {ws : List (List Nat)}, (∀ w ∈ ws, gw w) → ((ws.map wd).map (·.length)).sum ≤ 8 * ws.length
  | [], _ => Nat.le_refl _
  | w :: ws, h => by
    have h1 := (h w List.mem_cons_self).1
    have h2 := sum_gw fun u hu => h u (List.mem_cons_of_mem _ hu)
    rw [List.map_cons, List.map_cons, List.sum_cons, wd_len, List.length_cons]
    omega
/-- the reading of such words -/
theorem rd_run (ws : List (List Nat)) : ∃ res, run ws (6 * ws.length + 6) .sum 0 0 = some res := by
  cases e : run ws (6 * ws.length + 6) .sum 0 0 with
  | none => exact absurd e (run_on ws _ .sum 0 0 (by show 6 * (ws.length - 0) + 5 < _; omega))
  | some r => exact ⟨r, rfl⟩
abbrev someT : Str := "( ) + - * over half to ** if mod is then else , 0 1 2 7 64 -5"
def someL : List (List Nat) := [[40], [41], [43], [45], [42], [111, 118, 101, 114], [104, 97, 108, 102], [116, 111], [42, 42], [105, 102], [109, 111, 100], [105, 115], [116, 104, 101, 110], [101, 108, 115, 101], [44], [48], [49], [50], [55], [54, 52], [45, 53]]
theorem some_split : Txt.split someT " " = someL.map wd := by decide +kernel
theorem some_len : someT.length + 2 ≤ sizeLine := by decide +kernel
theorem some_gw : ∀ w ∈ someL, gw w := by
  have q : ∀ w ∈ someL, w.length ≤ 8 ∧ ∀ c ∈ w, c < 256 ∧ c ≠ 32 := by decide +kernel
  exact q
def triesM (σ : St) : Nat := match σ[6]? with
  | some (some (V.int k)) => (6 - k).toNat
  | _ => 0
def spRows : Sp := fun vs H Q _ => ∃ (d l : Addr), vs = [.ref d] ∧ Deal H d l ∧
  ∀ (L : Addr) (ws : List (List Nat)) (H' : Hp), H L = none → Deal H' d l → Kept d l H H' → H' L = some (.lst (stL ws)) → 1 ≤ ws.length → ws.length ≤ 25 → (∀ w ∈ ws, gw w) → Q (.ref L) H'
section
variable {P : Program} {w : World} {K : PySem.W.Frag} {mg : Str → Option Value} {base : Heap}
abbrev s_law_rows : Stmt := top 64
abbrev N_law_rows : List Str := ["_law_deal_here", "_law_names", "_law_words_here", "_law_some", "_law_turn", "_law_word", "_law_tries"]
theorem sc_law_rows : FnScope N_law_rows ["_law_deal_here"] (defScope s_law_rows) := ⟨rfl, rfl, rfl, by decide +kernel, rfl, by decide +kernel, by decide +kernel⟩
theorem ok_law_rows {f : Addr} {fd : FuncData} (F : Fun K "_law_rows" "_law_rows" s_law_rows f fd) (T : Glob mg) (D_law_draw : Df P w K mg base 1 "_law_draw" ["_law_deal_here", "_law_many"] spDraw) (D_law_words : Df P w K mg base 3 "_law_words" ["_law_deal_here", "_law_many"] spWords) (D_law_read : Df P w K mg base 160 "_law_read" ["_law_text"] (spLr 30)) : FnOk P w K mg base CX0 161 f fd ["_law_deal_here"] spRows := by
  refine F.ok (k := 160) sc_law_rows (fun vs H Q E h => ?_) (fun cdv A outer s H vs Q E hr h => ?_)
  · obtain ⟨d, l, rfl, _⟩ := h
    rfl
  · obtain ⟨d, l, rfl, D0, kq⟩ := h
    have nd := sc_law_rows.nd
    have hu := hu_of hr
    refine ⟨_, (pss_cons (ps_par (i := 1) (j := 2) rfl nd rfl rfl (by decide) rfl rfl (pa_cons (pe_call D_law_words.ok (hr.mono (by decide)) (by rfl) D_law_words.g D_law_words.kp D_law_words.b .nil pass0 (pa_cons (pv 0) (pa_cons pe_int pa_nil))) (pa_cons (pe_lst pa_nil) pa_nil)) (by rfl))
    (pss_cons (ps_set (i := 3) nd rfl (Or.inl rfl) (pe_op op_cat (pe_split pe_str pe_str) (pv 1)))
    (pss_cons (ps_for PassesOwn.never rfl (pi_range1 (by rfl) T.g_range (pa_cons (pe_op op_add pe_int (pe_call D_law_draw.ok (hr.mono (by decide)) (by rfl) D_law_draw.g D_law_draw.kp D_law_draw.b .nil pass0 (pa_cons (pv 0) (pa_cons pe_int pa_nil)))) pa_nil)) (pg_name (i := 4) nd rfl (Or.inl rfl))
    (pss_cons (ps_par (i := 5) (j := 6) rfl nd rfl rfl (by decide) rfl rfl (pa_cons (pe_ix ix_list (pv 3) (pe_call D_law_draw.ok (hr.mono (by decide)) (by rfl) D_law_draw.g D_law_draw.kp D_law_draw.b .nil pass0 (pa_cons (pv 0) (pa_cons (pe_callB call_len_seq (by rfl) T.g_len PySem.boot_len (pa_cons (pv 3) pa_nil)) pa_nil))) (fun _ _ => rfl)) (pa_cons pe_int pa_nil)) (by rfl))
    (pss_cons (ps_while PassesOwn.never (PW.pt (pw_and (pt_cmpR op_lt (pv 6) pe_int (nomark _)) (pw_and (pt_cmpR (op_eqD hr.units) (pe_call D_law_read.ok hr (by rfl) D_law_read.g D_law_read.kp D_law_read.b .nil pass0 (pa_cons (pe_join pe_str (pe_op op_cat (pv 2) (pe_lst (pa_cons (pv 5) pa_nil)))) pa_nil)) (pe_tup (pa_cons pe_str (pa_cons (pe_callB call_len_seq (by rfl) T.g_len PySem.boot_len (pa_cons (pv 2) pa_nil)) pa_nil))) (nomark _)) (pw_and1 (pt_cmpR op_gt (pe_call D_law_draw.ok (hr.mono (by decide)) (by rfl) D_law_draw.g D_law_draw.kp D_law_draw.b .nil pass0 (pa_cons (pv 0) (pa_cons pe_int pa_nil))) pe_int (nomark _))))))
    (pss_one (ps_par (i := 5) (j := 6) rfl nd rfl rfl (by decide) rfl rfl (pa_cons (pe_ix ix_list (pv 3) (pe_call D_law_draw.ok (hr.mono (by decide)) (by rfl) D_law_draw.g D_law_draw.kp D_law_draw.b .nil pass0 (pa_cons (pv 0) (pa_cons (pe_callB call_len_seq (by rfl) T.g_len PySem.boot_len (pa_cons (pv 3) pa_nil)) pa_nil))) (fun _ _ => rfl)) (pa_cons (pe_op op_add (pv 6) pe_int) pa_nil)) (by rfl))))
    (pss_one (ps_expr (pe_bm PySem.F.plainAttrs_list PySem.F.slot_list_append PySem.F.type_list_append mt_append (pv 2) (pa_cons (pv 5) pa_nil)))))))
    (pss_one (ps_ret (pv 2)))))), ?_⟩
    have zl' : 16777216 = sizeLine := sizeLine_eq.symm
    -- the names, no words
    refine seq_by (fun σ H1 => ∃ (p L : Addr) (zs : List (List Nat)), σ = [some (.ref d), some (.ref p), some (.ref L), none, none, none, none] ∧ Deal H1 d l ∧ Kept d l H H1 ∧ H L = none ∧ H1 L = some (.lst []) ∧ H1 p = some (.lst (stL zs)) ∧ zs.length = 3 ∧ (∀ z ∈ zs, isNm z = true) ∧ L ≠ p) (fun D' hD' => ?_) ?_
    · refine ⟨_, rfl, d, l, 3, rfl, D0, by decide, by decide, fun p zs H1 hp hl hz D1 k1 h1 => ⟨(by show 0 ≤ sizeLine; omega), fun L hL => ⟨_, _, rfl, hD' _ _ ⟨p, L, zs, rfl, D1.new hL, k1.sm (new_same hL), k1.free D1 hL, upd_same, ?_, hl, hz, ?_⟩⟩⟩⟩
      · exact new_same hL _ _ h1
      · intro e
        rw [e, h1] at hL
        cases hL
    rintro σ H1 ⟨p, L, zs, rfl, D1, k1, hLn, hL1, hp1, hzl, hzn, nLp⟩
    -- what is drawn from
    refine seq_by (fun σ H2 => ∃ (S : Addr) (ss : List (List Nat)), σ = [some (.ref d), some (.ref p), some (.ref L), some (.ref S), none, none, none] ∧ Deal H2 d l ∧ Kept d l H H2 ∧ H S = none ∧ H2 S = some (.lst (stL ss)) ∧ ss.length = 24 ∧ (∀ z ∈ ss, gw z) ∧ H2 L = some (.lst []) ∧ L ≠ S) (fun D' hD' => ?_) ?_
    · refine ⟨⟨_, rfl⟩, someT, " ", rfl, rfl, by decide +kernel, some_len, fun q hq => ?_⟩
      rw [some_split]
      have sq := new_same (o := .lst ((someL.map wd).map V.str)) hq
      refine ⟨_, rfl, q, p, _, _, rfl, rfl, upd_same, sq _ _ hp1, ?_, fun S hS => hD' _ _ ⟨S, someL ++ zs, rfl, ?_, ?_, ?_, ?_, ?_, ?_, ?_, ?_⟩⟩
      · rw [List.length_map, List.length_map, List.length_map, hzl]
        show 21 + 3 ≤ sizeLine
        omega
      · exact (D1.same sq).new hS
      · exact (k1.sm sq).sm (new_same hS)
      · exact (k1.sm sq).free (D1.same sq) hS
      · rw [upd_same]
        unfold stL
        rw [List.map_append, List.map_map]
        rfl
      · rw [List.length_append, hzl]
        rfl
      · intro z hz
        rcases List.mem_append.mp hz with h | h
        · exact some_gw z h
        · exact nm_gw (hzn z h)
      · exact new_same hS _ _ (sq _ _ hL1)
      · intro e
        have := sq _ _ hL1
        rw [e, hS] at this
        cases this
    clear hp1 hzl hzn nLp D1 k1 hL1
    rintro σ H2 ⟨S, ss, rfl, D2, k2, hSn, hS2, hsl, hsg, hL2, nLS⟩
    have nLd : L ≠ d := (D0.free hLn).1
    have nLl : L ≠ l := (D0.free hLn).2
    have nSd : S ≠ d := (D0.free hSn).1
    have nSl : S ≠ l := (D0.free hSn).2
    -- one more word drawn
    have ix : ∀ {H3 : Hp} {r : Int}, H3 S = some (.lst (stL ss)) → 0 ≤ r → r < 24 → ∃ z, gw z ∧ atI (stL ss) r = some (.str (wd z)) := by
      intro H3 r h h0 h1
      obtain ⟨j, rfl⟩ : ∃ j : Nat, r = (j : Int) := ⟨r.toNat, by omega⟩
      have hj : j < ss.length := by omega
      exact ⟨ss[j], hsg _ (List.getElem_mem hj), atI_nat (by rw [List.getElem?_map, List.getElem?_eq_getElem hj]; rfl)⟩
    refine seq_by (fun σ H3 => ∃ (a4 a5 a6 : Option V) (ws : List (List Nat)), σ = [some (.ref d), some (.ref p), some (.ref L), some (.ref S), a4, a5, a6] ∧ Deal H3 d l ∧ Kept d l H H3 ∧ H3 L = some (.lst (stL ws)) ∧ 1 ≤ ws.length ∧ ws.length ≤ 25 ∧ ∀ z ∈ ws, gw z) (fun D' hD' => ?_) ?_
    rotate_left
    · rintro σ H3 ⟨a4, a5, a6, ws, rfl, D3, k3, hL3, h1, h2, hg⟩
      exact ⟨_, rfl, kq L ws H3 hLn D3 k3 hL3 h1 h2 hg⟩
    refine ⟨_, rfl, d, l, 22, rfl, D2, by decide, by decide, fun r H3 hr0 hr1 D3 k3 => ⟨_, _, rfl, rfl, 4 + r, rfl, by omega, by omega, ?_⟩⟩
    obtain ⟨m, rfl⟩ : ∃ m : Nat, r = (m : Int) := ⟨r.toNat, by omega⟩
    rw [show ((4 : Int) + (m : Int)).toNat = 4 + m by omega]
    refine for_range (lo := 0) (n := 4 + m) (fun i σ H3 => ∃ (a4 a5 a6 : Option V) (ws : List (List Nat)), σ = [some (.ref d), some (.ref p), some (.ref L), some (.ref S), a4, a5, a6] ∧ Deal H3 d l ∧ Kept d l H H3 ∧ H3 S = some (.lst (stL ss)) ∧ H3 L = some (.lst (stL ws)) ∧ ws.length = i ∧ ∀ z ∈ ws, gw z)
      ⟨none, none, none, [], rfl, D3, k2.trans k3, k3 _ _ hS2 nSd nSl, k3 _ _ hL2 nLd nLl, rfl, fun z h => by cases h⟩ ?_ ?_
    · clear k3 D3
      rintro i σ H3 hi ⟨a4, a5, a6, ws, rfl, D3, k3, hS3, hL3, hwl, hwg⟩
      refine seq_by (fun σ H4 => ∃ (a4 : Option V) (z : List Nat) (n : Int), σ = [some (.ref d), some (.ref p), some (.ref L), some (.ref S), a4, some (.str (wd z)), some (.int n)] ∧ gw z ∧ 0 ≤ n ∧ Deal H4 d l ∧ Kept d l H H4 ∧ H4 S = some (.lst (stL ss)) ∧ H4 L = some (.lst (stL ws))) (fun D' hD' => ?_) ?_
      · refine ⟨_, rfl, _, rfl, _, rfl, S, _, rfl, .inl (SqL.of hS3), d, l, ((stL ss).length : Int), rfl, D3, ?_, ?_, fun r H4 hr0 hr1 D4 k4 => ?_⟩
        · rw [List.length_map, hsl]
          decide
        · rw [List.length_map, hsl]
          decide
        have hS4 := k4 _ _ hS3 nSd nSl
        obtain ⟨z, hz, hat⟩ := ix (H3 := H4) hS4 hr0 (by rw [List.length_map, hsl] at hr1; exact hr1)
        exact ⟨S, _, _, _, rfl, rfl, SqL.of hS4, hat, _, _, rfl, hD' _ _ ⟨_, z, 0, rfl, hz, by decide, D4, k3.trans k4, hS4, k4 _ _ hL3 nLd nLl⟩⟩
      clear D3 k3 hS3 hL3
      rintro σ H4 ⟨a4, z, n, rfl, hz, hn0, D4, k4, hS4, hL4⟩
      refine seq_by (fun σ H5 => ∃ (a4 : Option V) (z : List Nat) (n : Int), σ = [some (.ref d), some (.ref p), some (.ref L), some (.ref S), a4, some (.str (wd z)), some (.int n)] ∧ gw z ∧ 0 ≤ n ∧ Deal H5 d l ∧ Kept d l H H5 ∧ H5 S = some (.lst (stL ss)) ∧ H5 L = some (.lst (stL ws))) (fun D' hD' => ?_) ?_
      rotate_left
      · rintro σ H5 ⟨a4, z, n, rfl, hz, hn0, D5, k5, hS5, hL5⟩
        refine ⟨_, rfl, .inl ⟨rfl, _, SqL.of hL5⟩, _, rfl, L, _, _, rfl, rfl, hL5, by rw [List.length_map]; omega, ?_⟩
        refine ⟨a4, _, _, ws ++ [z], rfl, D5.other nLd nLl, k5.new hLn, ?_, ?_, ?_, ?_⟩
        · rw [upd_ne (Ne.symm nLS)]
          exact hS5
        · rw [upd_same]
          unfold stL
          rw [List.map_append]
          rfl
        · rw [List.length_append, hwl]
          rfl
        · intro u hu
          rcases List.mem_append.mp hu with h | h
          · exact hwg u h
          · rw [List.mem_singleton.mp h]
            exact hz
      refine ⟨fun m σ H5 => m = triesM σ ∧ ∃ (a4 : Option V) (z : List Nat) (n : Int), σ = [some (.ref d), some (.ref p), some (.ref L), some (.ref S), a4, some (.str (wd z)), some (.int n)] ∧ gw z ∧ 0 ≤ n ∧ Deal H5 d l ∧ Kept d l H H5 ∧ H5 S = some (.lst (stL ss)) ∧ H5 L = some (.lst (stL ws)), ⟨_, rfl, a4, z, n, rfl, hz, hn0, D4, k4, hS4, hL4⟩, ?_⟩
      clear D4 k4 hS4 hL4 hz hn0
      rintro M σ H5 ⟨rfl, a4, z, n, rfl, hz, hn0, D5, k5, hS5, hL5⟩
      refine ⟨_, rfl, _, _, rfl, rfl, _, rfl, ?_⟩
      refine ite2 (fun h6 => ?_) (fun h6 => hD' _ _ ⟨a4, z, n, rfl, hz, hn0, D5, k5, hS5, hL5⟩)
      have h6 : n < 6 := of_decide_eq_true h6
      refine ⟨⟨_, rfl⟩, _, rfl, _, rfl, (by show 1 ≤ sizeLine; omega), fun q hq => ?_⟩
      have sq := new_same (o := .lst [V.str (wd z)]) hq
      refine ⟨L, q, _, _, rfl, rfl, sq _ _ hL5, upd_same, (by rw [List.length_map]; show ws.length + 1 ≤ sizeLine; omega), fun r hr' => ?_⟩
      have sr := new_same (o := .lst (stL ws ++ [V.str (wd z)])) hr'
      have hg2 : ∀ u ∈ ws ++ [z], gw u := fun u hu => by
        rcases List.mem_append.mp hu with h | h
        · exact hwg u h
        · rw [List.mem_singleton.mp h]
          exact hz
      have hl2 : (ws ++ [z]).length ≤ 30 := by
        rw [List.length_append, List.length_singleton]
        omega
      have hlst : (stL ws ++ [V.str (wd z)]) = ((ws ++ [z]).map wd).map V.str := by
        unfold stL
        rw [List.map_map, List.map_append]
        rfl
      obtain ⟨res, hrun⟩ := rd_run (ws ++ [z])
      refine ⟨" ", r, (ws ++ [z]).map wd, rfl, rfl, .inl (SqL.of (by rw [← hlst]; exact upd_same)), ?_, txW (ws ++ [z]), ws ++ [z], _, res, rfl, ?_, txW_split hg2 (by simp), gw_ok hg2 hl2, fun u hu c hc => ((hg2 u hu).2 c hc).1, hl2, hrun, fun i hi p0 H6 s6 h6' => ?_, fun T a e ha p0 q0 H6 s6 hT h6' => ?_⟩
      · have h1 := sum_gw hg2
        rw [List.length_map, show (Str.ofString " ").length = 1 from by decide +kernel]
        omega
      · have := txW_len hg2 hl2
        omega
      · obtain ⟨dd, hdd, hsh⟩ : ∃ dd, (∀ H7, Same H6 H7 → Dp K H7 (.ref p0) dd) ∧ SeqAt.shaped dd = true := ⟨_, fun H7 s7 => .tup (SqT.of (s7 _ _ h6')) (.cons (.str _) (.cons (.int _) .nil)), wrong_shaped _⟩
        have sA := ((sq.trans sr).trans s6)
        have hL6 := sA _ _ hL5
        refine ⟨_, rfl, L, _, rfl, .inl (SqL.of hL6), (by show 2 ≤ sizeLine; omega), fun t ht => ?_⟩
        have st := new_same (o := .tup [V.str "wrong", .int ((stL ws).length : Int)]) ht
        have sB := sA.trans st
        refine ⟨dd, .tuple [.str "wrong", .int ((stL ws).length : Int)], hdd _ st, .tup (SqT.of upd_same) (.cons (.str _) (.cons (.int _) .nil)), hsh, wrong_shaped _, _, rfl, ?_⟩
        have D7 := D5.same sB
        have k7 := k5.sm sB
        have hS7 := sB _ _ hS5
        have hL7 := sB _ _ hL5
        refine ite2 (fun _ => ?_) (fun _ => iteF (hD' _ _ ⟨a4, z, n, rfl, hz, hn0, D7, k7, hS7, hL7⟩))
        refine ⟨_, rfl, d, l, 30, rfl, D7, by decide, by decide, fun r2 H8 hr0 hr1 D8 k8 => ⟨_, _, rfl, rfl, _, rfl, ?_⟩⟩
        have hS8 := k8 _ _ hS7 nSd nSl
        have hL8 := k8 _ _ hL7 nLd nLl
        refine ite2 (fun _ => ?_) (fun _ => hD' _ _ ⟨a4, z, n, rfl, hz, hn0, D8, k7.trans k8, hS8, hL8⟩)
        refine ⟨fun σ' H' => (∃ (a4 : Option V) (z : List Nat) (n : Int), σ' = [some (.ref d), some (.ref p), some (.ref L), some (.ref S), a4, some (.str (wd z)), some (.int n)] ∧ gw z ∧ 0 ≤ n ∧ Deal H' d l ∧ Kept d l H H' ∧ H' S = some (.lst (stL ss)) ∧ H' L = some (.lst (stL ws))) ∧ triesM σ' < triesM [some (.ref d), some (.ref p), some (.ref L), some (.ref S), a4, some (.str (wd z)), some (.int n)], fun σ' H' ⟨p', l'⟩ => ⟨_, l', rfl, p'⟩, ?_⟩
        refine ⟨_, rfl, _, rfl, _, rfl, S, _, rfl, .inl (SqL.of hS8), d, l, ((stL ss).length : Int), rfl, D8, ?_, ?_, fun r3 H9 hr0 hr1 D9 k9 => ?_⟩
        · rw [List.length_map, hsl]
          decide
        · rw [List.length_map, hsl]
          decide
        have hS9 := k9 _ _ hS8 nSd nSl
        obtain ⟨z9, hz9, hat⟩ := ix (H3 := H9) hS9 hr0 (by rw [List.length_map, hsl] at hr1; exact hr1)
        refine ⟨S, _, _, _, rfl, rfl, SqL.of hS9, hat, _, rfl, _, _, rfl, rfl, _, _, rfl, ⟨a4, z9, n + 1, rfl, hz9, by omega, D9, (k7.trans k8).trans k9, hS9, k9 _ _ hL8 nLd nLl⟩, ?_⟩
        show (6 - (n + 1)).toNat < (6 - n).toNat
        omega
      · obtain ⟨dd, hdd, hsh⟩ : ∃ dd, (∀ H7, Same H6 H7 → Dp K H7 (.ref p0) dd) ∧ SeqAt.shaped dd = true := by
          have hr2 : run (ws ++ [z]) (6 * (ws ++ [z]).length + 6) .sum 0 0 = some (.ok T a) := by rw [hrun, e]
          have g := run_tr _ _ .sum _ _ _ _ hr2 trivial
          have g2 := (run_ge _ _ _ _ _ _ _ hr2).2 (.inr rfl)
          have gs : (subT T).length + 0 ≤ a + 0 := g.2
          exact ⟨_, fun H7 s7 => .tup (SqT.of (s7 _ _ h6')) (.cons (.str _) (.cons (hT.same s7).dp .nil)), read_shaped g.1 (by omega)⟩
        have sA := ((sq.trans sr).trans s6)
        have hL6 := sA _ _ hL5
        refine ⟨_, rfl, L, _, rfl, .inl (SqL.of hL6), (by show 2 ≤ sizeLine; omega), fun t ht => ?_⟩
        have st := new_same (o := .tup [V.str "wrong", .int ((stL ws).length : Int)]) ht
        have sB := sA.trans st
        refine ⟨dd, .tuple [.str "wrong", .int ((stL ws).length : Int)], hdd _ st, .tup (SqT.of upd_same) (.cons (.str _) (.cons (.int _) .nil)), hsh, wrong_shaped _, _, rfl, ?_⟩
        have D7 := D5.same sB
        have k7 := k5.sm sB
        have hS7 := sB _ _ hS5
        have hL7 := sB _ _ hL5
        refine ite2 (fun _ => ?_) (fun _ => iteF (hD' _ _ ⟨a4, z, n, rfl, hz, hn0, D7, k7, hS7, hL7⟩))
        refine ⟨_, rfl, d, l, 30, rfl, D7, by decide, by decide, fun r2 H8 hr0 hr1 D8 k8 => ⟨_, _, rfl, rfl, _, rfl, ?_⟩⟩
        have hS8 := k8 _ _ hS7 nSd nSl
        have hL8 := k8 _ _ hL7 nLd nLl
        refine ite2 (fun _ => ?_) (fun _ => hD' _ _ ⟨a4, z, n, rfl, hz, hn0, D8, k7.trans k8, hS8, hL8⟩)
        refine ⟨fun σ' H' => (∃ (a4 : Option V) (z : List Nat) (n : Int), σ' = [some (.ref d), some (.ref p), some (.ref L), some (.ref S), a4, some (.str (wd z)), some (.int n)] ∧ gw z ∧ 0 ≤ n ∧ Deal H' d l ∧ Kept d l H H' ∧ H' S = some (.lst (stL ss)) ∧ H' L = some (.lst (stL ws))) ∧ triesM σ' < triesM [some (.ref d), some (.ref p), some (.ref L), some (.ref S), a4, some (.str (wd z)), some (.int n)], fun σ' H' ⟨p', l'⟩ => ⟨_, l', rfl, p'⟩, ?_⟩
        refine ⟨_, rfl, _, rfl, _, rfl, S, _, rfl, .inl (SqL.of hS8), d, l, ((stL ss).length : Int), rfl, D8, ?_, ?_, fun r3 H9 hr0 hr1 D9 k9 => ?_⟩
        · rw [List.length_map, hsl]
          decide
        · rw [List.length_map, hsl]
          decide
        have hS9 := k9 _ _ hS8 nSd nSl
        obtain ⟨z9, hz9, hat⟩ := ix (H3 := H9) hS9 hr0 (by rw [List.length_map, hsl] at hr1; exact hr1)
        refine ⟨S, _, _, _, rfl, rfl, SqL.of hS9, hat, _, rfl, _, _, rfl, rfl, _, _, rfl, ⟨a4, z9, n + 1, rfl, hz9, by omega, D9, (k7.trans k8).trans k9, hS9, k9 _ _ hL8 nLd nLl⟩, ?_⟩
        show (6 - (n + 1)).toNat < (6 - n).toNat
        omega
    · rintro σ H3 ⟨a4, a5, a6, ws, rfl, D3, k3, hS3, hL3, hwl, hwg⟩
      exact hD' _ _ ⟨a4, a5, a6, ws, rfl, D3, k3, hL3, by omega, by omega, hwg⟩
end
end My

set_option pp.maxSteps 300
set_option Elab.async false
set_option linter.all false
set_option maxRecDepth 100000
set_option maxHeartbeats 1000000
namespace My
open PySem L2 MyR RT
/-! ### a choice -/
section
variable {P : Program} {w : World} {K : PySem.W.Frag} {mg : Str → Option Value} {base : Heap}
abbrev s_Reader_chosen : Stmt := inClass (top 40) 14
abbrev N_Reader_chosen : List Str := ["self", "tested", "modulus", "rest", "yes"]
theorem sc_Reader_chosen : FnScope N_Reader_chosen ["self"] (defScope s_Reader_chosen) := ⟨rfl, rfl, rfl, by decide +kernel, rfl, by decide +kernel, by decide +kernel⟩
theorem ok_Reader_chosen {f C cT cC aM : Addr} {c : CA} {fd : FuncData} {n : Nat} (F : Fun K "chosen" "Reader.chosen" s_Reader_chosen f fd) (C0 : RdC K C) (M : Mks P w K mg base c) (ET : ErrT P w K mg base cT) (hM : mg "MODULI" = some (.ref aM)) (hMT : ∀ H, SqT K H aM ([2, 4, 8, 16, 32, 64].map V.int)) (MN : Mt P w K mg base (L2.CX P w) C 4 "need" ["self", "word"] (spNeed C cT)) (MB : Mt P w K mg base (L2.CX P w) C 4 "need_number" ["self", "least", "most"] (spNbr C cT))
    (MW : Mt P w K mg base (L2.CX P w) C (7 * n + 20) "whole" ["self"] (spJob C cT c cC .sum n)) : FnOk P w K mg base (L2.CX P w) (7 * n + 21) f fd ["self"] (spJob C cT c cC .cho n) := by
  refine F.okX (k := 7 * n + 20) sc_Reader_chosen (fun vs H Q E h => ?_) (fun cdv A outer s H vs Q E hr h => ?_)
  · obtain ⟨R, a, d, g, res, rfl, _⟩ := h
    rfl
  · obtain ⟨R, a, d, g, res, rfl, rfl, I, hd, hn, hrun, kO, kE⟩ := h
    have nd := sc_Reader_chosen.nd
    refine ⟨_, (pss_cons (ps_set (i := 1) nd rfl (Or.inl rfl) (pe_meth0 (pv 0) C0.cl MW.m MW.ok hr MW.b .nil (fun pins σ H s e s' I c => passAt (takes_of rfl rfl rfl rfl) σ pins H s e s' I c)))
    (pss_cons (ps_expr (pe_meth (pv 0) C0.cl MN.m MN.ok (hr.mono (by omega)) MN.b .nil (fun pins σ H s e s' I c => passAt (takes_of rfl rfl rfl rfl) σ pins H s e s' I c) (pa_cons pe_str pa_nil)))
    (pss_cons (ps_set (i := 2) nd rfl (Or.inl rfl) (pe_meth (pv 0) C0.cl MB.m MB.ok (hr.mono (by omega)) MB.b .nil (fun pins σ H s e s' I c => passAt (takes_of rfl rfl rfl rfl) σ pins H s e s' I c) (pa_cons pe_int (pa_cons (pe_ix ix_tup (pe_glob (v := .ref aM) rfl hM rfl) (pe_un un_neg pe_int) (fun _ _ => rfl)) pa_nil))))
    (pss_cons (ps_if (pt_cmpR op_notIn_seq (pv 2) (pe_glob (v := .ref aM) rfl hM rfl) (by rfl))
    (pss_one (ps_raise rfl (takes_of rfl rfl rfl rfl) (pmk_oex ET.x ET.i ET.t ET.ok (hr.mono (by omega)) ET.b .nil pass0 (by rfl) ET.g (pa_cons (pe_op op_sub (pe_fld (pv 0) rfl) pe_int) pa_nil))))
    pss_nil)
    (pss_cons (ps_expr (pe_meth (pv 0) C0.cl MN.m MN.ok (hr.mono (by omega)) MN.b .nil (fun pins σ H s e s' I c => passAt (takes_of rfl rfl rfl rfl) σ pins H s e s' I c) (pa_cons pe_str pa_nil)))
    (pss_cons (ps_set (i := 3) nd rfl (Or.inl rfl) (pe_meth (pv 0) C0.cl MB.m MB.ok (hr.mono (by omega)) MB.b .nil (fun pins σ H s e s' I c => passAt (takes_of rfl rfl rfl rfl) σ pins H s e s' I c) (pa_cons pe_int (pa_cons (pe_op op_sub (pv 2) pe_int) pa_nil))))
    (pss_cons (ps_expr (pe_meth (pv 0) C0.cl MN.m MN.ok (hr.mono (by omega)) MN.b .nil (fun pins σ H s e s' I c => passAt (takes_of rfl rfl rfl rfl) σ pins H s e s' I c) (pa_cons pe_str pa_nil)))
    (pss_cons (ps_set (i := 4) nd rfl (Or.inl rfl) (pe_meth0 (pv 0) C0.cl MW.m MW.ok hr MW.b .nil (fun pins σ H s e s' I c => passAt (takes_of rfl rfl rfl rfl) σ pins H s e s' I c)))
    (pss_cons (ps_expr (pe_meth (pv 0) C0.cl MN.m MN.ok (hr.mono (by omega)) MN.b .nil (fun pins σ H s e s' I c => passAt (takes_of rfl rfl rfl rfl) σ pins H s e s' I c) (pa_cons pe_str pa_nil)))
    (pss_one (ps_ret (pe_make M.cho.m M.cho.ok (hr.mono (by omega)) (by rfl) M.cho.g M.cho.b .nil pass0 (pa_cons (pv 1) (pa_cons (pv 2) (pa_cons (pv 3) (pa_cons (pv 4) (pa_cons (pe_meth0 (pv 0) C0.cl MW.m MW.ok hr MW.b .nil (fun pins σ H s e s' I c => passAt (takes_of rfl rfl rfl rfl) σ pins H s e s' I c)) pa_nil))))))))))))))))), ?_⟩
    cases g with
    | zero => cases hrun
    | succ g =>
    unfold run at hrun
    -- the tested node
    refine seq_by (fun σ H1 => ∃ (x : Addr) (T : Tr) (a1 : Nat), σ = [some (.ref R.r), some (.ref x), none, none, none] ∧ R.At H1 a1 d ∧ SameP R.r H H1 ∧ NdAt c cC H1 T x ∧ (My.nd R.ws wMod a1 fun a => nn R.ws 2 64 a fun m a =>
      if isM m = true then My.nd R.ws wIs a fun a => nn R.ws 0 (m - 1) a fun r a => My.nd R.ws wThen a fun a => bd (run R.ws g .sum a d) fun U a => My.nd R.ws wElse a fun a => bd (run R.ws g .sum a d) fun V a => some (.ok (.mk (.cho m r) [T, U, V]) a)
      else some (.fail (a - 1))) = some res) (fun D' hD' => ?_) ?_
    · rcases bd_some hrun with ⟨i, h1, e⟩ | ⟨T, a1, h1, h2⟩
      · exact ⟨_, rfl, R.r, R.dx, _, rfl, I.o, rfl, R, a, d, g, _, rfl, rfl, I, hd, hn, h1, fun T a e => (by cases e), fun j e2 => (by
          cases e2
          exact kE _ e)⟩
      · exact ⟨_, rfl, R.r, R.dx, _, rfl, I.o, rfl, R, a, d, g, _, rfl, rfl, I, hd, hn, h1, fun T' a' e2 x H1 I1 s1 hT => (by
          cases e2
          exact hD' _ _ ⟨x, T, a1, rfl, I1, s1, hT, h2⟩), fun i e2 => (by cases e2)⟩
    clear hrun I
    rintro σ H1 ⟨x, T, a1, rfl, I, s1, hT, hrun⟩
    -- mod
    refine seq_by (fun σ H1 => ∃ (a1 : Nat), σ = [some (.ref R.r), some (.ref x), none, none, none] ∧ R.At H1 a1 d ∧ SameP R.r H H1 ∧ NdAt c cC H1 T x ∧ (nn R.ws 2 64 a1 fun m a =>
      if isM m = true then My.nd R.ws wIs a fun a => nn R.ws 0 (m - 1) a fun r a => My.nd R.ws wThen a fun a => bd (run R.ws g .sum a d) fun U a => My.nd R.ws wElse a fun a => bd (run R.ws g .sum a d) fun V a => some (.ok (.mk (.cho m r) [T, U, V]) a)
      else some (.fail (a - 1))) = some res) (fun D' hD' => ?_) ?_
    · rcases nd_some hrun with ⟨z, h2⟩ | ⟨z, e⟩
      · exact ⟨_, rfl, R.r, R.dx, _, rfl, I.o, rfl, R, a1, d, wMod, vs2 st_mod, rfl, I, by decide, fun _ H2 I2 s2 => hD' _ _ ⟨a1 + 1, rfl, I2, s1.trans s2, I.nd s2 hT, h2⟩, fun q => absurd z q⟩
      · exact ⟨_, rfl, R.r, R.dx, _, rfl, I.o, rfl, R, a1, d, wMod, vs2 st_mod, rfl, I, by decide, fun q => absurd q z, fun _ => (kE _ e).mono s1⟩
    clear hrun I s1 hT
    rintro σ H1 ⟨a2, rfl, I, s1, hT, hrun⟩
    -- the modulus
    refine seq_by (fun σ H1 => ∃ (m : Int) (a1 : Nat), 0 < a1 ∧ σ = [some (.ref R.r), some (.ref x), some (.int m), none, none] ∧ R.At H1 a1 d ∧ SameP R.r H H1 ∧ NdAt c cC H1 T x ∧ (
      if isM m = true then My.nd R.ws wIs a1 fun a => nn R.ws 0 (m - 1) a fun r a => My.nd R.ws wThen a fun a => bd (run R.ws g .sum a d) fun U a => My.nd R.ws wElse a fun a => bd (run R.ws g .sum a d) fun V a => some (.ok (.mk (.cho m r) [T, U, V]) a)
      else some (.fail (a1 - 1))) = some res) (fun D' hD' => ?_) ?_
    · refine ⟨_, rfl, R.r, R.dx, _, rfl, I.o, rfl, _, rfl, aM, _, -1, .int 64, rfl, rfl, hMT _, (by decide +kernel), ?_⟩
      rcases nn_some hrun with ⟨m, q1, q2, q3, h2⟩ | ⟨z, e⟩
      · exact ⟨R, a2, d, 2, 64, rfl, rfl, I, fun m' k1 _ _ H2 I2 s2 => (by
          rw [q1] at k1
          obtain rfl := Option.some.inj k1
          exact hD' _ _ ⟨m, a2 + 1, Nat.succ_pos _, rfl, I2, s1.trans s2, I.nd s2 hT, h2⟩), fun q => absurd ⟨q2, q3⟩ (q m q1)⟩
      · exact ⟨R, a2, d, 2, 64, rfl, rfl, I, fun m' k1 k2 k3 => absurd ⟨k2, k3⟩ (z m' k1), fun _ => (kE _ e).mono s1⟩
    clear hrun I s1 hT a1 a2
    rintro σ H1 ⟨m, a1, hp, rfl, I, s1, hT, hrun⟩
    -- not one of the moduli
    refine seq_by (fun σ H2 => σ = [some (.ref R.r), some (.ref x), some (.int m), none, none] ∧ H2 = H1 ∧ isM m = true) (fun D' hD' => ?_) ?_
    · refine ⟨_, rfl, aM, _, rfl, .inr (hMT _), rfl, (by decide +kernel), _, rfl, ?_⟩
      have em : inV (.int m) (([2, 4, 8, 16, 32, 64] : List Int).map V.int) = isM m := in_moduli m
      rw [show (if true = true then !inV (.int m) (([2, 4, 8, 16, 32, 64] : List Int).map V.int) else inV (.int m) (([2, 4, 8, 16, 32, 64] : List Int).map V.int)) = !isM m from by rw [em]; rfl]
      cases e : isM m with
      | true => exact iteF (hD' _ _ ⟨rfl, rfl, e⟩)
      | false =>
        rw [e, if_neg (by decide)] at hrun
        refine iteT ⟨_, rfl, R.r, R.C, R.dx, _, _, rfl, I.o, C0.cl, C0.n2, rfl, _, _, rfl, rfl, (by show 1 ≤ 1000; decide), ?_⟩
        refine inv_text fun x H' s' hx => kE _ (Option.some.inj hrun).symm x H' (s1.trans (.of s')) ?_
        rw [show ((a1 - 1 : Nat) : Int) = (a1 : Int) - 1 by omega]
        exact hx
    rintro σ H2 ⟨rfl, rfl, hm⟩
    rw [if_pos hm] at hrun
    -- is
    refine seq_by (fun σ H1 => ∃ (a1 : Nat), σ = [some (.ref R.r), some (.ref x), some (.int m), none, none] ∧ R.At H1 a1 d ∧ SameP R.r H H1 ∧ NdAt c cC H1 T x ∧ (nn R.ws 0 (m - 1) a1 fun r a => My.nd R.ws wThen a fun a => bd (run R.ws g .sum a d) fun U a => My.nd R.ws wElse a fun a => bd (run R.ws g .sum a d) fun V a => some (.ok (.mk (.cho m r) [T, U, V]) a)) = some res) (fun D' hD' => ?_) ?_
    · rcases nd_some hrun with ⟨z, h2⟩ | ⟨z, e⟩
      · exact ⟨_, rfl, R.r, R.dx, _, rfl, I.o, rfl, R, a1, d, wIs, vs2 st_is, rfl, I, by decide, fun _ H2 I2 s2 => hD' _ _ ⟨a1 + 1, rfl, I2, s1.trans s2, I.nd s2 hT, h2⟩, fun q => absurd z q⟩
      · exact ⟨_, rfl, R.r, R.dx, _, rfl, I.o, rfl, R, a1, d, wIs, vs2 st_is, rfl, I, by decide, fun q => absurd q z, fun _ => (kE _ e).mono s1⟩
    clear hrun I s1 hT hp a1
    rintro σ H1 ⟨a2, rfl, I, s1, hT, hrun⟩
    -- the rest
    refine seq_by (fun σ H1 => ∃ (r : Int) (a1 : Nat), 0 ≤ r ∧ r ≤ m - 1 ∧ σ = [some (.ref R.r), some (.ref x), some (.int m), some (.int r), none] ∧ R.At H1 a1 d ∧ SameP R.r H H1 ∧ NdAt c cC H1 T x ∧ (My.nd R.ws wThen a1 fun a => bd (run R.ws g .sum a d) fun U a => My.nd R.ws wElse a fun a => bd (run R.ws g .sum a d) fun V a => some (.ok (.mk (.cho m r) [T, U, V]) a)) = some res) (fun D' hD' => ?_) ?_
    · refine ⟨_, rfl, R.r, R.dx, _, rfl, I.o, rfl, _, rfl, _, _, rfl, rfl, ?_⟩
      rcases nn_some hrun with ⟨r, q1, q2, q3, h2⟩ | ⟨z, e⟩
      · exact ⟨R, a2, d, 0, m - 1, rfl, rfl, I, fun m' k1 _ _ H2 I2 s2 => (by
          rw [q1] at k1
          obtain rfl := Option.some.inj k1
          exact hD' _ _ ⟨r, a2 + 1, q2, q3, rfl, I2, s1.trans s2, I.nd s2 hT, h2⟩), fun q => absurd ⟨q2, q3⟩ (q r q1)⟩
      · exact ⟨R, a2, d, 0, m - 1, rfl, rfl, I, fun m' k1 k2 k3 => absurd ⟨k2, k3⟩ (z m' k1), fun _ => (kE _ e).mono s1⟩
    clear hrun I s1 hT a2
    rintro σ H1 ⟨r, a1, hr0, hr1, rfl, I, s1, hT, hrun⟩
    -- then
    refine seq_by (fun σ H1 => ∃ (a1 : Nat), σ = [some (.ref R.r), some (.ref x), some (.int m), some (.int r), none] ∧ R.At H1 a1 d ∧ SameP R.r H H1 ∧ NdAt c cC H1 T x ∧ (bd (run R.ws g .sum a1 d) fun U a => My.nd R.ws wElse a fun a => bd (run R.ws g .sum a d) fun V a => some (.ok (.mk (.cho m r) [T, U, V]) a)) = some res) (fun D' hD' => ?_) ?_
    · rcases nd_some hrun with ⟨z, h2⟩ | ⟨z, e⟩
      · exact ⟨_, rfl, R.r, R.dx, _, rfl, I.o, rfl, R, a1, d, wThen, vs2 st_then, rfl, I, by decide, fun _ H2 I2 s2 => hD' _ _ ⟨a1 + 1, rfl, I2, s1.trans s2, I.nd s2 hT, h2⟩, fun q => absurd z q⟩
      · exact ⟨_, rfl, R.r, R.dx, _, rfl, I.o, rfl, R, a1, d, wThen, vs2 st_then, rfl, I, by decide, fun q => absurd q z, fun _ => (kE _ e).mono s1⟩
    clear hrun I s1 hT a1
    rintro σ H1 ⟨a2, rfl, I, s1, hT, hrun⟩
    -- yes
    refine seq_by (fun σ H1 => ∃ (y : Addr) (U : Tr) (a1 : Nat), σ = [some (.ref R.r), some (.ref x), some (.int m), some (.int r), some (.ref y)] ∧ R.At H1 a1 d ∧ SameP R.r H H1 ∧ NdAt c cC H1 T x ∧ NdAt c cC H1 U y ∧ (My.nd R.ws wElse a1 fun a => bd (run R.ws g .sum a d) fun V a => some (.ok (.mk (.cho m r) [T, U, V]) a)) = some res) (fun D' hD' => ?_) ?_
    · rcases bd_some hrun with ⟨i, h1, e⟩ | ⟨U, a1, h1, h2⟩
      · exact ⟨_, rfl, R.r, R.dx, _, rfl, I.o, rfl, R, a2, d, g, _, rfl, rfl, I, hd, hn, h1, fun T a e => (by cases e), fun j e2 => (by
          cases e2
          exact (kE _ e).mono s1)⟩
      · exact ⟨_, rfl, R.r, R.dx, _, rfl, I.o, rfl, R, a2, d, g, _, rfl, rfl, I, hd, hn, h1, fun T' a' e2 y H2 I2 s2 hU => (by
          cases e2
          exact hD' _ _ ⟨y, U, a1, rfl, I2, s1.trans s2, I.nd s2 hT, hU, h2⟩), fun i e2 => (by cases e2)⟩
    clear hrun I s1 hT a2
    rintro σ H1 ⟨y, U, a1, rfl, I, s1, hT, hU, hrun⟩
    -- else
    refine seq_by (fun σ H1 => ∃ (a1 : Nat), σ = [some (.ref R.r), some (.ref x), some (.int m), some (.int r), some (.ref y)] ∧ R.At H1 a1 d ∧ SameP R.r H H1 ∧ NdAt c cC H1 T x ∧ NdAt c cC H1 U y ∧ (bd (run R.ws g .sum a1 d) fun V a => some (.ok (.mk (.cho m r) [T, U, V]) a)) = some res) (fun D' hD' => ?_) ?_
    · rcases nd_some hrun with ⟨z, h2⟩ | ⟨z, e⟩
      · exact ⟨_, rfl, R.r, R.dx, _, rfl, I.o, rfl, R, a1, d, wElse, vs2 st_else, rfl, I, by decide, fun _ H2 I2 s2 => hD' _ _ ⟨a1 + 1, rfl, I2, s1.trans s2, I.nd s2 hT, I.nd s2 hU, h2⟩, fun q => absurd z q⟩
      · exact ⟨_, rfl, R.r, R.dx, _, rfl, I.o, rfl, R, a1, d, wElse, vs2 st_else, rfl, I, by decide, fun q => absurd q z, fun _ => (kE _ e).mono s1⟩
    clear hrun I s1 hT hU a1
    rintro σ H1 ⟨a2, rfl, I, s1, hT, hU, hrun⟩
    refine ⟨_, rfl, _, rfl, _, rfl, _, rfl, _, rfl, R.r, R.dx, _, rfl, I.o, rfl, ?_⟩
    rcases bd_some hrun with ⟨i, h1, e⟩ | ⟨V, a1, h1, h2⟩
    · exact ⟨R, a2, d, g, _, rfl, rfl, I, hd, hn, h1, fun T a e => (by cases e), fun j e2 => (by
        cases e2
        exact (kE _ e).mono s1)⟩
    · refine ⟨R, a2, d, g, _, rfl, rfl, I, hd, hn, h1, fun T' a' e2 z H2 I2 s2 hV => ?_, fun i e2 => (by cases e2)⟩
      cases e2
      intro x3 dx3 hx hdx hne
      refine ⟨x3, dx3, [.ref x, .int m, .int r, .ref y, .ref z], rfl, rfl, upd_same, ⟨_, _, _, _, _, rfl, .int m, .int r⟩, ?_, fun H5 H' sm ini => ?_⟩
      · show (([2, 4, 8, 16, 32, 64] : List Int).contains m && (decide (0 ≤ r) && decide (r ≤ m - 1))) = true
        rw [show ([2, 4, 8, 16, 32, 64] : List Int).contains m = true from hm, decide_eq_true hr0, decide_eq_true hr1]
        rfl
      · obtain ⟨t1, t2⟩ := mk_done hx hdx sm ini
        exact ⟨rfl, kO _ a1 (Option.some.inj h2).symm x3 H' (I2.same t1) ((s1.trans s2).trans (.of t1)) (.of (as := [x, y, z]) ⟨dx3, t2⟩ (.cons ((I.nd s2 hT).stay (.of t1)) (.cons ((I.nd s2 hU).stay (.of t1)) (.cons (hV.stay (.of t1)) .nil))))⟩
end
end My

set_option pp.maxSteps 300
set_option Elab.async false
set_option linter.all false
set_option maxRecDepth 100000
set_option maxHeartbeats 1000000
namespace My
open PySem L2 MyR RT
/-! ### what is read first -/
section
variable {P : Program} {w : World} {K : PySem.W.Frag} {mg : Str → Option Value} {base : Heap}
abbrev s_Reader_plain : Stmt := inClass (top 40) 11
abbrev N_Reader_plain : List Str := ["self", "word", "value"]
theorem sc_Reader_plain : FnScope N_Reader_plain ["self"] (defScope s_Reader_plain) := ⟨rfl, rfl, rfl, by decide +kernel, rfl, by decide +kernel, by decide +kernel⟩
theorem intV_bd {l : List Nat} {z : Int} (h : intV l = some z) : -18446744073709551616 < z ∧ z < 18446744073709551616 := by
  unfold intV at h
  cases e : sgV l with
  | none =>
    rw [e] at h
    cases h
  | some y =>
    rw [e] at h
    have h : (if -18446744073709551616 < y ∧ y < 18446744073709551616 then some y else none) = some z := h
    by_cases q : -18446744073709551616 < y ∧ y < 18446744073709551616
    · rw [if_pos q] at h
      cases h
      exact q
    · rw [if_neg q] at h
      cases h
theorem st_eq (l k : List Nat) {s : Str} (h : s = wd k) : decide (V.str (wd l) = V.str s) = decide (l = k) := by
  rw [h]
  exact decide_eq_decide.mpr ⟨fun q => wd_inj (V.str.inj q), fun q => by rw [q]⟩
theorem ok_Reader_plain {f C cT cC : Addr} {c : CA} {fd : FuncData} {n : Nat} (F : Fun K "plain" "Reader.plain" s_Reader_plain f fd) (C0 : RdC K C) (M : Mks P w K mg base c) (ET : ErrT P w K mg base cT) (D_number_value : Df P w K mg base 3 "number_value" ["word"] spNv) (D_is_name : Df P w K mg base 1 "is_name" ["value"] spIsName) (MH : Mt P w K mg base CX0 C 1 "here" ["self"] (spHere C))
    (MEn : Mt P w K mg base (L2.CX P w) C (7 * n + 15) "enclosed" ["self"] (spEnc C cT c cC n)) (MCd : Mt P w K mg base (L2.CX P w) C (7 * n + 15) "called" ["self", "name"] (spCd C cT c cC n)) : FnOk P w K mg base (L2.CX P w) (7 * n + 16) f fd ["self"] (spJob C cT c cC .atom n) := by
  refine F.okX (k := 7 * n + 15) sc_Reader_plain (fun vs H Q E h => ?_) (fun cdv A outer s H vs Q E hr h => ?_)
  · obtain ⟨R, a, d, g, res, rfl, _⟩ := h
    rfl
  · obtain ⟨R, a, d, g, res, rfl, rfl, I, hd, hn, hrun, kO, kE⟩ := h
    have nd := sc_Reader_plain.nd
    refine ⟨_, (pss_cons (ps_set (i := 1) nd rfl (Or.inl rfl) (pe_meth0 (pv 0) C0.cl MH.m MH.ok (hr.mono (by omega)) MH.b .nil pass0))
    (pss_cons (ps_if (pt_cmpR op_eq (pv 1) pe_str (nomark _))
    (pss_one (ps_ret (pe_meth0 (pv 0) C0.cl MEn.m MEn.ok hr MEn.b .nil (fun pins σ H s e s' I c => passAt (takes_of rfl rfl rfl rfl) σ pins H s e s' I c))))
    pss_nil)
    (pss_cons (ps_set (i := 2) nd rfl (Or.inl rfl) (pe_call D_number_value.ok (hr.mono (by omega)) (by rfl) D_number_value.g D_number_value.kp D_number_value.b .nil pass0 (pa_cons (pv 1) pa_nil)))
    (pss_cons (ps_if (PW.pt (pw_and (pt_cmpR op_isN (pv 2) pe_non (nomark _)) (pw_and1 (pt_not (pt_val (pe_call D_is_name.ok (hr.mono (by omega)) (by rfl) D_is_name.g D_is_name.kp D_is_name.b .nil pass0 (pa_cons (pv 1) pa_nil)))))))
    (pss_one (ps_raise rfl (takes_of rfl rfl rfl rfl) (pmk_oex ET.x ET.i ET.t ET.ok (hr.mono (by omega)) ET.b .nil pass0 (by rfl) ET.g (pa_cons (pe_fld (pv 0) rfl) pa_nil))))
    pss_nil)
    (pss_cons (ps_fldaug (pv 0) pe_int in_add)
    (pss_cons (ps_if (pt_cmpR op_notN (pv 2) pe_non (nomark _))
    (pss_one (ps_ret (pe_make M.num.m M.num.ok (hr.mono (by omega)) (by rfl) M.num.g M.num.b .nil pass0 (pa_cons (pv 2) pa_nil))))
    pss_nil)
    (pss_one (ps_ret (pe_ifExp (pt_cmpR op_eq (pe_meth0 (pv 0) C0.cl MH.m MH.ok (hr.mono (by omega)) MH.b .nil pass0) pe_str (nomark _)) (pe_meth (pv 0) C0.cl MCd.m MCd.ok hr MCd.b .nil (fun pins σ H s e s' I c => passAt (takes_of rfl rfl rfl rfl) σ pins H s e s' I c) (pa_cons (pv 1) pa_nil)) (pe_make M.nam.m M.nam.ok (hr.mono (by omega)) (by rfl) M.nam.g M.nam.b .nil pass0 (pa_cons (pv 1) pa_nil))))))))))), ?_⟩
    have wl := tk_len I.k a
    cases g with
    | zero => cases hrun
    | succ g =>
    have hrun0 := hrun
    unfold run at hrun
    refine seq_by (fun σ H1 => σ = [some (.ref R.r), some (.str (wd (tk R.ws a))), none] ∧ H = H1) (fun D' hD' => ?_) ?_
    · exact ⟨_, rfl, R.r, R.dx, _, rfl, I.o, rfl, R, a, d, rfl, rfl, I, hD' _ _ ⟨rfl, rfl⟩⟩
    rintro σ H1 ⟨rfl, rfl⟩
    refine seq_rt (fun σ H1 => σ = [some (.ref R.r), some (.str (wd (tk R.ws a))), none] ∧ H = H1 ∧ tk R.ws a ≠ wOpen) (fun D' hD' => ?_) ?_
    · refine ⟨_, rfl, rfl, _, rfl, ?_⟩
      rw [st_eq _ _ st_open]
      refine ite2 (fun z => ?_) (fun z => hD' _ _ ⟨rfl, rfl, fun q => z (decide_eq_true q)⟩)
      exact ⟨_, rfl, R.r, R.dx, _, rfl, I.o, rfl, R, a, d, g + 1, res, rfl, rfl, I, hd, hn, of_decide_eq_true z, hrun0, kO, kE⟩
    rintro σ H1 ⟨rfl, rfl, ho⟩
    rw [if_neg ho] at hrun
    refine seq_by (fun σ H2 => σ = [some (.ref R.r), some (.str (wd (tk R.ws a))), some (optV (intV (tk R.ws a)))] ∧ Same H H2) (fun D' hD' => ?_) ?_
    · exact ⟨_, rfl, _, rfl, wl, fun H' s' => hD' _ _ ⟨rfl, s'⟩⟩
    rintro σ H2 ⟨rfl, s2⟩
    cases hv : intV (tk R.ws a) with
    | some z =>
      have hb := intV_bd hv
      rw [hv] at hrun
      have er : res = .ok (.mk (.num z) []) (a + 1) := (Option.some.inj hrun).symm
      have I2 := I.same s2
      refine ⟨_, rfl, rfl, _, rfl, ?_⟩
      refine iteF ?_
      refine ⟨_, rfl, R.r, R.C, R.dx, _, _, rfl, I2.o, C0.cl, C0.n2, rfl, _, _, rfl, rfl, R.dx, _, I2.o, (by show 3 < 1000; decide), ?_⟩
      refine ⟨_, rfl, rfl, _, rfl, iteT ?_⟩
      refine ⟨_, rfl, fun x dx hx hdx hne => ?_⟩
      refine ⟨x, dx, [.int z], rfl, rfl, upd_same, ⟨_, rfl, .int z⟩, ?_, fun H5 H' sm ini => ?_⟩
      · show (decide (-18446744073709551615 ≤ z) && decide (z ≤ 18446744073709551615)) = true
        rw [decide_eq_true (show -18446744073709551615 ≤ z by omega), decide_eq_true (show z ≤ 18446744073709551615 by omega)]
        rfl
      · obtain ⟨t1, t2⟩ := mk_done hx hdx sm ini
        exact ⟨rfl, kO _ _ er x H' ((I2.go (a + 1) d).same t1) ((SameP.of s2).up.trans (.of t1)) (.of (as := []) ⟨dx, t2⟩ .nil)⟩
    | none =>
      rw [hv] at hrun
      have hrun : (if isNm (tk R.ws a) = true then if tk R.ws (a + 1) = wOpen then if d = 20 then some (.fail (a + 1)) else run R.ws g (.args (tk R.ws a) []) (a + 2) (d + 1) else some (.ok (.mk (.nam (tk R.ws a)) []) (a + 1)) else some (.fail a)) = some res := hrun
      have argw : Arg H2 (.str (wd (tk R.ws a))) := .str _ (by rw [wd_len]; omega)
      refine ⟨_, rfl, rfl, _, rfl, iteT ?_⟩
      refine ⟨_, rfl, _, rfl, argw, fun H3 s3 => ⟨_, rfl, ?_⟩⟩
      have s23 := s2.trans s3
      have I3 := I.same s23
      have en : nmV (.str (wd (tk R.ws a))) = isNm (tk R.ws a) := rfl
      rw [en]
      cases hm : isNm (tk R.ws a) with
      | false =>
        rw [hm, if_neg (by decide)] at hrun
        refine iteT ⟨_, rfl, R.r, R.C, R.dx, _, _, rfl, I3.o, C0.cl, C0.n2, rfl, (by show 1 ≤ 1000; decide), ?_⟩
        exact inv_text fun x H' s' hx => kE a (Option.some.inj hrun).symm x H' (SameP.of (s23.trans s')) hx
      | true =>
        rw [if_pos hm] at hrun
        refine iteF ?_
        refine ⟨_, rfl, R.r, R.C, R.dx, _, _, rfl, I3.o, C0.cl, C0.n2, rfl, _, _, rfl, rfl, R.dx, _, I3.o, (by show 3 < 1000; decide), ?_⟩
        have I4 := I3.go (a + 1) d
        have s4 : SameP R.r H (upd H3 R.r (.ins R.C R.dx [("words", .ref R.L), ("at", .int ((a + 1 : Nat) : Int)), ("depth", .int (d : Int))])) := (SameP.of s23).up
        refine ⟨_, rfl, rfl, _, rfl, iteF ?_⟩
        refine ⟨_, rfl, R.r, R.dx, _, rfl, I4.o, rfl, R, a + 1, d, rfl, rfl, I4, rfl, _, rfl, ?_⟩
        rw [st_eq _ _ st_open]
        refine ite2 (fun z => ?_) (fun z => ?_)
        · have z := of_decide_eq_true z
          rw [if_pos z] at hrun
          exact ⟨_, rfl, R.r, R.dx, _, rfl, I4.o, rfl, _, rfl, R, a + 1, d, g, res, tk R.ws a, rfl, rfl, I4, hd, hn, hm, z, hrun, fun T b e x H' I' s' hT => kO T b e x H' I' (s4.trans s') hT, fun i e => (kE i e).mono s4⟩
        · rw [if_neg (fun q => z (decide_eq_true q))] at hrun
          have er : res = .ok (.mk (.nam (tk R.ws a)) []) (a + 1) := (Option.some.inj hrun).symm
          refine ⟨_, rfl, fun x dx hx hdx hne => ?_⟩
          refine ⟨x, dx, [.str (wd (tk R.ws a))], rfl, rfl, upd_same, ⟨_, rfl, .str _ (by rw [wd_len]; omega)⟩, hm, fun H5 H' sm ini => ?_⟩
          obtain ⟨t1, t2⟩ := mk_done hx hdx sm ini
          exact ⟨rfl, kO _ _ er x H' (I4.same t1) (s4.trans (.of t1)) (.of (as := []) ⟨dx, t2⟩ .nil)⟩
end
end My

set_option pp.maxSteps 300
set_option Elab.async false
set_option linter.all false
set_option maxRecDepth 100000
set_option maxHeartbeats 1000000
namespace My
open PySem L2 MyR RT
section
variable {P : Program} {w : World} {K : PySem.W.Frag} {mg : Str → Option Value} {base : Heap}
theorem drop_at {α : Type} {l : List α} {i : Nat} {x : α} (hi : i < l.length) (h : l[l.length - 1 - i]? = some x) : l.drop (l.length - (i + 1)) = x :: l.drop (l.length - i) := by
  have hj : l.length - 1 - i < l.length := by omega
  rw [List.getElem?_eq_getElem hj] at h
  have e := Option.some.inj h
  rw [show l.length - (i + 1) = l.length - 1 - i by omega, List.drop_eq_getElem_cons hj, e, show l.length - 1 - i + 1 = l.length - i by omega]
theorem ok_Reader_tight {f C cT cC : Addr} {c : CA} {fd : FuncData} {n tT : Nat} (F : Fun K "tight" "Reader.tight" s_Reader_tight f fd) (T0 : Glob mg) (C0 : RdC K C) (M : Mks P w K mg base c) (hMT : mg "MOST_TIMES" = some (.int 64 tT)) (MT : Mt P w K mg base CX0 C 2 "took" ["self", "word"] (spTook C)) (MB : Mt P w K mg base (L2.CX P w) C 4 "need_number" ["self", "least", "most"] (spNbr C cT))
    (MS : Mt P w K mg base (L2.CX P w) C (7 * n + 17) "step" ["self", "waiting"] (spStep C cT c cC n)) : FnOk P w K mg base (L2.CX P w) (7 * n + 18) f fd ["self"] (spJob C cT c cC .fac n) := by
  refine F.okX (k := 7 * n + 17) sc_Reader_tight (fun vs H Q E h => ?_) (fun cdv A outer s H vs Q E hr h => ?_)
  · obtain ⟨R, a, d, g, res, rfl, _⟩ := h
    rfl
  · obtain ⟨R, a, d, g, res, rfl, hC, I, hd, hn, hrun, kO, kE⟩ := h
    have nd := sc_Reader_tight.nd
    refine ⟨_, (pss_cons (ps_set (i := 1) nd rfl (Or.inl rfl) (pe_lst pa_nil))
    (pss_cons (ps_set (i := 2) nd rfl (Or.inl rfl) (pe_meth (pv 0) C0.cl MS.m MS.ok hr MS.b .nil (fun pins σ H s e s' I c => passAt (takes_of rfl rfl rfl rfl) σ pins H s e s' I c) (pa_cons (pv 1) pa_nil)))
    (pss_cons (ps_while (passes_of rfl) (pt_cmpR op_isN (pv 2) pe_non (nomark _))
    (pss_one (ps_set (i := 2) nd rfl (Or.inl rfl) (pe_meth (pv 0) C0.cl MS.m MS.ok hr MS.b .nil (fun pins σ H s e s' I c => passAt (takes_of rfl rfl rfl rfl) σ pins H s e s' I c) (pa_cons (pv 1) pa_nil)))))
    (pss_cons (ps_if (pt_val (pe_meth (pv 0) C0.cl MT.m MT.ok (hr.mono (by omega)) MT.b .nil pass0 (pa_cons pe_str pa_nil)))
    (pss_one (ps_set (i := 2) nd rfl (Or.inl rfl) (pe_make M.pow.m M.pow.ok (hr.mono (by omega)) (by rfl) M.pow.g M.pow.b .nil pass0 (pa_cons (pv 2) (pa_cons (pe_meth (pv 0) C0.cl MB.m MB.ok (hr.mono (by omega)) MB.b .nil (fun pins σ H s e s' I c => passAt (takes_of rfl rfl rfl rfl) σ pins H s e s' I c) (pa_cons pe_int (pa_cons (pe_glob (v := .int 64) rfl hMT ⟨_, rfl⟩) pa_nil))) pa_nil)))))
    pss_nil)
    (pss_cons (ps_for (passes_of rfl) rfl (pi_revA (by rfl) T0.g_reversed (pv 1)) (pg_name (i := 3) nd rfl (Or.inl rfl))
    (pss_one (ps_set (i := 2) nd rfl (Or.inl rfl) (pe_ifExp (pt_cmpR op_isN (pv 3) pe_non (nomark _)) (pe_make M.half.m M.half.ok (hr.mono (by omega)) (by rfl) M.half.g M.half.b .nil pass0 (pa_cons (pv 2) pa_nil)) (pe_make M.rai.m M.rai.ok (hr.mono (by omega)) (by rfl) M.rai.g M.rai.b .nil pass0 (pa_cons (pv 3) (pa_cons (pv 2) pa_nil)))))))
    (pss_one (ps_ret (pv 2)))))))), ?_⟩
    have zl' : 16777216 = sizeLine := sizeLine_eq.symm
    refine seq_by (fun σ H1 => ∃ W : Addr, σ = [some (.ref R.r), some (.ref W), none, none] ∧ H W = none ∧ Same H H1 ∧ H1 W = some (.lst [])) (fun D' hD' => ?_) ?_
    · exact ⟨(by show 0 ≤ sizeLine; omega), fun L hL => hD' _ _ ⟨L, rfl, hL, new_same hL, upd_same⟩⟩
    rintro σ H1 ⟨W, rfl, hW0, s1, hW1⟩
    have I1 := I.same s1
    have nWL : W ≠ R.L := fun e => by
      have := I.l
      rw [← e, hW0] at this
      cases this
    refine seq_by (fun σ H2 => ∃ v b, σ = [some (.ref R.r), some (.ref W), some v, none] ∧ Tg R c cC H W d res v b H2) (fun D' hD' => ?_) ?_
    · refine ⟨_, rfl, R.r, R.dx, _, rfl, (by rw [← hC]; exact I1.o), rfl, _, rfl, step_use (c := c) (o := []) (acc := []) hC hd hn hW0 nWL kE (SameP.of s1) I1 hW1 .nil (Nat.zero_le _) (.inl rfl) hrun (by cases res <;> rfl) fun v H2 b _ _ q => hD' _ _ ⟨v, b, rfl, q⟩⟩
    rintro σ H2 ⟨v, b, rfl, q0⟩
    refine seq_by (fun σ H3 => ∃ (x : Addr) (T : Tr) (b : Nat) (o : List (Option Tr)) (acc : List V) (r1 : Res), σ = [some (.ref R.r), some (.ref W), some (.ref x), none] ∧ SameP R.r H H3 ∧ R.At H3 b d ∧ H3 W = some (.lst acc) ∧ All2 (RW c cC H3) o acc ∧ NdAt c cC H3 T x ∧ tailR R.ws T b = some r1 ∧ res = wrapR o r1) (fun D' hD' => ?_) ?_
    · refine while_by (fun σ H2 => ∃ v b, σ = [some (.ref R.r), some (.ref W), some v, none] ∧ Tg R c cC H W d res v b H2) (fun _ H2 => 2000 - atOf (H2 R.r)) ⟨v, b, rfl, q0⟩ ?_ ?_
      · clear q0
        rintro σ H3 ⟨v, b, rfl, o, acc, s3, I3, hW3, ao, l1, l2, q⟩
        have kn := I3.k.n
        rcases q with ⟨rfl, g2, r1, h2, e2⟩ | ⟨T, x, r1, rfl, hT, h2, e2⟩
        · refine ⟨_, rfl, rfl, _, rfl, iteT ?_⟩
          refine ⟨_, rfl, R.r, R.dx, _, rfl, (by rw [← hC]; exact I3.o), rfl, _, rfl, ?_⟩
          unfold tNil
          show spStep C cT c cC n [.ref R.r, .ref W] H3 _ E
          apply step_use (c := c) hC hd hn hW0 nWL kE s3 I3 hW3 ao l1 l2 h2 e2
          intro v H4 b2 k1 k2 q
          refine ⟨⟨v, b2, rfl, q⟩, ?_⟩
          obtain ⟨_, _, _, I4, _⟩ := q
          rw [I4.of, I3.of]
          omega
        · refine ⟨_, rfl, rfl, _, rfl, iteF ?_⟩
          exact hD' _ _ ⟨x, T, b, o, acc, r1, rfl, s3, I3, hW3, ao, hT, h2, e2⟩
      · intro σ H2 Q1 Q2 hq hc
        obtain ⟨y, e1, e2, p, e3, e4⟩ := hc
        exact ⟨y, e1, e2, p, e3, hq _ _ e4⟩
    clear q0
    rintro σ H3 ⟨x, T, b, o, acc, r1, rfl, s3, I3, hW3, ao, hT, ht, e⟩
    have nWr : W ≠ R.r := fun e => by
      have := I.o
      rw [← e, hW0] at this
      cases this
    refine seq_by (fun σ H4 => ∃ (x : Addr) (T : Tr) (b : Nat), σ = [some (.ref R.r), some (.ref W), some (.ref x), none] ∧ SameP R.r H H4 ∧ R.At H4 b d ∧ H4 W = some (.lst acc) ∧ All2 (RW c cC H4) o acc ∧ NdAt c cC H4 T x ∧ res = .ok (wrapT o T) b) (fun D' hD' => ?_) ?_
    · unfold tailR at ht
      refine ⟨_, rfl, R.r, R.dx, _, rfl, (by rw [← hC]; exact I3.o), rfl, R, b, d, wPow, vs2 st_pow, hC, I3, by decide, fun z H4 I4 s4 => ⟨_, rfl, iteT ?_⟩, fun z => ⟨_, rfl, iteF ?_⟩⟩
      · rw [if_pos z] at ht
        have hT4 := I3.nd s4 hT
        have hW4 := s4 _ _ hW3 nWr
        have ao4 := ao.imp fun o v q => RW.imp (fun T x q => I3.nd s4 q) q
        rcases nn_some ht with ⟨m, n1, n2, n3, n4⟩ | ⟨n1, n2⟩
        · refine ⟨_, rfl, _, rfl, R.r, R.dx, _, rfl, (by rw [← hC]; exact I4.o), rfl, R, b + 1, d, 0, 64, rfl, hC, I4, fun m' q1 q2 q3 H5 I5 s5 => ?_, fun q => absurd ⟨n2, n3⟩ (q m n1)⟩
          rw [n1] at q1
          obtain rfl := Option.some.inj q1
          intro x3 dx3 hx hdx hne
          refine ⟨x3, dx3, [.ref x, .int m], rfl, rfl, upd_same, ⟨_, _, rfl, .int m⟩, ?_, fun H6 H7 sm ini => ⟨rfl, ?_⟩⟩
          · show (decide (0 ≤ m) && decide (m ≤ 64)) = true
            rw [decide_eq_true n2, decide_eq_true n3]
            rfl
          · obtain ⟨t1, t2⟩ := mk_done hx hdx sm ini
            refine hD' _ _ ⟨x3, .mk (.pow m) [T], b + 1 + 1, rfl, (s3.trans (s4.trans s5)).trans (.of t1), I5.same t1, t1 _ _ (s5 _ _ hW4 nWr), ao4.imp fun o v q => RW.imp (fun T x q => (I4.nd s5 q).stay (.of t1)) q, .of (as := [x]) ⟨dx3, t2⟩ (.cons ((I4.nd s5 hT4).stay (.of t1)) .nil), ?_⟩
            rw [e, ← Option.some.inj n4]
            rfl
        · exact ⟨_, rfl, _, rfl, R.r, R.dx, _, rfl, (by rw [← hC]; exact I4.o), rfl, R, b + 1, d, 0, 64, rfl, hC, I4, fun m' q1 q2 q3 => absurd ⟨q2, q3⟩ (n1 m' q1), fun _ => (kE _ (by rw [e, n2]; rfl)).mono (s3.trans s4)⟩
      · rw [if_neg z] at ht
        refine hD' _ _ ⟨x, T, b, rfl, s3, I3, hW3, ao, hT, ?_⟩
        rw [e, ← Option.some.inj ht]
        rfl
    clear s3 I3 hW3 ao hT ht e
    rintro σ H4 ⟨x, T, b, rfl, s4, I4, hW4, ao, hT, e⟩
    have ol := ao.len
    refine seq_by (fun σ H5 => ∃ (x : Addr) (a4 : Option V), σ = [some (.ref R.r), some (.ref W), some (.ref x), a4] ∧ SameP R.r H H5 ∧ R.At H5 b d ∧ NdAt c cC H5 (wrapT o T) x) (fun D' hD' => ?_) ?_
    · refine ⟨_, rfl, W, acc, rfl, .inl ⟨SqL.of hW4, ?_⟩⟩
      refine for_it walk_rev (fun i σ H5 => ∃ (x : Addr) (a4 : Option V), σ = [some (.ref R.r), some (.ref W), some (.ref x), a4] ∧ SameP R.r H H5 ∧ R.At H5 b d ∧ H5 W = some (.lst acc) ∧ All2 (RW c cC H5) o acc ∧ NdAt c cC H5 (wrapT (o.drop (o.length - i)) T) x) ⟨x, none, rfl, s4, I4, hW4, ao, ?_⟩ (fun i σ H5 _ h => by obtain ⟨_, _, _, _, _, h, _⟩ := h; exact SqL.of h) ?_ ?_
      · rw [Nat.sub_zero, List.drop_length]
        exact hT
      · rintro i v σ H5 H6 hi ⟨x5, a4, rfl, s5, I5, hW5, ao5, hT5⟩ ⟨rfl, hv⟩
        obtain ⟨u, hu, ru⟩ := ao5.get hv
        rw [← ol] at hu hi
        have hdr := drop_at hi hu
        cases u with
        | none =>
          have ru : v = .non := ru
          subst ru
          refine ⟨_, rfl, rfl, _, rfl, iteT ?_⟩
          refine ⟨_, rfl, fun x3 dx3 hx hdx hne => ⟨x3, dx3, _, rfl, upd_same, fun H7 ini => ⟨rfl, ?_⟩⟩⟩
          obtain ⟨t1, t2⟩ := mk_done hx hdx (Same.refl _) ini
          refine ⟨x3, _, rfl, s5.trans (.of t1), I5.same t1, t1 _ _ hW5, ao5.imp fun o v q => RW.imp (fun T x q => q.stay (.of t1)) q, ?_⟩
          rw [hdr]
          exact .of (as := [x5]) ⟨dx3, t2⟩ (.cons (hT5.stay (.of t1)) .nil)
        | some U =>
          obtain ⟨y, rfl, hU⟩ := ru
          refine ⟨_, rfl, rfl, _, rfl, iteF ?_⟩
          refine ⟨_, rfl, _, rfl, fun x3 dx3 hx hdx hne => ⟨x3, dx3, _, _, rfl, upd_same, fun H7 ini => ⟨rfl, ?_⟩⟩⟩
          obtain ⟨t1, t2⟩ := mk_done hx hdx (Same.refl _) ini
          refine ⟨x3, _, rfl, s5.trans (.of t1), I5.same t1, t1 _ _ hW5, ao5.imp fun o v q => RW.imp (fun T x q => q.stay (.of t1)) q, ?_⟩
          rw [hdr]
          exact .of (as := [y, x5]) ⟨dx3, t2⟩ (.cons (hU.stay (.of t1)) (.cons (hT5.stay (.of t1)) .nil))
      · rintro σ H5 ⟨x5, a4, rfl, s5, I5, hW5, ao5, hT5⟩
        rw [ol, Nat.sub_self, List.drop_zero] at hT5
        exact hD' _ _ ⟨x5, a4, rfl, s5, I5, hT5⟩
    rintro σ H5 ⟨x5, a4, rfl, s5, I5, hT5⟩
    exact ⟨_, rfl, kO _ b e x5 H5 I5 s5 hT5⟩
end
end My

set_option pp.maxSteps 300
set_option Elab.async false
set_option linter.all false
set_option maxRecDepth 100000
set_option maxHeartbeats 1000000
namespace My
open PySem L2 MyR RT
/-! ### all the methods together -/
/-- a method of a class -/
structure Me (K : PySem.W.Frag) (C : Addr) (x q : Str) (st : Stmt) (ps : List Str) where
  f : Addr
  fd : FuncData
  m : Meth K C x f
  F : Fun K x q st f fd
  b : Binds K fd ps []
structure RdS (K : PySem.W.Frag) (C : Addr) where
  here : Me K C "here" "Reader.here" s_Reader_here ["self"]
  took : Me K C "took" "Reader.took" s_Reader_took ["self", "word"]
  need : Me K C "need" "Reader.need" s_Reader_need ["self", "word"]
  nbr : Me K C "need_number" "Reader.need_number" s_Reader_need_number ["self", "least", "most"]
  opn : Me K C "need_open" "Reader.need_open" s_Reader_need_open ["self"]
  cls : Me K C "need_close" "Reader.need_close" s_Reader_need_close ["self"]
  whole : Me K C "whole" "Reader.whole" s_Reader_whole ["self"]
  prod : Me K C "product" "Reader.product" s_Reader_product ["self"]
  tight : Me K C "tight" "Reader.tight" s_Reader_tight ["self"]
  step : Me K C "step" "Reader.step" s_Reader_step ["self", "waiting"]
  plain : Me K C "plain" "Reader.plain" s_Reader_plain ["self"]
  called : Me K C "called" "Reader.called" s_Reader_called ["self", "name"]
  encl : Me K C "enclosed" "Reader.enclosed" s_Reader_enclosed ["self"]
  chosen : Me K C "chosen" "Reader.chosen" s_Reader_chosen ["self"]
section
variable {P : Program} {w : World} {K : PySem.W.Frag} {mg : Str → Option Value} {base : Heap}
theorem rd_whole {C cT cC aM : Addr} {c : CA} {tO tT : Nat} (S : RdS K C) (T0 : Glob mg) (C0 : RdC K C) (M : Mks P w K mg base c) (CC : Mo P w K mg base CX0 2 "Call" cC ["self", "name", "arguments"] (spCall6 K cC)) (ET : ErrT P w K mg base cT) (hMO : mg "MOST_OPEN" = some (.int 20 tO)) (hMT : mg "MOST_TIMES" = some (.int 64 tT)) (hM : mg "MODULI" = some (.ref aM)) (hMd : ∀ H, SqT K H aM ([2, 4, 8, 16, 32, 64].map V.int))
    (D_digits_value : Df P w K mg base 1 "digits_value" ["word"] spDigits) (D_number_value : Df P w K mg base 3 "number_value" ["word"] spNv) (D_is_name : Df P w K mg base 1 "is_name" ["value"] spIsName) :
    ∀ n : Nat, FnOk P w K mg base (L2.CX P w) (7 * n + 20) S.whole.f S.whole.fd ["self"] (spJob C cT c cC .sum n) := by
  have MH : Mt P w K mg base CX0 C 1 "here" ["self"] (spHere C) := ⟨_, _, S.here.m, ok_Reader_here S.here.F T0 C0, S.here.b⟩
  have MT : Mt P w K mg base CX0 C 2 "took" ["self", "word"] (spTook C) := ⟨_, _, S.took.m, ok_Reader_took S.took.F C0 MH, S.took.b⟩
  have MN : Mt P w K mg base (L2.CX P w) C 4 "need" ["self", "word"] (spNeed C cT) := ⟨_, _, S.need.m, ok_Reader_need S.need.F C0 ET MT, S.need.b⟩
  have MB : Mt P w K mg base (L2.CX P w) C 4 "need_number" ["self", "least", "most"] (spNbr C cT) := ⟨_, _, S.nbr.m, ok_Reader_need_number S.nbr.F C0 ET MH D_digits_value, S.nbr.b⟩
  have MO : Mt P w K mg base (L2.CX P w) C 5 "need_open" ["self"] (spOpen C cT) := ⟨_, _, S.opn.m, ok_Reader_need_open S.opn.F C0 ET hMO MN, S.opn.b⟩
  have MX : Mt P w K mg base (L2.CX P w) C 5 "need_close" ["self"] (spClose C cT) := ⟨_, _, S.cls.m, ok_Reader_need_close S.cls.F C0 MN, S.cls.b⟩
  have up : ∀ n : Nat, FnOk P w K mg base (L2.CX P w) (7 * n + 15) S.encl.f S.encl.fd ["self"] (spEnc C cT c cC n) → FnOk P w K mg base (L2.CX P w) (7 * n + 15) S.called.f S.called.fd ["self", "name"] (spCd C cT c cC n) → FnOk P w K mg base (L2.CX P w) (7 * n + 20) S.whole.f S.whole.fd ["self"] (spJob C cT c cC .sum n) := by
    intro n hE hC
    have MP : Mt P w K mg base (L2.CX P w) C (7 * n + 16) "plain" ["self"] (spJob C cT c cC .atom n) := ⟨_, _, S.plain.m, ok_Reader_plain S.plain.F C0 M ET D_number_value D_is_name MH ⟨_, _, S.encl.m, hE, S.encl.b⟩ ⟨_, _, S.called.m, hC, S.called.b⟩, S.plain.b⟩
    have MS : Mt P w K mg base (L2.CX P w) C (7 * n + 17) "step" ["self", "waiting"] (spStep C cT c cC n) := ⟨_, _, S.step.m, ok_Reader_step S.step.F C0 MT MP, S.step.b⟩
    have MI : Mt P w K mg base (L2.CX P w) C (7 * n + 18) "tight" ["self"] (spJob C cT c cC .fac n) := ⟨_, _, S.tight.m, ok_Reader_tight S.tight.F T0 C0 M hMT MT MB MS, S.tight.b⟩
    have MD : Mt P w K mg base (L2.CX P w) C (7 * n + 19) "product" ["self"] (spJob C cT c cC .prod n) := ⟨_, _, S.prod.m, ok_Reader_product S.prod.F C0 M MH MT MN MI, S.prod.b⟩
    exact ok_Reader_whole S.whole.F C0 M MH MT MN MD
  have both : ∀ n : Nat, FnOk P w K mg base (L2.CX P w) (7 * n + 15) S.encl.f S.encl.fd ["self"] (spEnc C cT c cC n) ∧ FnOk P w K mg base (L2.CX P w) (7 * n + 15) S.called.f S.called.fd ["self", "name"] (spCd C cT c cC n) := by
    intro n
    induction n with
    | zero => exact ⟨ok_Reader_enclosed0 S.encl.F C0 MO, ok_Reader_called0 S.called.F C0 MO⟩
    | succ n ih =>
      have MW : Mt P w K mg base (L2.CX P w) C (7 * n + 20) "whole" ["self"] (spJob C cT c cC .sum n) := ⟨_, _, S.whole.m, up n ih.1 ih.2, S.whole.b⟩
      have MG : Mt P w K mg base (L2.CX P w) C (7 * n + 21) "chosen" ["self"] (spJob C cT c cC .cho n) := ⟨_, _, S.chosen.m, ok_Reader_chosen S.chosen.F C0 M ET hM hMd MN MB MW, S.chosen.b⟩
      rw [show 7 * (n + 1) + 15 = 7 * n + 22 by omega]
      exact ⟨ok_Reader_enclosed S.encl.F C0 MT MO MX MW MG, ok_Reader_called S.called.F C0 CC MT MO MX MW⟩
  exact fun n => up n (both n).1 (both n).2
end
end My

set_option pp.maxSteps 300
set_option Elab.async false
set_option linter.all false
set_option maxRecDepth 100000
set_option maxHeartbeats 1000000
namespace My
open PySem L2 MyR RT
/-! ### read_node -/
def spRi (C : Addr) : Sp := fun vs H Q _ => ∃ (p dx : Addr) (t : Str), vs = [.ref p, .str t] ∧ H p = some (.ins C dx []) ∧ t.length ≤ 100000 ∧
  ∀ (L : Addr) H', H L = none → H' p = some (.ins C dx [("words", .ref L), ("at", .int 0), ("depth", .int 0)]) → H' L = some (.lst ((Txt.split t " ").map V.str)) → (∀ b o, H b = some o → b ≠ p → H' b = some o) → Q .non H'
def spRead (cT : Addr) (c : CA) (cC : Addr) : Sp := fun vs H Q E => ∃ (t : Str) (ws : List (List Nat)) (f : Nat) (res : Res), vs = [.str t] ∧ t.length ≤ 100000 ∧ Txt.split t " " = ws.map wd ∧ WsOk ws ∧ run ws f .sum 0 0 = some res ∧
  (∀ T a, res = .ok T a → ws.length ≤ a → ∀ (x : Addr) H', Same H H' → NdAt c cC H' T x → Q (.ref x) H') ∧
  (∀ i, (res = .fail i ∨ ∃ T, res = .ok T i ∧ i < ws.length) → ∀ (x : Addr) H', Same H H' → H' x = some (.xd [("at", .int (i : Int))]) → E (.ref cT) (some x) H')
section
variable {P : Program} {w : World} {K : PySem.W.Frag} {mg : Str → Option Value} {base : Heap}
abbrev s_Reader_init : Stmt := inClass (top 40) 0
abbrev N_Reader_init : List Str := ["self", "text"]
theorem sc_Reader_init : FnScope N_Reader_init ["self", "text"] (defScope s_Reader_init) := ⟨rfl, rfl, rfl, by decide +kernel, rfl, by decide +kernel, by decide +kernel⟩
theorem ok_Reader_init {f C : Addr} {fd : FuncData} (F : Fun K "__init__" "Reader.__init__" s_Reader_init f fd) (C0 : RdC K C) : FnOk P w K mg base CX0 1 f fd ["self", "text"] (spRi C) := by
  refine F.ok sc_Reader_init (fun vs H Q E h => ?_) (fun cdv A outer s H vs Q E hr h => ?_)
  · obtain ⟨p, dx, t, rfl, _⟩ := h
    rfl
  · obtain ⟨p, dx, t, rfl, hp, ht, kq⟩ := h
    have nd := sc_Reader_init.nd
    refine ⟨_, (pss_cons (ps_fld (pv 0) (pe_split (pv 1) pe_str) rfl)
    (pss_cons (ps_fld (pv 0) pe_int rfl)
    (pss_one (ps_fld (pv 0) pe_int rfl)))), ?_⟩
    have zl' : 16777216 = sizeLine := sizeLine_eq.symm
    refine ⟨_, rfl, ⟨_, rfl⟩, t, (" " : Str), rfl, rfl, rfl, by omega, fun L hL => ?_⟩
    have npL : p ≠ L := fun e => by
      rw [← e, hp] at hL
      cases hL
    refine ⟨_, rfl, p, C, dx, _, rfl, by rw [upd_ne npL]; exact hp, C0.cl, C0.n1, (by show 0 < 1000; decide), ?_⟩
    refine ⟨_, rfl, p, C, dx, _, rfl, upd_same, C0.cl, C0.n2, (by show 1 < 1000; decide), ?_⟩
    refine ⟨_, rfl, p, C, dx, _, rfl, upd_same, C0.cl, C0.n3, (by
      rw [show putF "at" (V.int 0) (putF "words" (V.ref L) []) = ([("words", V.ref L), ("at", .int 0)] : List (Str × V)) from (putF_ne (by decide +kernel)).trans rfl]
      show 2 < 1000
      decide), ?_⟩
    refine kq L _ hL ?_ ?_ ?_
    · rw [upd_same]
      show some (HO.ins C dx (putF "depth" (.int 0) (putF "at" (.int 0) (("words", V.ref L) :: [])))) = _
      rw [putF_ne (by decide +kernel), putF_ne (by decide +kernel)]
      show some (HO.ins C dx (("words", V.ref L) :: putF "depth" (.int 0) (("at", .int 0) :: []))) = _
      rw [putF_ne (by decide +kernel)]
      rfl
    · rw [upd_ne (Ne.symm npL), upd_ne (Ne.symm npL), upd_ne (Ne.symm npL), upd_same]
    · intro b o e hb
      rw [upd_ne hb, upd_ne hb, upd_ne hb, upd_ne (ne_of_none e hL)]
      exact e
abbrev s_read_node : Stmt := top 39
abbrev N_read_node : List Str := ["text", "reader", "node"]
theorem sc_read_node : FnScope N_read_node ["text"] (defScope s_read_node) := ⟨rfl, rfl, rfl, by decide +kernel, rfl, by decide +kernel, by decide +kernel⟩
theorem ok_read_node {f C cT cC : Addr} {c : CA} {fd : FuncData} (F : Fun K "read_node" "read_node" s_read_node f fd) (T0 : Glob mg) (C0 : RdC K C) (ET : ErrT P w K mg base cT) (MR : Mo P w K mg base CX0 1 "Reader" C ["self", "text"] (spRi C)) (MW : Mt P w K mg base (L2.CX P w) C 160 "whole" ["self"] (spJob C cT c cC .sum 20)) : FnOk P w K mg base (L2.CX P w) 161 f fd ["text"] (spRead cT c cC) := by
  refine F.okX (k := 160) sc_read_node (fun vs H Q E h => ?_) (fun cdv A outer s H vs Q E hr h => ?_)
  · obtain ⟨t, ws, g, res, rfl, _⟩ := h
    rfl
  · obtain ⟨t, ws, g, res, rfl, ht, hs, hw, hrun, kO, kE⟩ := h
    have nd := sc_read_node.nd
    refine ⟨_, (pss_cons (ps_set (i := 1) nd rfl (Or.inl rfl) (pe_make MR.m MR.ok (hr.mono (by decide)) (by rfl) MR.g MR.b .nil pass0 (pa_cons (pv 0) pa_nil)))
    (pss_cons (ps_set (i := 2) nd rfl (Or.inl rfl) (pe_meth0 (pv 1) C0.cl MW.m MW.ok hr MW.b .nil (fun pins σ H s e s' I c => passAt (takes_of rfl rfl rfl rfl) σ pins H s e s' I c)))
    (pss_cons (ps_if (pt_cmpR op_lt (pe_fld (pv 1) rfl) (pe_callB call_len_seq (by rfl) T0.g_len PySem.boot_len (pa_cons (pe_fld (pv 1) rfl) pa_nil)) (nomark _))
    (pss_one (ps_raise rfl (takes_of rfl rfl rfl rfl) (pmk_oex ET.x ET.i ET.t ET.ok (hr.mono (by decide)) ET.b .nil pass0 (by rfl) ET.g (pa_cons (pe_fld (pv 1) rfl) pa_nil))))
    pss_nil)
    (pss_one (ps_ret (pv 2)))))), ?_⟩
    refine seq_by (fun σ H1 => ∃ R : RX, R.C = C ∧ R.ws = ws ∧ σ = [some (.str t), some (.ref R.r), none] ∧ R.At H1 0 0 ∧ Same H H1 ∧ H R.r = none) (fun D' hD' => ?_) ?_
    · refine ⟨_, rfl, fun x dx hx hdx hne => ⟨x, dx, t, rfl, upd_same, ht, fun L H' hL hp hl hk => ⟨rfl, hD' _ _ ⟨⟨C, x, dx, L, ws⟩, rfl, rfl, rfl, ⟨hp, ?_, hw⟩, fun b o e => ?_, hx⟩⟩⟩⟩
      · rw [hl, hs, List.map_map]
        rfl
      · exact hk b o (by rw [upd_ne (ne_of_none e hx), upd_ne (ne_of_none e hdx)]; exact e) (ne_of_none e hx)
    rintro σ H1 ⟨R, rfl, rfl, rfl, I, s1, hRn⟩
    have back : ∀ {H2 : Hp}, SameP R.r H1 H2 → Same H H2 := fun s2 b o e => s2 b o (s1 b o e) (ne_of_none e hRn)
    refine seq_by (fun σ H2 => ∃ (x : Addr) (T : Tr) (a : Nat), σ = [some (.str t), some (.ref R.r), some (.ref x)] ∧ R.At H2 a 0 ∧ SameP R.r H1 H2 ∧ NdAt c cC H2 T x ∧ res = .ok T a) (fun D' hD' => ?_) ?_
    · exact ⟨_, rfl, R.r, R.dx, _, rfl, I.o, rfl, R, 0, 0, g, res, rfl, rfl, I, by decide, by decide, hrun, fun T a e x H2 I2 s2 hT => hD' _ _ ⟨x, T, a, rfl, I2, s2, hT, e⟩, fun i e x H' s' hx => kE i (.inl e) x H' (back s') hx⟩
    rintro σ H2 ⟨x, T, a, rfl, I2, s2, hT, e⟩
    refine ⟨_, rfl, R.r, R.C, R.dx, _, _, rfl, I2.o, C0.cl, C0.n2, rfl, _, rfl, R.r, R.C, R.dx, _, _, rfl, I2.o, C0.cl, C0.n1, rfl, R.L, _, rfl, .inl (SqL.of I2.l), _, _, rfl, rfl, _, rfl, ?_⟩
    rw [List.length_map]
    refine ite2 (fun z => ?_) (fun z => ?_)
    · have z : (a : Int) < (R.ws.length : Int) := of_decide_eq_true z
      refine ⟨_, rfl, R.r, R.C, R.dx, _, _, rfl, I2.o, C0.cl, C0.n2, rfl, (by show 1 ≤ 1000; decide), ?_⟩
      exact inv_text fun y H' s' hx => kE a (.inr ⟨T, e, by omega⟩) y H' ((back s2).trans s') hx
    · have z : ¬ (a : Int) < (R.ws.length : Int) := fun q => z (decide_eq_true q)
      exact ⟨_, rfl, kO T a e (by omega) x H2 (back s2) hT⟩
end
end My

set_option pp.maxSteps 300
set_option Elab.async false
set_option linter.all false
set_option maxRecDepth 100000
set_option maxHeartbeats 1000000
namespace My
open PySem L2 MyR RT
/-! ### what the program tells -/
def tsTold6 (cT : Addr) : Addr → Value → Option Addr → TS := fun a cls d D σ H => ∃ dd : Addr, d = some dd ∧ σ[2]? = some (some (.ref a)) ∧ cls = .ref cT ∧ ∃ i : Int, H dd = some (.xd [("at", .int i)]) ∧ ∀ p H', Same H H' → H' p = some (.tup [.str "wrong", .int i]) → D.nx (σ.set 1 (some (.ref p))) H'
def spTold6 (c : CA) (cC : Addr) : Sp := fun vs H Q _ => ∃ (t : Str) (ws : List (List Nat)) (f : Nat) (res : Res), vs = [.str t] ∧ t.length ≤ 100000 ∧ Txt.split t " " = ws.map wd ∧ WsOk ws ∧ run ws f .sum 0 0 = some res ∧
  (∀ T a, res = .ok T a → ws.length ≤ a → ∀ (p x : Addr) H', Same H H' → NdAt c cC H' T x → H' p = some (.tup [.str "read", .ref x]) → Q (.ref p) H') ∧
  (∀ i, (res = .fail i ∨ ∃ T, res = .ok T i ∧ i < ws.length) → ∀ (p : Addr) H', Same H H' → H' p = some (.tup [.str "wrong", .int (i : Int)]) → Q (.ref p) H')
section
variable {P : Program} {w : World} {K : PySem.W.Frag} {mg : Str → Option Value} {base : Heap}
abbrev s_law_told : Stmt := top 63
abbrev N_law_told : List Str := ["_law_text", "_law_found", "e"]
theorem sc_law_told : FnScope N_law_told ["_law_text"] (defScope s_law_told) := ⟨rfl, rfl, rfl, by decide +kernel, rfl, by decide +kernel, by decide +kernel⟩
theorem ok_law_told {f cT cC : Addr} {c : CA} {fd : FuncData} (F : Fun K "_law_told" "_law_told" s_law_told f fd) (ecT : ExcC K cT) (xfT : XfC K cT) (nAt : PySem.W.findIn K (.ref cT) "at" = some none) (gT : mg "InvalidText" = some (.ref cT)) (exT : PySem.W.exmOne K (.ref cT) (.ref cT) = some true) {fr : Addr} {fdr : FuncData} (okR : FnOk P w K mg base (L2.CX P w) 161 fr fdr ["text"] (spRead cT c cC)) (gR : mg "read_node" = some (.ref fr)) (kR : PySem.W.keepIn K (.ref fr) = true) (bR : Binds K fdr ["text"] []) : FnOk P w K mg base CX0 162 f fd ["_law_text"] (spTold6 c cC) := by
  refine F.ok (k := 161) sc_law_told (fun vs H Q E h => ?_) (fun cdv A outer s H vs Q E hr h => ?_)
  · obtain ⟨t, ws, g, res, rfl, _⟩ := h
    rfl
  · obtain ⟨t, ws, g, res, rfl, ht, hs, hw, hrun, kO, kE⟩ := h
    have nd := sc_law_told.nd
    have hu := hu_of hr
    refine ⟨_, (pss_cons (ps_set (i := 1) nd rfl (Or.inl rfl) (pe_tup (pa_cons pe_str (pa_cons pe_int pa_nil))))
    (pss_cons (ps_try_as (i := 2) (ts := tsTold6 cT) (Wout := fun _ _ _ _ => False) rfl rfl nd rfl rfl ⟨rfl, by decide, .inl gT⟩ takes0
      (fun W pn xe tk _ => (pss_one (ps_set (i := 1) nd rfl (Or.inl rfl) (pe_tup (pa_cons pe_str (pa_cons (pe_callS okR hr (by rfl) gR kR bR (fun σ => passAt tk σ) (pa_cons (pv 0) pa_nil)) pa_nil))))))
      (fun a oe cls d pn hz hf => ⟨fun pins s σ H D I q => by
        obtain ⟨dd, rfl, hσ, rfl, i, hd, k⟩ := q
        refine (pss_one (ps_set (i := 1) nd rfl (Or.inl rfl) (pe_tup (pa_cons pe_str (pa_cons (pe_xf xfT nAt hz hf (pv 2)) pa_nil))))).run pins s σ H D I ?_
        refine ⟨_, hσ, rfl, rfl, dd, _, _, rfl, hd, rfl, (by show 2 ≤ sizeLine; decide), fun p hp => ?_⟩
        exact k p _ (new_same hp) upd_same⟩))
    (pss_one (ps_ret (pv 1))))), ?_⟩
    have zl' : 16777216 = sizeLine := sizeLine_eq.symm
    refine seq_by (fun σ H1 => ∃ q : Addr, σ = [some (.str t), some (.ref q), none] ∧ Same H H1) (fun D' hD' => ?_) ?_
    · exact ⟨(by show 2 ≤ sizeLine; omega), fun q hq => hD' _ _ ⟨q, rfl, new_same hq⟩⟩
    rintro σ H1 ⟨q, rfl, s1⟩
    refine ⟨_, rfl, t, ws, g, res, rfl, ht, hs, hw, hrun, fun T a e ha x H2 s2 hx => ?_, fun i hi dd H2 s2 hd => ?_⟩
    · refine ⟨(by show 2 ≤ sizeLine; omega), fun p hp => ?_⟩
      have sx := new_same (o := .tup [V.str "read", .ref x]) hp
      exact ⟨_, rfl, kO T a e ha p x _ ((s1.trans s2).trans sx) (hx.stay (.of sx)) upd_same⟩
    · refine ⟨true, exT, fun _ e he => ?_, fun q => Bool.noConfusion q⟩
      refine ⟨dd, rfl, rfl, rfl, (i : Int), hd, fun p H3 s3 hp3 => ?_⟩
      exact ⟨_, rfl, kE i hi p H3 ((s1.trans s2).trans s3) hp3⟩
end
end My

set_option Elab.async false
set_option linter.all false
set_option maxRecDepth 100000
set_option maxHeartbeats 1000000
/-! != of tuples whose items have their own == -/
namespace GN
open PySem PySem.SeqAt
open AutoSeq1 (wpAny_loadPart')
open MeetsSeq MeetsSeq2 MeetsSeq3 SeqRoads2
section
variable {prog : Program} {w : World} {A : Around} {R : Result → Shared → Prop}
theorem tuple_neG (l b : Addr) (items items2 : Array Value) (n n2 : Nat) (dd dd2 : Option Addr) (sl sl2 : Array (Option Value)) (hsz : items.size = items2.size) (I : Nat → Shared → Prop)
    (turn : ∀ i (h1 : i < items.size) (h2 : i < items2.size) s, I i s → wpAny (model prog w) A.in1 (eqBool items[i] items2[i]) (fun r s' => r = true ∧ I (i + 1) s') (fun e s' => R (.error e) s') s)
    (fin : ∀ s, I items.size s → R (.ok (.ret (.bool false))) s) {s : Shared} (hl1 : s.heap.get? l = some { cls := .type "tuple", dict := dd, data := .seq items n, slots := sl }) (hb1 : s.heap.get? b = some { cls := .type "tuple", dict := dd2, data := .seq items2 n2, slots := sl2 }) (h : I 0 s) :
    wpAny (model prog w) A.in1 (Builtin.«tuple.__ne__» ⟨[.ref l, .ref b], []⟩) (GQ.FinOf prog w A R) (fun e s' => R (.error e) s') s := by
  have f2 := AutoSeq1.sub_tuple_tuple
  have hZ : (items.toList.zip items2.toList).length = items.size := by simp [hsz]
  have h0 := h
  obtain ⟨hp, g, d, tk, os⟩ := s
  wp_walk using wpAny_loadPart' hl1, wpAny_loadPart' hb1, wpAny_forIn_list _ (fun rest b s' => b.1 = none ∧ ∃ i, rest = (items.toList.zip items2.toList).drop i ∧ i ≤ items.size ∧ I i s') _
  case turn =>
    rintro ⟨y, x⟩ rest b s' ⟨hb', i, hz, hi, hI⟩
    have hlt : i < (items.toList.zip items2.toList).length := by
      rcases Nat.lt_or_ge i (items.toList.zip items2.toList).length with h' | h'
      · exact h'
      · rw [List.drop_of_length_le h'] at hz; cases hz
    have h1 : i < items.size := hZ ▸ hlt
    have h2 : i < items2.size := hsz ▸ h1
    rw [List.drop_eq_getElem_cons hlt] at hz
    injection hz with hyx hrest
    have hy : y = items[i] := by have := congrArg Prod.fst hyx; simpa using this
    have hx : x = items2[i] := by have := congrArg Prod.snd hyx; simpa using this
    subst hy hx
    refine wpAny_bind (wpAny_mono (turn i h1 h2 s' hI) (fun r s2 q2 => ?_) fun _ _ x => x)
    obtain ⟨hr, q2⟩ := q2
    subst hr
    wp_walk
    exact ⟨rfl, i + 1, hrest, h1, q2⟩
  case fin =>
    rintro ⟨b1, b2⟩ s' ⟨hb', i, hz, hi, hI⟩
    simp only at hb'
    subst hb'
    have hge : items.size ≤ i := by
      rcases Nat.lt_or_ge i (items.toList.zip items2.toList).length with h' | h'
      · rw [List.drop_eq_getElem_cons h'] at hz; cases hz
      · exact hZ ▸ h'
    have hi' : i = items.size := by omega
    have hR : R (.ok (.ret (.bool false))) s' := fin s' (hi' ▸ hI)
    wp_walk
    simpa [Builtin.Tuple.tupleCompareSizes, hsz, bne] using hR
  case h =>
    exact ⟨rfl, 0, rfl, Nat.zero_le _, h0⟩
end
section
variable {prog : Program} {w : World} {A : Around} {E : Value → Shared → Prop} {s : Shared}
theorem rc_tupNe {l b : Addr} {items items2 : Array Value} {Q : Value → Shared → Prop} (hsz : items.size = items2.size) (hu : A.units < cLine) (I : Nat → Shared → Prop)
    (hl : s.heap.IsTuple l items) (hb : s.heap.IsTuple b items2)
    (turn : ∀ i (h1 : i < items.size) (h2 : i < items2.size) s, I i s → wpAny (model prog w) A.in1 (eqBool items[i] items2[i]) (fun r s' => r = true ∧ I (i + 1) s') E s)
    (fin : ∀ s, I items.size s → Q (.bool false) s) (h : I 0 s) : wpAny (model prog w) A (richCompare .NotEq (.ref l) (.ref b)) Q E s := by
  obtain ⟨⟨cls, dd, data, sl⟩, ho, hc, n, hd⟩ := id hl
  obtain ⟨⟨cls2, dd2, data2, sl2⟩, ho2, hc2, n2, hd2⟩ := id hb
  simp only at hc hd hc2 hd2
  subst hc hd hc2 hd2
  refine wpAny_richCompare_same_room (op := .NotEq) ⟨_, ho, rfl⟩ ⟨_, ho2, rfl⟩ F.slot_tuple_ne (GQ.call_here F.slot_tuple_ne ⟨_, ho, rfl⟩ F.entry_tuple_ne (F.args_tuple_ne_2 _ _) ?_) hu
  exact tuple_neG (R := wants (fun v s' => v ≠ .notImplemented ∧ Q v s') E) l b items items2 n n2 dd dd2 sl sl2 hsz I turn (fun s' q => ⟨(fun x => nomatch x), fin s' q⟩) ho ho2 h
end
end GN

namespace My
open PySem L2 MyR
def rNeG (D : Eqv) : R2 := fun x y H Q => D x y H ∧ ∀ H', Ext H H' → Q (.bl false) H'
theorem op_neG {X : Cx} {n : Nat} {D : Eqv} (hD : Mon D) (h : EqG X n D) (hr : Room (n + 1) X.A) : OpR X (compareOp .NotEq) (rNeG (DTup X.K D)) := by
  intro pins s σ H x y v u Q I rx ry hq
  obtain ⟨⟨a, b, xs, ys, rfl, rfl, ha, hb, p⟩, q⟩ := hq
  show wpAny (model X.prog X.w) X.A (richCompare .NotEq v u) (EP X pins σ Q) X.xe s
  cases rx
  cases ry
  obtain ⟨its, r, e, z⟩ := I.tuple ha
  obtain ⟨its2, r2, e2, z2⟩ := I.tuple hb
  have hsz : its.toArray.size = its2.toArray.size := by rw [List.size_toArray, List.size_toArray, ← r.length, ← r2.length]; exact p.1
  exact GN.rc_tupNe hsz hr.units0 (fun _ s' => LoopI X pins σ H s') e e2 (fun i h1 h2 s' q => turnG hD h ⟨hr, rfl⟩ p r r2 i h1 h2 s' q) (fun s' ⟨H', I', e'⟩ => ⟨.bl false, H', I', rfl, q H' e'⟩) ⟨H, I, Ext.rfl'⟩
/-- the same node, twice -/
def RNd (c : CA) (cC : Addr) (a b : Addr) (H : Hp) : Prop := ∃ T : Tr, NdAt c cC H T a ∧ NdAt c cC H T b ∧ T.ok ∧ (subT T).length ≤ 1000000
def DNd (c : CA) (cC : Addr) : Eqv := fun x y H => ∃ t : Tag, DIns (t.cls c cC) (RNd c cC) x y H
theorem mon_nd {c : CA} {cC : Addr} : Mon (DNd c cC) := fun x y H H' e ⟨t, d⟩ => ⟨t, mon_ins (fun a b H H' e ⟨T, h1, h2, h3, h4⟩ => ⟨T, h1.stay (.of e), h2.stay (.of e), h3, h4⟩) x y H H' e d⟩
theorem eqG_nd {X : Cx} {c : CA} {cC : Addr} (EQ : EqOk3 X.prog X.w X.K X.mg X.base c cC) : EqG X 4 (DNd c cC) := fun A pins s σ H x y u v sb I rx ry ⟨t, d⟩ =>
  eqG_ins (R := RNd c cC) (E := E0) (EQ.ok.imp fun vs H Q E ⟨a, b, e, ⟨T, h1, h2, h3, h4⟩, q⟩ => ⟨a, b, T, T, e, h1, h2, h3, h3, h4, h4, fun t H' sm ht => by
    have e : t = true := ht.mpr rfl
    rw [e]
    exact q H' sm⟩) (EQ.e t).eq (EQ.e t).fn EQ.b pass0 A pins s σ H x y u v sb I rx ry d
/-- two pairs of a word and a node -/
def DPr (K : PySem.W.Frag) (c : CA) (cC : Addr) : Eqv := DTup K (fun x y H => DFlat x y H ∨ DNd c cC x y H)
theorem op_neN {X : Cx} {P : Program} {w : World} {K : PySem.W.Frag} {mg : Str → Option Value} {base : Heap} {c : CA} {cC : Addr} (EQ : EqOk3 P w K mg base c cC) (h1 : X.prog = P) (h2 : X.w = w) (h3 : X.K = K) (h4 : X.mg = mg) (h5 : X.base = base) (hr : Room 5 X.A) : OpR X (compareOp .NotEq) (rNeG (DPr K c cC)) := by
  subst h1 h2 h3 h4 h5
  exact op_neG (Mon.or mon_flat mon_nd) (EqG.or (eqG_flat.mono (Nat.zero_le 4)) (eqG_nd EQ)) hr
theorem NdAt.ins {c : CA} {cC : Addr} {H : Hp} {T : Tr} {x : Addr} (h : NdAt c cC H T x) : ∃ dx fs, H x = some (.ins (T.tag.cls c cC) dx fs) := by
  obtain ⟨ks, ho, _⟩ := h.open'
  obtain ⟨dx, fs, e, _⟩ := ho.ins
  exact ⟨dx, fs, e⟩
theorem pr_same {K : PySem.W.Frag} {c : CA} {cC : Addr} {H : Hp} {T : Tr} {x y p q : Addr} {s : Str} (hx : NdAt c cC H T x) (hy : NdAt c cC H T y) (hT : T.ok) (hs : (subT T).length ≤ 1000000) (hp : H p = some (.tup [.str s, .ref x])) (hq : H q = some (.tup [.str s, .ref y])) : DPr K c cC (.ref p) (.ref q) H := by
  refine ⟨p, q, _, _, rfl, rfl, SqT.of hp, SqT.of hq, .cons (.inl ⟨rfl, rfl, ?_⟩) (.cons (.inr ⟨T.tag, ?_⟩) .nil)⟩
  · show (s == s) = true
    exact beq_self_eq_true s
  · obtain ⟨dx, fs, e1⟩ := hx.ins
    obtain ⟨dy, gs, e2⟩ := hy.ins
    exact ⟨x, y, dx, dy, fs, gs, rfl, rfl, e1, e2, T, hx, hy, hT, hs⟩
end My

set_option pp.maxSteps 300
set_option Elab.async false
set_option linter.all false
set_option maxRecDepth 100000
set_option maxHeartbeats 1000000
namespace My
open PySem L2 MyR RT
/-! ### a run looks at no word behind the index that it tells -/
def Res.ix : Res → Nat
  | .fail i => i
  | .ok _ i => i
section
variable {ws us : List (List Nat)} {N a : Nat} {r : Res}
/-- what a step keeps -/
def Pre (N a : Nat) (r : Res) (o' : Option Res) : Prop := a ≤ r.ix ∧ (r.ix ≤ N → o' = some r)
theorem Pre.le {b : Nat} {o' : Option Res} (h : Pre N b r o') (q : a ≤ b) : Pre N a r o' := ⟨Nat.le_trans q h.1, h.2⟩
theorem bd_pre {o o' : Option Res} {F F' : Tr → Nat → Option Res} (h : bd o F = some r) (i1 : ∀ r1, o = some r1 → Pre N a r1 o') (i2 : ∀ T a1, F T a1 = some r → Pre N a1 r (F' T a1)) : Pre N a r (bd o' F') := by
  rcases bd_some h with ⟨i, h1, rfl⟩ | ⟨T, a1, h1, h2⟩
  · obtain ⟨q1, q2⟩ := i1 _ h1
    exact ⟨q1, fun q => by rw [q2 q]; rfl⟩
  · obtain ⟨q1, q2⟩ := i1 _ h1
    obtain ⟨p1, p2⟩ := i2 T a1 h2
    have q1 : a ≤ a1 := q1
    exact ⟨by omega, fun q => by
      rw [q2 (show a1 ≤ N by omega)]
      exact p2 q⟩
theorem nd_pre (ag : ∀ k, k ≤ N → tk us k = tk ws k) {w : List Nat} {F F' : Nat → Option Res} (h : nd ws w a F = some r) (i2 : F (a + 1) = some r → Pre N a r (F' (a + 1))) : Pre N a r (nd us w a F') := by
  rcases nd_some h with ⟨z, h2⟩ | ⟨z, rfl⟩
  · obtain ⟨p1, p2⟩ := i2 h2
    refine ⟨p1, fun q => ?_⟩
    unfold nd
    rw [ag a (by omega), if_pos z]
    exact p2 q
  · refine ⟨Nat.le_refl a, fun q => ?_⟩
    unfold nd
    rw [ag a q, if_neg z]
theorem nn_pre (ag : ∀ k, k ≤ N → tk us k = tk ws k) {lo hi : Int} {F F' : Int → Nat → Option Res} (h : nn ws lo hi a F = some r) (i2 : ∀ n, F n (a + 1) = some r → Pre N a r (F' n (a + 1))) : Pre N a r (nn us lo hi a F') := by
  rcases nn_some h with ⟨n, q1, q2, q3, h2⟩ | ⟨z, rfl⟩
  · obtain ⟨p1, p2⟩ := i2 n h2
    refine ⟨p1, fun q => ?_⟩
    unfold nn
    rw [ag a (by omega), q1]
    show (if lo ≤ n ∧ n ≤ hi then F' n (a + 1) else some (.fail a)) = _
    rw [if_pos ⟨q2, q3⟩]
    exact p2 q
  · refine ⟨Nat.le_refl a, fun q => ?_⟩
    unfold nn
    rw [ag a q]
    cases e : numV (tk ws a) with
    | none => rfl
    | some n =>
      show (if lo ≤ n ∧ n ≤ hi then F' n (a + 1) else some (.fail a)) = _
      rw [if_neg (z n e)]
theorem ite_pre (ag : ∀ k, k ≤ N → tk us k = tk ws k) {w : List Nat} {b : Nat} {A A' B B' : Option Res} (h : (if tk ws b = w then A else B) = some r) (hb : a ≤ b) (i1 : A = some r → Pre N b r A') (i2 : B = some r → Pre N b r B') : Pre N a r (if tk us b = w then A' else B') := by
  by_cases e : tk ws b = w
  · rw [if_pos e] at h
    obtain ⟨p1, p2⟩ := i1 h
    refine ⟨by omega, fun q => ?_⟩
    rw [ag b (by omega), if_pos e]
    exact p2 q
  · rw [if_neg e] at h
    obtain ⟨p1, p2⟩ := i2 h
    refine ⟨by omega, fun q => ?_⟩
    rw [ag b (by omega), if_neg e]
    exact p2 q
theorem some_pre {o : Option Res} (h : o = some r) (q : a ≤ r.ix) : Pre N a r o := ⟨q, fun _ => h⟩
end
theorem run_pre {ws us : List (List Nat)} {N : Nat} (ag : ∀ k, k ≤ N → tk us k = tk ws k) : ∀ (f : Nat) (j : Job) (a d : Nat) (r : Res), run ws f j a d = some r → Pre N a r (run us f j a d)
  | 0, j, a, d, r, h => by cases h
  | f + 1, .sum, a, d, r, h => bd_pre (F := fun T a => run ws f (.sumL T) a d) h (fun r1 h1 => run_pre ag f _ _ _ _ h1) fun T a1 h1 => run_pre ag f _ _ _ _ h1
  | f + 1, .prod, a, d, r, h => bd_pre (F := fun T a => run ws f (.prodL T) a d) h (fun r1 h1 => run_pre ag f _ _ _ _ h1) fun T a1 h1 => run_pre ag f _ _ _ _ h1
  | f + 1, .sumL T0, a, d, r, h => by
    unfold run at h ⊢
    refine ite_pre ag h (Nat.le_refl a) (fun h => ?_) fun h => ite_pre ag h (Nat.le_refl a) (fun h => ?_) fun h => ?_
    · exact (bd_pre (a := a + 1) h (fun r1 h1 => run_pre ag f _ _ _ _ h1) fun T a1 h1 => run_pre ag f _ _ _ _ h1).le (Nat.le_succ a)
    · exact (bd_pre (a := a + 1) h (fun r1 h1 => run_pre ag f _ _ _ _ h1) fun T a1 h1 => run_pre ag f _ _ _ _ h1).le (Nat.le_succ a)
    · exact some_pre h (by cases h; exact Nat.le_refl a)
  | f + 1, .prodL T0, a, d, r, h => by
    unfold run at h ⊢
    refine ite_pre ag h (Nat.le_refl a) (fun h => ?_) fun h => ite_pre ag h (Nat.le_refl a) (fun h => ?_) fun h => ?_
    · exact (bd_pre (a := a + 1) h (fun r1 h1 => run_pre ag f _ _ _ _ h1) fun T a1 h1 => run_pre ag f _ _ _ _ h1).le (Nat.le_succ a)
    · exact (bd_pre (a := a + 1) h (fun r1 h1 => run_pre ag f _ _ _ _ h1) fun T a1 h1 => run_pre ag f _ _ _ _ h1).le (Nat.le_succ a)
    · exact some_pre h (by cases h; exact Nat.le_refl a)
  | f + 1, .fac, a, d, r, h => by
    unfold run at h ⊢
    refine ite_pre ag h (Nat.le_refl a) (fun h => ?_) fun h => bd_pre h (fun r1 h1 => run_pre ag f _ _ _ _ h1) fun T a1 h => ite_pre ag h (Nat.le_refl a1) (fun h => ?_) fun h => ite_pre ag h (Nat.le_refl a1) (fun h => ?_) fun h => ?_
    · exact (bd_pre (a := a + 1) h (fun r1 h1 => run_pre ag f _ _ _ _ h1) fun T a1 h1 => some_pre h1 (by cases h1; exact Nat.le_refl a1)).le (Nat.le_succ a)
    · exact (nn_pre (a := a1 + 1) ag h fun n h1 => some_pre h1 (by cases h1; exact Nat.le_succ _)).le (Nat.le_succ a1)
    · exact (bd_pre (a := a1 + 1) h (fun r1 h1 => run_pre ag f _ _ _ _ h1) fun T a1 h1 => some_pre h1 (by cases h1; exact Nat.le_refl a1)).le (Nat.le_succ a1)
    · exact some_pre h (by cases h; exact Nat.le_refl a1)
  | f + 1, .atom, a, d, r, h => by
    unfold run at h ⊢
    refine ite_pre ag h (Nat.le_refl a) (fun h => ?_) fun h => ?_
    · by_cases e : d = 20
      · rw [if_pos e] at h ⊢
        exact some_pre h (by cases h; exact Nat.le_refl a)
      · rw [if_neg e] at h ⊢
        refine bd_pre h (fun r1 h1 => ?_) fun T a1 h1 => nd_pre ag h1 fun h2 => some_pre h2 (by cases h2; exact Nat.le_succ a1)
        exact ite_pre ag h1 (Nat.le_succ a) (fun h => (run_pre ag f _ _ _ _ h).le (by omega)) fun h => run_pre ag f _ _ _ _ h
    · have key : ∀ x : List Nat, (match intV x with
          | some z => some (.ok (.mk (.num z) []) (a + 1))
          | none => if isNm x = true then if tk ws (a + 1) = wOpen then if d = 20 then some (.fail (a + 1)) else run ws f (.args x []) (a + 2) (d + 1) else some (.ok (.mk (.nam x) []) (a + 1)) else some (.fail a)) = some r →
          Pre N a r (match intV x with
          | some z => some (.ok (.mk (.num z) []) (a + 1))
          | none => if isNm x = true then if tk us (a + 1) = wOpen then if d = 20 then some (.fail (a + 1)) else run us f (.args x []) (a + 2) (d + 1) else some (.ok (.mk (.nam x) []) (a + 1)) else some (.fail a)) := by
        intro x h
        cases e : intV x with
        | some z =>
          rw [e] at h
          exact some_pre h (by cases h; exact Nat.le_succ a)
        | none =>
          rw [e] at h
          have h : (if isNm x = true then if tk ws (a + 1) = wOpen then if d = 20 then some (.fail (a + 1)) else run ws f (.args x []) (a + 2) (d + 1) else some (.ok (.mk (.nam x) []) (a + 1)) else some (.fail a)) = some r := h
          show Pre N a r (if isNm x = true then if tk us (a + 1) = wOpen then if d = 20 then some (.fail (a + 1)) else run us f (.args x []) (a + 2) (d + 1) else some (.ok (.mk (.nam x) []) (a + 1)) else some (.fail a))
          by_cases e2 : isNm x = true
          · rw [if_pos e2] at h ⊢
            refine ite_pre ag h (Nat.le_succ a) (fun h => ?_) fun h => some_pre h (by cases h; exact Nat.le_refl _)
            by_cases e3 : d = 20
            · rw [if_pos e3] at h ⊢
              exact some_pre h (by cases h; exact Nat.le_refl _)
            · rw [if_neg e3] at h ⊢
              exact (run_pre ag f _ _ _ _ h).le (by omega)
          · rw [if_neg e2] at h ⊢
            exact some_pre h (by cases h; exact Nat.le_refl a)
      have kk := key (tk ws a) h
      refine ⟨kk.1, fun q => ?_⟩
      have := kk.2 q
      rw [ag a (Nat.le_trans kk.1 q)]
      exact this
  | f + 1, .args x as, a, d, r, h => by
    unfold run at h ⊢
    exact bd_pre h (fun r1 h1 => run_pre ag f _ _ _ _ h1) fun T a1 h => ite_pre ag h (Nat.le_refl a1) (fun h => (run_pre ag f _ _ _ _ h).le (Nat.le_succ a1)) fun h => nd_pre ag h fun h2 => some_pre h2 (by cases h2; exact Nat.le_succ a1)
  | f + 1, .cho, a, d, r, h => by
    unfold run at h ⊢
    refine bd_pre h (fun r1 h1 => run_pre ag f _ _ _ _ h1) fun T a1 h => nd_pre ag h fun h => (nn_pre (a := a1 + 1) ag h fun m h => ?_).le (Nat.le_succ a1)
    by_cases e : isM m = true
    · rw [if_pos e] at h ⊢
      refine (nd_pre (a := a1 + 1 + 1) ag h fun h => (nn_pre (a := a1 + 1 + 1 + 1) ag h fun r0 h => (nd_pre (a := a1 + 1 + 1 + 1 + 1) ag h fun h => (bd_pre (a := a1 + 1 + 1 + 1 + 1 + 1) h (fun r1 h1 => run_pre ag f _ _ _ _ h1) fun U a2 h => nd_pre ag h fun h => (bd_pre (a := a2 + 1) h (fun r1 h1 => run_pre ag f _ _ _ _ h1) fun V a3 h => some_pre h (by cases h; exact Nat.le_refl a3)).le (Nat.le_succ a2)).le (Nat.le_succ _)).le (Nat.le_succ _)).le (Nat.le_succ _)).le (Nat.le_succ _)
    · rw [if_neg e] at h ⊢
      exact some_pre h (by cases h; exact Nat.le_refl _)
end My

set_option pp.maxSteps 300
set_option Elab.async false
set_option linter.all false
set_option maxRecDepth 100000
set_option maxHeartbeats 1000000
namespace My
open PySem L2 MyR RT
/-! ### the law -/
theorem cut_take (xs : List V) (m : Nat) : cutV xs none (some (m : Int)) = xs.take m := by
  unfold cutV
  rw [HT.sIx_none, HT.sIx_nat, List.drop_zero, Nat.sub_zero]
  by_cases h : m ≤ xs.length
  · rw [Nat.min_eq_left h]
  · rw [Nat.min_eq_right (by omega), List.take_of_length_le (Nat.le_refl _), List.take_of_length_le (by omega)]
theorem rd_run30 {ws : List (List Nat)} (h : ws.length ≤ 30) : ∃ res, run ws 200 .sum 0 0 = some res := by
  cases e : run ws 200 .sum 0 0 with
  | none => exact absurd e (run_on ws _ .sum 0 0 (by show 6 * (ws.length - 0) + 5 < _; omega))
  | some r => exact ⟨r, rfl⟩
theorem tk_take {ws : List (List Nat)} {i m k : Nat} (h1 : k < i) (h2 : i ≤ m) : tk (ws.take m) k = tk (ws.take i) k := by
  unfold tk
  rw [List.getD_eq_getElem?_getD, List.getD_eq_getElem?_getD, List.getElem?_take_of_lt (by omega), List.getElem?_take_of_lt h1]
theorem eqv_same (s : Str) (i : Int) : PyData.eqv (.tuple [.str s, .int i]) (.tuple [.str s, .int i]) = true := by
  simp [PyData.eqv, PyData.eqvAll]
theorem fst_ne {s k : Str} (h : s ≠ k) : decide (V.str s = V.str k) = false := decide_eq_false fun e => h (V.str.inj e)
theorem fst_eq (s : Str) : decide (V.str s = V.str s) = true := decide_eq_true rfl
theorem rw_ne : ("read" : Str) ≠ "wrong" := by decide +kernel
/-- what stood before -/
def Bef (ws : List (List Nat)) (i : Nat) (H : Hp) (p : Addr) : Prop := (∃ x, H p = some (.tup [.str "read", x])) ∨
  ∃ (j : Nat) (res : Res), H p = some (.tup [.str "wrong", .int (j : Int)]) ∧ run (ws.take i) 200 .sum 0 0 = some res ∧ res.ix = j
theorem Bef.same {ws : List (List Nat)} {i : Nat} {H H' : Hp} {p : Addr} (h : Bef ws i H p) (s : Same H H') : Bef ws i H' p := by
  rcases h with ⟨x, h⟩ | ⟨j, res, h, h2⟩
  · exact .inl ⟨x, s _ _ h⟩
  · exact .inr ⟨j, res, s _ _ h, h2⟩
def spLaw (K : PySem.W.Frag) : Sp := fun vs H Q _ => ∃ (a : Addr) (ns : List Int), vs = [.ref a] ∧ SqL K H a (ns.map V.int) ∧ ns.length ≤ 63 ∧ ∀ H', Q (.bl true) H'
section
variable {P : Program} {w : World} {K : PySem.W.Frag} {mg : Str → Option Value} {base : Heap}
abbrev s_law : Stmt := top 65
abbrev N_law : List Str := ["_law_script", "_law_deal_here", "_law_words_here", "_law_before", "_law_many", "_law_text", "_law_due", "_law_told_here"]
theorem sc_law : FnScope N_law ["_law_script"] (defScope s_law) := ⟨rfl, rfl, rfl, by decide +kernel, rfl, by decide +kernel, by decide +kernel⟩
theorem ok_law {f cC : Addr} {c : CA} {fd : FuncData} (F : Fun K "law" "law" s_law f fd) (T : Glob mg) (EQ : EqOk3 P w K mg base c cC) (D_law_deal : Df P w K mg base 1 "_law_deal" ["_law_script", "_law_base"] (spDeal K)) (D_law_rows : Df P w K mg base 161 "_law_rows" ["_law_deal_here"] spRows) (D_law_read : Df P w K mg base 160 "_law_read" ["_law_text"] (spLr 30)) (D_law_told : Df P w K mg base 162 "_law_told" ["_law_text"] (spTold6 c cC)) (D_law_node : Df P w K mg base 34 "_law_node" ["_law_term"] (spNode3 c cC 30)) : FnOk P w K mg base CX0 163 f fd ["_law_script"] (spLaw K) := by
  refine F.ok (k := 162) sc_law (fun vs H Q E h => ?_) (fun cdv A outer s H vs Q E hr h => ?_)
  · obtain ⟨sA, ns, rfl, _⟩ := h
    rfl
  · obtain ⟨sA, ns, rfl, hS, hlen, kq⟩ := h
    have nd := sc_law.nd
    have hu := hu_of hr
    refine ⟨_, (pss_cons (ps_set (i := 1) nd rfl (Or.inl rfl) (pe_call D_law_deal.ok (hr.mono (by decide)) (by rfl) D_law_deal.g D_law_deal.kp D_law_deal.b .nil pass0 (pa_cons (pv 0) (pa_cons pe_int pa_nil))))
    (pss_cons (ps_par (i := 2) (j := 3) rfl nd rfl rfl (by decide) rfl rfl (pa_cons (pe_call D_law_rows.ok (hr.mono (by decide)) (by rfl) D_law_rows.g D_law_rows.kp D_law_rows.b .nil pass0 (pa_cons (pv 1) pa_nil)) (pa_cons (pe_tup (pa_cons pe_str (pa_cons pe_non pa_nil))) pa_nil)) (by rfl))
    (pss_cons (ps_for PassesOwn.never rfl (pi_range2 (by rfl) T.g_range (pa_cons pe_int (pa_cons (pe_op op_add (pe_callB call_len_seq (by rfl) T.g_len PySem.boot_len (pa_cons (pv 2) pa_nil)) pe_int) pa_nil))) (pg_name (i := 4) nd rfl (Or.inl rfl))
    (pss_cons (ps_set (i := 5) nd rfl (Or.inl rfl) (pe_join pe_str (pe_slice sl_list (pv 2) po_none (po_some (pv 4)))))
    (pss_cons (ps_par (i := 6) (j := 7) rfl nd rfl rfl (by decide) rfl rfl (pa_cons (pe_call D_law_read.ok (hr.mono (by decide)) (by rfl) D_law_read.g D_law_read.kp D_law_read.b .nil pass0 (pa_cons (pv 5) pa_nil)) (pa_cons (pe_call D_law_told.ok hr (by rfl) D_law_told.g D_law_told.kp D_law_told.b .nil pass0 (pa_cons (pv 5) pa_nil)) pa_nil)) (by rfl))
    (pss_cons (ps_if (PW.pt (pw_or (PW.pt (pw_and (pt_cmpR op_eq (pe_ix ix_tup (pv 6) pe_int (fun _ _ => rfl)) pe_str (nomark _)) (pw_and1 (pt_cmpR (op_neD hr.units) (pv 7) (pv 6) (nomark _))))) (pw_or1 (PW.pt (pw_and (pt_cmpR op_eq (pe_ix ix_tup (pv 6) pe_int (fun _ _ => rfl)) pe_str (nomark _)) (pw_and1 (pt_cmpR (op_neN EQ rfl rfl rfl rfl rfl (hr.mono (by decide))) (pv 7) (pe_tup (pa_cons pe_str (pa_cons (pe_call D_law_node.ok (hr.mono (by decide)) (by rfl) D_law_node.g D_law_node.kp D_law_node.b .nil pass0 (pa_cons (pe_ix ix_tup (pv 6) pe_int (fun _ _ => rfl)) pa_nil)) pa_nil))) (nomark _))))))))
    (pss_one (ps_ret pe_bl))
    pss_nil)
    (pss_cons (ps_if (PW.pt (pw_and (pt_cmpR op_eq (pe_ix ix_tup (pv 3) pe_int (fun _ _ => rfl)) pe_str (nomark _)) (pw_and (pt_cmpR op_lt (pe_ix ix_tup (pv 3) pe_int (fun _ _ => rfl)) (pe_op op_sub (pv 4) pe_int) (nomark _)) (pw_and1 (pt_cmpR (op_neD hr.units) (pv 7) (pv 3) (nomark _))))))
    (pss_one (ps_ret pe_bl))
    pss_nil)
    (pss_one (ps_set (i := 3) nd rfl (Or.inl rfl) (pv 7))))))))
    (pss_one (ps_ret pe_bl))))), ?_⟩
    have zl' : 16777216 = sizeLine := sizeLine_eq.symm
    refine seq_by (fun σ H1 => ∃ d l, σ = [some (.ref sA), some (.ref d), none, none, none, none, none, none] ∧ Deal H1 d l) (fun D' hD' => ?_) ?_
    · exact ⟨_, rfl, sA, ns, rfl, hS, hlen, fun d l H' _ _ _ D1 => hD' _ _ ⟨d, l, rfl, D1⟩⟩
    rintro σ H1 ⟨d, l, rfl, D1⟩
    refine seq_by (fun σ H2 => ∃ (L p : Addr) (ws : List (List Nat)), σ = [some (.ref sA), some (.ref d), some (.ref L), some (.ref p), none, none, none, none] ∧ H2 L = some (.lst (stL ws)) ∧ 1 ≤ ws.length ∧ ws.length ≤ 25 ∧ (∀ z ∈ ws, gw z) ∧ H2 p = some (.tup [.str "read", .non])) (fun D' hD' => ?_) ?_
    · refine ⟨_, rfl, d, l, rfl, D1, fun L ws H2 hL D2 k2 h2 h1 h25 hg => ⟨(by show 2 ≤ sizeLine; omega), fun p hp => ⟨_, _, rfl, hD' _ _ ⟨L, p, ws, rfl, new_same hp _ _ h2, h1, h25, hg, upd_same⟩⟩⟩⟩
    rintro σ H2 ⟨L, p0, ws, rfl, hL2, hw1, hw25, hg, hp0⟩
    refine seq_by (fun σ H3 => True) (fun D' hD' => ?_) (fun σ H3 _ => kq H3)
    refine ⟨_, rfl, L, _, rfl, .inl (SqL.of hL2), _, _, rfl, rfl, ?_⟩
    refine ⟨1, ((ws.length : Nat) : Int) + 1, ?_, ⟨by omega, by omega, by omega, by omega⟩, ?_⟩
    · rw [List.length_map]
    rw [show (((ws.length : Nat) : Int) + 1 - 1).toNat = ws.length by omega]
    have fin : ∀ (i : Nat) (a5 a6 a7 : Option V) (H9 : Hp) (pb pt : Addr), True := fun _ _ _ _ _ _ _ => trivial
    refine for_range (lo := 1) (n := ws.length) (fun i σ H3 => ∃ (a4 a5 a6 a7 : Option V) (pb : Addr), σ = [some (.ref sA), some (.ref d), some (.ref L), some (.ref pb), a4, a5, a6, a7] ∧ H3 L = some (.lst (stL ws)) ∧ Bef ws i H3 pb)
      ⟨none, none, none, none, p0, rfl, hL2, .inl ⟨_, hp0⟩⟩ ?_ (fun σ H3 _ => hD' _ _ trivial)
    clear hL2 hp0
    rintro i σ H3 hi ⟨a4, a5, a6, a7, pb, rfl, hL3, hB⟩
    have e1i : (1 : Int) + (i : Int) = ((i + 1 : Nat) : Int) := by omega
    rw [e1i]
    have hgm : ∀ z ∈ ws.take (i + 1), gw z := fun z hz => hg z (List.mem_of_mem_take hz)
    have hlm : (ws.take (i + 1)).length = i + 1 := by rw [List.length_take]; omega
    have hl30 : (ws.take (i + 1)).length ≤ 30 := by omega
    have hne : ws.take (i + 1) ≠ [] := fun e => by rw [e] at hlm; cases hlm
    obtain ⟨res, hrun⟩ := rd_run30 hl30
    -- the text
    refine seq_by (fun σ H4 => σ = [some (.ref sA), some (.ref d), some (.ref L), some (.ref pb), some (.int ((i + 1 : Nat) : Int)), some (.str (txW (ws.take (i + 1)))), a6, a7] ∧ Same H3 H4) (fun D2 hD2 => ?_) ?_
    · refine ⟨⟨_, rfl⟩, _, rfl, _, rfl, ((i + 1 : Nat) : Int), rfl, L, _, rfl, SqL.of hL3, fun q hq => ?_⟩
      rw [cut_take]
      refine ⟨" ", q, (ws.take (i + 1)).map wd, rfl, rfl, .inl (SqL.of ?_), ?_, hD2 _ _ ⟨rfl, new_same hq⟩⟩
      · rw [upd_same]
        unfold stL
        rw [List.map_map, ← List.map_take]
        rfl
      · have h1 := sum_gw hgm
        rw [List.length_map, show (Str.ofString " ").length = 1 from by decide +kernel]
        omega
    rintro σ H4 ⟨rfl, s4⟩
    have hL4 := s4 _ _ hL3
    have hB4 := hB.same s4
    -- due and told
    refine seq_by (fun σ H5 => ∃ pd pt : Addr, σ = [some (.ref sA), some (.ref d), some (.ref L), some (.ref pb), some (.int ((i + 1 : Nat) : Int)), some (.str (txW (ws.take (i + 1)))), some (.ref pd), some (.ref pt)] ∧ Same H4 H5 ∧
      ((∃ k : Nat, res.ix = k ∧ H5 pd = some (.tup [.str "wrong", .int (k : Int)]) ∧ H5 pt = some (.tup [.str "wrong", .int (k : Int)])) ∨
      ∃ (T : Tr) (q x : Addr), i + 1 ≤ res.ix ∧ T.ok ∧ (subT T).length ≤ 30 ∧ TrAt H5 T q ∧ NdAt c cC H5 T x ∧ H5 pd = some (.tup [.str "read", .ref q]) ∧ H5 pt = some (.tup [.str "read", .ref x]))) (fun D2 hD2 => ?_) ?_
    · have tlen := txW_len hgm hl30
      refine ⟨_, rfl, txW (ws.take (i + 1)), ws.take (i + 1), 200, res, rfl, by omega, txW_split hgm hne, gw_ok hgm hl30, fun u hu c hc => ((hgm u hu).2 c hc).1, hl30, hrun, fun k hk pd H5 s5 h5 => ?_, fun T a e ha pd q H5 s5 hT h5 => ?_⟩
      · have hix : res.ix = k := by
          rcases hk with e | ⟨T, e, _⟩ <;> rw [e] <;> rfl
        refine ⟨_, rfl, txW (ws.take (i + 1)), ws.take (i + 1), 200, res, rfl, by omega, txW_split hgm hne, gw_ok hgm hl30, hrun, fun T a e ha => ?_, fun k2 hk2 pt H6 s6 h6 => ⟨_, _, rfl, hD2 _ _ ⟨pd, pt, rfl, s5.trans s6, .inl ⟨k, hix, s6 _ _ h5, ?_⟩⟩⟩⟩
        · rcases hk with e2 | ⟨T2, e2, h2⟩
          · rw [e] at e2
            cases e2
          · rw [e] at e2
            cases e2
            omega
        · have : res.ix = k2 := by
            rcases hk2 with e | ⟨T, e, _⟩ <;> rw [e] <;> rfl
          rw [show k = k2 by omega]
          exact h6
      · have hg2 := run_tr _ _ .sum _ _ _ _ (by rw [hrun, e]) trivial
        have hg3 := (run_ge _ 200 .sum 0 0 T a (by rw [hrun, e])).2 (.inr rfl)
        have hsz : (subT T).length + 0 ≤ a + 0 := hg2.2
        refine ⟨_, rfl, txW (ws.take (i + 1)), ws.take (i + 1), 200, res, rfl, by omega, txW_split hgm hne, gw_ok hgm hl30, hrun, fun T2 a2 e2 ha2 pt x H6 s6 hN h6 => ⟨_, _, rfl, hD2 _ _ ⟨pd, pt, rfl, s5.trans s6, .inr ⟨T, q, x, ?_, hg2.1, by omega, hT.same s6, ?_, s6 _ _ h5, h6⟩⟩⟩, fun k2 hk2 => ?_⟩
        · rw [e]
          show i + 1 ≤ a
          omega
        · rw [e] at e2
          cases e2
          exact hN
        · rcases hk2 with e2 | ⟨T2, e2, h2⟩
          · rw [e] at e2
            cases e2
          · rw [e] at e2
            cases e2
            omega
    rintro σ H5 ⟨pd, pt, rfl, s5, hdt⟩
    have hL5 := s5 _ _ hL4
    have hB5 := hB4.same s5
    clear hB hB4 hL3 hL4 s4 s5
    -- the two agree
    refine seq_rt (fun σ H6 => σ = [some (.ref sA), some (.ref d), some (.ref L), some (.ref pb), some (.int ((i + 1 : Nat) : Int)), some (.str (txW (ws.take (i + 1)))), some (.ref pd), some (.ref pt)] ∧ Same H5 H6) (fun nx' hnx => ?_) ?_
    · rcases hdt with ⟨k, hix, h1, h2⟩ | ⟨T, q, x, hix, hok, hsz, hT, hN, h1, h2⟩
      · refine ⟨_, rfl, pd, _, 0, .str "wrong", rfl, rfl, SqT.of h1, atI_nat (j := 0) rfl, rfl, _, rfl, ?_⟩
        rw [fst_eq]
        refine iteT ⟨_, rfl, _, rfl, _, _, .tup (SqT.of h2) (.cons (.str _) (.cons (.int _) .nil)), .tup (SqT.of h1) (.cons (.str _) (.cons (.int _) .nil)), wrong_shaped _, wrong_shaped _, _, rfl, ?_⟩
        rw [eqv_same]
        refine iteF ⟨_, rfl, pd, _, 0, .str "wrong", rfl, rfl, SqT.of h1, atI_nat (j := 0) rfl, rfl, _, rfl, ?_⟩
        rw [fst_ne rw_ne.symm]
        exact iteF (hnx _ _ ⟨rfl, Same.refl _⟩)
      · refine ⟨_, rfl, pd, _, 0, .str "read", rfl, rfl, SqT.of h1, atI_nat (j := 0) rfl, rfl, _, rfl, ?_⟩
        rw [fst_ne rw_ne]
        refine iteF ⟨_, rfl, pd, _, 0, .str "read", rfl, rfl, SqT.of h1, atI_nat (j := 0) rfl, rfl, _, rfl, ?_⟩
        rw [fst_eq]
        refine iteT ⟨_, rfl, _, rfl, pd, _, 1, .ref q, rfl, rfl, SqT.of h1, atI_nat (j := 1) rfl, q, T, rfl, hT, hok, sub_nar T (by omega), by have := sub_dep T; omega, fun y H6 s6 hy => ⟨(by show 2 ≤ sizeLine; omega), fun t ht => ?_⟩⟩
        have sx := new_same (o := .tup [V.str "read", .ref y]) ht
        have s7 := s6.trans sx
        refine ⟨pr_same (hN.stay (.of s7)) (hy.stay (.of sx)) hok (by omega) (s7 _ _ h2) upd_same, fun H8 e8 => ⟨_, rfl, iteF (hnx _ _ ⟨rfl, s7.trans e8⟩)⟩⟩
    rintro σ H6 ⟨rfl, s6⟩
    have hL6 := s6 _ _ hL5
    have hB6 := hB5.same s6
    have hdt6 : (∃ k : Nat, res.ix = k ∧ H6 pt = some (.tup [.str "wrong", .int (k : Int)])) ∨ (i + 1 ≤ res.ix ∧ ∃ x, H6 pt = some (.tup [.str "read", .ref x])) := by
      rcases hdt with ⟨k, hix, h1, h2⟩ | ⟨T, q, x, hix, hok, hsz, hT, hN, h1, h2⟩
      · exact .inl ⟨k, hix, s6 _ _ h2⟩
      · exact .inr ⟨hix, x, s6 _ _ h2⟩
    clear hdt s6 hB5 hL5
    -- behind a wrong word
    refine seq_rt (fun σ H7 => σ = [some (.ref sA), some (.ref d), some (.ref L), some (.ref pb), some (.int ((i + 1 : Nat) : Int)), some (.str (txW (ws.take (i + 1)))), some (.ref pd), some (.ref pt)] ∧ Same H6 H7) (fun nx' hnx => ?_) ?_
    · rcases hB6 with ⟨x, h1⟩ | ⟨j, res0, h1, hr0, hj⟩
      · refine ⟨_, rfl, pb, _, 0, .str "read", rfl, rfl, SqT.of h1, atI_nat (j := 0) rfl, rfl, _, rfl, ?_⟩
        rw [fst_ne rw_ne]
        exact iteF (hnx _ _ ⟨rfl, Same.refl _⟩)
      · refine ⟨_, rfl, pb, _, 0, .str "wrong", rfl, rfl, SqT.of h1, atI_nat (j := 0) rfl, rfl, _, rfl, ?_⟩
        rw [fst_eq]
        refine iteT ⟨_, rfl, pb, _, 1, .int (j : Int), rfl, rfl, SqT.of h1, atI_nat (j := 1) rfl, _, rfl, _, _, rfl, rfl, _, _, rfl, rfl, _, rfl, ?_⟩
        refine ite2 (fun z => ?_) (fun z => hnx _ _ ⟨rfl, Same.refl _⟩)
        have z : (j : Int) < ((i + 1 : Nat) : Int) - 1 := of_decide_eq_true z
        have hji : j < i := by omega
        -- the same as before
        have hpre := run_pre (ws := ws.take i) (us := ws.take (i + 1)) (N := j) (fun k hk => tk_take (i := i) (by omega) (by omega)) 200 .sum 0 0 res0 hr0
        have hsame : run (ws.take (i + 1)) 200 .sum 0 0 = some res0 := hpre.2 (by omega)
        have er : res = res0 := Option.some.inj (hrun.symm.trans hsame)
        rcases hdt6 with ⟨k, hix, h2⟩ | ⟨hix, x, h2⟩
        · have hkj : k = j := by rw [← hix, er]; exact hj
          rw [hkj] at h2
          refine ⟨_, rfl, _, rfl, _, _, .tup (SqT.of h2) (.cons (.str _) (.cons (.int _) .nil)), .tup (SqT.of h1) (.cons (.str _) (.cons (.int _) .nil)), wrong_shaped _, wrong_shaped _, _, rfl, ?_⟩
          rw [eqv_same]
          exact iteF (hnx _ _ ⟨rfl, Same.refl _⟩)
        · rw [er] at hix
          omega
    rintro σ H7 ⟨rfl, s7⟩
    refine ⟨_, rfl, _, _, _, _, pt, rfl, s7 _ _ hL6, ?_⟩
    rcases hdt6 with ⟨k, hix, h2⟩ | ⟨hix, x, h2⟩
    · exact .inr ⟨k, res, s7 _ _ h2, hrun, hix⟩
    · exact .inl ⟨_, s7 _ _ h2⟩
end
end My

set_option pp.maxSteps 300
set_option Elab.async false
set_option linter.all false
set_option maxRecDepth 100000
set_option maxHeartbeats 1000000
namespace My
open PySem L2 MyR RT
/-! ### the law's words: names, integers -/
open TL in
theorem abc_mem (c : Nat) : decide (c ∈ abc.cps.toList) = (decide (97 ≤ c) && decide (c ≤ 122)) := by
  rw [abc_list, ← Bool.decide_and]
  refine decide_eq_decide.mpr ⟨fun h => ?_, fun h => ?_⟩
  · obtain ⟨i, hi, rfl⟩ := List.mem_map.mp h
    have := List.mem_range.mp hi
    omega
  · exact List.mem_map.mpr ⟨c - 97, List.mem_range.mpr (by omega), by omega⟩
theorem filt_all {α : Type} (f : α → Bool) : ∀ l : List α, decide ((l.filter f).length = l.length) = l.all f
  | [] => rfl
  | a :: l => by
    have h := filt_all f l
    have hl := List.length_filter_le f l
    rw [List.filter_cons, List.all_cons]
    cases f a with
    | true =>
      rw [if_pos rfl, Bool.true_and, ← h]
      refine decide_eq_decide.mpr ?_
      simp only [List.length_cons]
      omega
    | false =>
      rw [if_neg Bool.false_ne_true, Bool.false_and]
      refine decide_eq_false ?_
      simp only [List.length_cons]
      omega
section
variable {P : Program} {w : World} {K : PySem.W.Frag} {mg : Str → Option Value} {base : Heap}
abbrev s_law_is_name : Stmt := top 49
abbrev N_law_is_name : List Str := ["_law_word", "_law_kept", "_law_letters", "_law_sign"]
theorem sc_law_is_name : FnScope N_law_is_name ["_law_word"] (defScope s_law_is_name) := ⟨rfl, rfl, rfl, by decide +kernel, rfl, by decide +kernel, by decide +kernel⟩
theorem ok_law_is_name {f : Addr} {fd : FuncData} (F : Fun K "_law_is_name" "_law_is_name" s_law_is_name f fd) (T : Glob mg) : FnOk P w K mg base CX0 1 f fd ["_law_word"] spNmL := by
  refine F.ok sc_law_is_name (fun vs H Q E h => ?_) (fun cdv A outer s H vs Q E hr h => ?_)
  · obtain ⟨z, rfl, _⟩ := h
    rfl
  · obtain ⟨z, rfl, hl, kq⟩ := h
    have nd := sc_law_is_name.nd
    have hu := hu_of hr
    refine ⟨_, (pss_cons (ps_set (i := 1) nd rfl (Or.inl rfl) (pe_split pe_str pe_str))
    (pss_cons (ps_setLc (i := 2) (own := [("_law_sign", 3)]) (g := gName 3) rfl nd rfl rfl (sw_true rfl rfl rfl (by decide +kernel)) (pi_str (pv 0)) (blkOk_by (N := N_law_is_name) (sc := defScope s_law_is_name) (by decide +kernel)) (fun _ _ _ _ _ => pg_name (i := 3) nd rfl (Or.inl rfl)) (fun _ _ _ _ _ => pts_one (pt_cmpR op_in_sign (pv 3) pe_str (by rfl))) (fun _ _ _ _ _ => (pv 3)))
    (pss_one (ps_ret (pe_and (pe_chain op_lt op_lt pe_int (pe_callB call_len_str (by rfl) T.g_len PySem.boot_len (pa_cons (pv 0) pa_nil)) pe_int) (pe_and (pe_cmpR op_notIn_seq (pv 0) (pv 1) (by rfl)) (pe_one (pe_cmpR op_eq (pe_callB call_len_seq (by rfl) T.g_len PySem.boot_len (pa_cons (pv 2) pa_nil)) (pe_callB call_len_str (by rfl) T.g_len PySem.boot_len (pa_cons (pv 0) pa_nil)) (nomark _))))))))), ?_⟩
    have zl' : 16777216 = sizeLine := sizeLine_eq.symm
    have hzl : z.length = z.cps.toList.length := by simp [Str.length]
    refine seq_by (fun σ H1 => ∃ p : Addr, σ = [some (.str z), some (.ref p), none, none] ∧ Same H H1 ∧ H1 p = some (.lst ((keptL.map wd).map V.str))) (fun D' hD' => ?_) ?_
    · refine ⟨⟨_, rfl⟩, keptT, " ", rfl, rfl, by decide +kernel, kept_len, fun p hp => ?_⟩
      rw [kept_split]
      exact hD' _ _ ⟨p, rfl, new_same hp, upd_same⟩
    rintro σ H1 ⟨p, rfl, s1, hp⟩
    refine seq_by (fun σ H2 => ∃ q : Addr, σ = [some (.str z), some (.ref p), some (.ref q), none] ∧ Same H H2 ∧ H2 p = some (.lst ((keptL.map wd).map V.str)) ∧ H2 q = some (.lst ((z.cps.toList.filter fun c => decide (97 ≤ c) && decide (c ≤ 122)).map fun c => V.str ⟨#[c]⟩))) (fun D' hD' => ?_) ?_
    · refine ⟨_, rfl, z, rfl, fun D hD => ?_⟩
      refine lc_it walk_str (fun i H2 => Same H1 H2 ∧ H2 D = some (.lst (((z.cps.toList.take i).filter fun c => decide (97 ≤ c) && decide (c ≤ 122)).map fun c => V.str ⟨#[c]⟩))) ⟨new_same hD, upd_same⟩ (fun _ _ _ _ => trivial) ?_ ?_
      · rintro i x H2 H3 hi ⟨sm, h2⟩ ⟨rfl, c, hc, rfl⟩
        have hc2 : z.cps.toList[i]? = some c := by rw [Array.getElem?_toList]; exact hc
        refine ⟨rfl, ?_⟩
        refine ⟨_, rfl, c, _, rfl, rfl, _, rfl, ?_⟩
        have em := abc_mem c
        rw [em]
        cases hd : (decide (97 ≤ c) && decide (c ≤ 122)) with
        | false =>
          refine iteF ⟨sm, ?_⟩
          rw [List.take_add_one, hc2, List.filter_append]
          show H3 D = some (.lst ((_ ++ List.filter _ [c]).map _))
          rw [List.filter_cons, hd]
          simp only [Bool.false_eq_true, if_false, List.filter_nil, List.append_nil]
          exact h2
        | true =>
          refine iteT ⟨_, rfl, _, h2, ?_, fun b o e => ?_, ?_⟩
          · rw [List.length_map]
            have := List.length_filter_le (fun c => decide (97 ≤ c) && decide (c ≤ 122)) (z.cps.toList.take i)
            rw [List.length_take] at this
            omega
          · rw [upd_ne (ne_of_none e hD)]
            exact sm _ _ e
          · rw [upd_same, List.take_add_one, hc2, List.filter_append]
            show _ = some (HO.lst ((_ ++ List.filter _ [c]).map _))
            rw [List.filter_cons, hd]
            simp only [if_true, List.filter_nil, List.map_append]
            rfl
      · rintro H2 ⟨sm, h2⟩
        have hl0 : z.cps.toList.take z.cps.size = z.cps.toList := List.take_of_length_le (by rw [Array.length_toList]; exact Nat.le_refl _)
        rw [hl0] at h2
        exact hD' _ _ ⟨D, rfl, s1.trans sm, sm _ _ hp, h2⟩
    rintro σ H2 ⟨q, rfl, s2, hp2, hq2⟩
    have k2 : Q (.bl (isNm z.cps.toList)) H2 := kq H2 s2
    have hnm : isNm z.cps.toList = (decide (1 ≤ z.cps.toList.length) && decide (z.cps.toList.length ≤ 8) && (z.cps.toList.all fun c => decide (97 ≤ c) && decide (c ≤ 122)) && !keptL.contains z.cps.toList) := rfl
    have fal : isNm z.cps.toList = false → Q (.bl false) H2 := fun e => by
      rw [e] at k2
      exact k2
    have e1 : inV (.str z) ((keptL.map wd).map V.str) = keptL.contains z.cps.toList := by
      have := in_kept (l := z.cps.toList)
      rwa [wd_of] at this
    refine ⟨_, rfl, z, rfl, by omega, _, _, rfl, rfl, _, rfl, ?_⟩
    refine ite2 (fun h1 => ?_) (fun h1 => ?_)
    rotate_left
    · have h1 : ¬ (0 : Int) < (z.length : Int) := fun q => h1 (decide_eq_true q)
      refine ⟨false, by first | rfl | rw [decide_eq_false h1], iteF (fal ?_)⟩
      rw [hnm, decide_eq_false (show ¬ 1 ≤ z.cps.toList.length by omega)]
      rfl
    have h1 : (0 : Int) < (z.length : Int) := of_decide_eq_true h1
    refine ⟨_, _, rfl, rfl, _, rfl, ?_⟩
    refine ite2 (fun h9 => ?_) (fun h9 => ?_)
    rotate_left
    · have h9 : ¬ (z.length : Int) < 9 := fun q => h9 (decide_eq_true q)
      refine fal ?_
      rw [hnm, decide_eq_false (show ¬ z.cps.toList.length ≤ 8 by omega), Bool.and_false]
      rfl
    have h9 : (z.length : Int) < 9 := of_decide_eq_true h9
    refine ⟨_, rfl, _, rfl, p, _, rfl, .inl (SqL.of hp2), rfl, kept_flat, _, rfl, ?_⟩
    rw [e1]
    cases hk : keptL.contains z.cps.toList with
    | true =>
      refine iteF (fal ?_)
      rw [hnm, hk]
      simp only [Bool.not_true, Bool.and_false]
    | false =>
      refine iteT ⟨_, rfl, q, _, rfl, .inl (SqL.of hq2), _, rfl, z, rfl, by omega, rfl, ?_⟩
      have e2 : isNm z.cps.toList = decide (V.int ((List.map (fun c => V.str ⟨#[c]⟩) (List.filter (fun c => decide (97 ≤ c) && decide (c ≤ 122)) z.cps.toList)).length : Int) = V.int (z.length : Int)) := by
        rw [hnm, hk, decide_eq_true (show 1 ≤ z.cps.toList.length by omega), decide_eq_true (show z.cps.toList.length ≤ 8 by omega), ← filt_all]
        simp only [Bool.not_false, Bool.and_true, Bool.true_and]
        rw [List.length_map]
        refine decide_eq_decide.mpr ⟨fun e => ?_, fun e => ?_⟩
        · rw [e, hzl]
        · have := V.int.inj e
          omega
      rw [e2] at k2
      exact k2
abbrev s_law_integer : Stmt := top 51
abbrev N_law_integer : List Str := ["_law_word", "_law_number"]
theorem sc_law_integer : FnScope N_law_integer ["_law_word"] (defScope s_law_integer) := ⟨rfl, rfl, rfl, by decide +kernel, rfl, by decide +kernel, by decide +kernel⟩
open TL in
theorem tl_cut01 (w : Str) : tl (cutS w none (some 1)) = (tl w).take 1 := by
  unfold cutS
  rw [len_tl w, show ((1 : Int)) = ((1 : Nat) : Int) from rfl, HT.sIx_nat]
  show ((tl w).drop 0).take (min 1 (tl w).length - 0) = (tl w).take 1
  rw [List.drop_zero, Nat.sub_zero, List.take_eq_take_iff]
  omega
open TL in
theorem cut_minus (w : Str) : decide (V.str (cutS w none (some 1)) = V.str "-") = decide ((tl w).head? = some 45) := by
  have e : tl ("-" : Str) = [45] := by decide +kernel
  have h : (V.str (cutS w none (some 1)) = V.str "-") ↔ (tl w).take 1 = [45] := ⟨fun h => by rw [← tl_cut01, V.str.inj h, e], fun h => congrArg V.str (ext_tl (by rw [tl_cut01, h, e]))⟩
  refine decide_eq_decide.mpr (h.trans ?_)
  cases tl w with
  | nil => simp
  | cons a l => simp
open TL in
theorem str_m0 (w : Str) : decide (V.str w = V.str "-0") = decide (tl w = [45, 48]) := by
  have e : tl ("-0" : Str) = [45, 48] := by decide +kernel
  exact decide_eq_decide.mpr ⟨fun h => by rw [V.str.inj h]; exact e, fun h => congrArg V.str (ext_tl (by rw [h, e]))⟩
open NumText in
theorem num_zero {m : List Nat} (h : numV m = some 0) : m = [48] := by
  unfold numV at h
  by_cases e : numB m = true
  · rw [if_pos e] at h
    have hv : digitsVal m = 0 := by
      have := Option.some.inj h
      omega
    unfold numB at e
    simp only [Bool.and_eq_true, decide_eq_true_eq, Bool.not_eq_true', Bool.and_eq_false_iff, decide_eq_false_iff_not, Bool.not_eq_false'] at e
    obtain ⟨⟨⟨h1, h20⟩, hz⟩, hd⟩ := e
    cases m with
    | nil => exact absurd h1 (by decide)
    | cons c r =>
      have hc : digB c = true := List.all_eq_true.mp hd c List.mem_cons_self
      by_cases h48 : c = 48
      · rcases hz with hz | hz
        · exact absurd (by rw [h48]; rfl) hz
        · exact hz
      · unfold digB at hc
        have hc1 := of_decide_eq_true (Bool.and_eq_true_iff.mp hc).1
        have := digitsVal_pos (c := c) (cs := r) (by omega)
        omega
  · rw [if_neg e] at h
    cases h
theorem ok_law_integer {f : Addr} {fd : FuncData} (F : Fun K "_law_integer" "_law_integer" s_law_integer f fd) (D_law_figures : Df P w K mg base 1 "_law_figures" ["_law_word"] spFig) : FnOk P w K mg base CX0 2 f fd ["_law_word"] spIntL := by
  refine F.ok sc_law_integer (fun vs H Q E h => ?_) (fun cdv A outer s H vs Q E hr h => ?_)
  · obtain ⟨z, rfl, _⟩ := h
    rfl
  · obtain ⟨z, rfl, hl, hok, kq⟩ := h
    have nd := sc_law_integer.nd
    have hu := hu_of hr
    refine ⟨_, (pss_cons (ps_set (i := 1) nd rfl (Or.inl rfl) (pe_call D_law_figures.ok (hr.mono (by decide)) (by rfl) D_law_figures.g D_law_figures.kp D_law_figures.b .nil pass0 (pa_cons (pe_ifExp (pt_cmpR op_eq (pe_slice sl_str (pv 0) po_none (po_some pe_int)) pe_str (nomark _)) (pe_slice sl_str (pv 0) (po_some pe_int) po_none) (pv 0)) pa_nil)))
    (pss_cons (ps_if (PW.pt (pw_or (pt_cmpR op_isN (pv 1) pe_non (nomark _)) (pw_or (pt_cmpR op_ge (pv 1) (pe_op op_shlW pe_int pe_int) (nomark _)) (pw_or1 (pt_cmpR op_eq (pv 0) pe_str (nomark _))))))
    (pss_one (ps_ret pe_non))
    pss_nil)
    (pss_one (ps_ret (pe_ifExp (pt_cmpR op_eq (pe_slice sl_str (pv 0) po_none (po_some pe_int)) pe_str (nomark _)) (pe_op op_sub pe_int (pv 1)) (pv 1)))))), ?_⟩
    have zl' : 16777216 = sizeLine := sizeLine_eq.symm
    have hls : z.length ≤ sizeLine := by omega
    have p64 : (1 : Int) * 2 ^ (64 : Int).toNat = 18446744073709551616 := by decide +kernel
    by_cases hd : (TL.tl z).head? = some 45
    · -- with a sign
      have ei : intV (TL.tl z) = match numV ((TL.tl z).drop 1) with
          | some v => if v = 0 then none else if v < 18446744073709551616 then some (-v) else none
          | none => none := by
        unfold intV sgV
        rw [if_pos hd]
        cases hv : numV ((TL.tl z).drop 1) with
        | none => rfl
        | some v =>
          have hp := num_pos hv
          by_cases h0 : v = 0
          · subst h0
            rfl
          · show (match (if v = 0 then none else some (-v)) with
              | some z => if -18446744073709551616 < z ∧ z < 18446744073709551616 then some z else none
              | none => none) = if v = 0 then none else if v < 18446744073709551616 then some (-v) else none
            rw [if_neg h0, if_neg h0]
            show (if -18446744073709551616 < -v ∧ -v < 18446744073709551616 then some (-v) else none) = _
            by_cases h64 : v < 18446744073709551616
            · rw [if_pos h64, if_pos ⟨by omega, by omega⟩]
            · rw [if_neg h64, if_neg (by omega)]
      rw [ei] at kq
      have hcl : (cutS z (some 1) none).length ≤ 50000 := by
        rw [TL.len_tl, tl_cut1, List.length_drop]
        rw [TL.len_tl] at hl
        omega
      have hco : PyData.strOk (cutS z (some 1) none) = true := strOk_iff.mpr fun c hc => by
        rw [tl_cut1] at hc
        exact strOk_iff.mp hok c (List.mem_of_mem_drop hc)
      refine ⟨_, rfl, _, rfl, z, rfl, hls, rfl, _, rfl, ?_⟩
      rw [cut_minus, decide_eq_true hd]
      refine iteT ⟨_, rfl, _, rfl, z, rfl, hls, _, rfl, hcl, hco, fun H1 s1 => ?_⟩
      rw [tl_cut1]
      have k1 := kq H1 s1
      cases hv : numV ((TL.tl z).drop 1) with
      | none =>
        rw [hv] at k1
        exact ⟨_, rfl, rfl, _, rfl, iteT k1⟩
      | some v =>
        rw [hv] at k1
        have k1 : Q (optV (if v = 0 then none else if v < 18446744073709551616 then some (-v) else none)) H1 := k1
        have hp := num_pos hv
        refine ⟨_, rfl, rfl, _, rfl, iteF ?_⟩
        refine ⟨_, rfl, _, _, rfl, rfl, ⟨by decide, by decide +kernel⟩, _, _, rfl, rfl, _, rfl, ?_⟩
        rw [p64]
        refine ite2 (fun h => ?_) (fun h => ?_)
        · have h : 18446744073709551616 ≤ v := of_decide_eq_true h
          rw [if_neg (by omega), if_neg (by omega)] at k1
          exact k1
        · have h : ¬ 18446744073709551616 ≤ v := fun q => h (decide_eq_true q)
          refine ⟨_, rfl, rfl, _, rfl, ?_⟩
          rw [str_m0]
          refine ite2 (fun h2 => ?_) (fun h2 => ?_)
          · have h2 : TL.tl z = [45, 48] := of_decide_eq_true h2
            rw [h2] at hv
            have e0 : v = 0 := by
              have : numV [48] = some 0 := by decide
              exact Option.some.inj (hv.symm.trans this)
            rw [if_pos e0] at k1
            exact k1
          · have h2 : ¬ TL.tl z = [45, 48] := fun q => h2 (decide_eq_true q)
            have h0 : v ≠ 0 := fun e => by
              rw [e] at hv
              have e1 := num_zero hv
              refine h2 ?_
              cases ez : TL.tl z with
              | nil => rw [ez] at hd; cases hd
              | cons c r =>
                rw [ez] at hd e1
                have hc : c = 45 := Option.some.inj hd
                have hr : r = [48] := e1
                rw [hc, hr]
            rw [if_neg h0, if_pos (by omega)] at k1
            refine ⟨_, rfl, _, rfl, z, rfl, hls, rfl, _, rfl, ?_⟩
            rw [cut_minus, decide_eq_true hd]
            refine iteT ⟨_, rfl, _, _, rfl, rfl, ?_⟩
            rw [show -v = (0 : Int) - v by omega] at k1
            exact k1
    · -- without
      have ei : intV (TL.tl z) = match numV (TL.tl z) with
          | some v => if v < 18446744073709551616 then some v else none
          | none => none := by
        unfold intV sgV
        rw [if_neg hd]
        cases hv : numV (TL.tl z) with
        | none => rfl
        | some v =>
          have hp := num_pos hv
          show (if -18446744073709551616 < v ∧ v < 18446744073709551616 then some v else none) = if v < 18446744073709551616 then some v else none
          by_cases h64 : v < 18446744073709551616
          · rw [if_pos h64, if_pos ⟨by omega, by omega⟩]
          · rw [if_neg h64, if_neg (by omega)]
      rw [ei] at kq
      refine ⟨_, rfl, _, rfl, z, rfl, hls, rfl, _, rfl, ?_⟩
      rw [cut_minus, decide_eq_false hd]
      refine iteF ⟨_, rfl, z, rfl, by omega, hok, fun H1 s1 => ?_⟩
      have k1 := kq H1 s1
      cases hv : numV (TL.tl z) with
      | none =>
        rw [hv] at k1
        exact ⟨_, rfl, rfl, _, rfl, iteT k1⟩
      | some v =>
        rw [hv] at k1
        have k1 : Q (optV (if v < 18446744073709551616 then some v else none)) H1 := k1
        have hp := num_pos hv
        refine ⟨_, rfl, rfl, _, rfl, iteF ?_⟩
        refine ⟨_, rfl, _, _, rfl, rfl, ⟨by decide, by decide +kernel⟩, _, _, rfl, rfl, _, rfl, ?_⟩
        rw [p64]
        refine ite2 (fun h => ?_) (fun h => ?_)
        · have h : 18446744073709551616 ≤ v := of_decide_eq_true h
          rw [if_neg (by omega)] at k1
          exact k1
        · have h : ¬ 18446744073709551616 ≤ v := fun q => h (decide_eq_true q)
          refine ⟨_, rfl, rfl, _, rfl, ?_⟩
          rw [str_m0]
          refine ite2 (fun h2 => ?_) (fun h2 => ?_)
          · have h2 : TL.tl z = [45, 48] := of_decide_eq_true h2
            exact absurd (by rw [h2]; rfl) hd
          · rw [if_pos (by omega)] at k1
            refine ⟨_, rfl, _, rfl, z, rfl, hls, rfl, _, rfl, ?_⟩
            rw [cut_minus, decide_eq_false hd]
            exact iteF ⟨_, rfl, k1⟩
end
end My

set_option pp.maxSteps 300
set_option Elab.async false
set_option linter.all false
set_option maxRecDepth 100000
set_option maxHeartbeats 1000000
namespace My
open PySem L2 MyR RT
/-! ### the methods of nodes -/
def nsT : Tag → List Str
  | .num _ => []
  | .nam _ => []
  | .two k => [k.f1, k.f2]
  | .half => ["inner"]
  | .pow _ => ["base"]
  | .cho _ _ => ["tested", "yes", "no"]
  | .call _ => []
def psT : Tag → List Str
  | .num _ => ["value"]
  | .nam _ => ["name"]
  | .pow _ => ["times"]
  | .cho _ _ => ["modulus", "rest"]
  | _ => []
theorem holds_ft {c : CA} {cC : Addr} {H : Hp} {t : Tag} {ks : List Addr} {a : Addr} (hc : ∀ x, t ≠ .call x) (h : Holds1 c cC H t ks a) : ∃ dx fs, H a = some (.ins (t.cls c cC) dx fs) ∧ (nsT t).map (fun n => fs.lookup n) = (ks.map V.ref).map some ∧ (psT t).map (fun n => fs.lookup n) = (plT t ks.length).map some := by
  obtain ⟨dx, h⟩ := h
  cases t with
  | num z =>
    match ks, h with
    | [], h => exact ⟨dx, _, h, rfl, by show [List.lookup _ _] = [_]; rw [lk_eq]⟩
    | _ :: _, h => exact h.elim
  | nam x =>
    match ks, h with
    | [], h => exact ⟨dx, _, h, rfl, by show [List.lookup _ _] = [_]; rw [lk_eq]⟩
    | _ :: _, h => exact h.elim
  | two k =>
    match ks, h with
    | [p, q], h =>
      refine ⟨dx, _, h, ?_, rfl⟩
      show [List.lookup _ _, List.lookup _ _] = [_, _]
      rw [lk_eq, lk_ne (by cases k <;> decide +kernel), lk_eq]
    | [], h => exact h.elim
    | [_], h => exact h.elim
    | _ :: _ :: _ :: _, h => exact h.elim
  | half =>
    match ks, h with
    | [p], h => exact ⟨dx, _, h, by show [List.lookup _ _] = [_]; rw [lk_eq], rfl⟩
    | [], h => exact h.elim
    | _ :: _ :: _, h => exact h.elim
  | pow n =>
    match ks, h with
    | [p], h => exact ⟨dx, _, h, by show [List.lookup _ _] = [_]; rw [lk_eq], by show [List.lookup _ _] = [_]; rw [lk_ne (by decide +kernel), lk_eq]⟩
    | [], h => exact h.elim
    | _ :: _ :: _, h => exact h.elim
  | cho m r =>
    match ks, h with
    | [p, q, t], h =>
      refine ⟨dx, _, h, ?_, ?_⟩
      · show [List.lookup _ _, List.lookup _ _, List.lookup _ _] = [_, _, _]
        rw [lk_eq, lk_ne (by decide +kernel), lk_ne (by decide +kernel), lk_ne (by decide +kernel), lk_eq, lk_ne (by decide +kernel), lk_ne (by decide +kernel), lk_ne (by decide +kernel), lk_ne (by decide +kernel), lk_eq]
      · show [List.lookup _ _, List.lookup _ _] = [_, _]
        rw [lk_ne (by decide +kernel), lk_eq, lk_ne (by decide +kernel), lk_ne (by decide +kernel), lk_eq]
    | [], h => exact h.elim
    | [_], h => exact h.elim
    | [_, _], h => exact h.elim
    | _ :: _ :: _ :: _ :: _, h => exact h.elim
  | call x => exact absurd rfl (hc x)
section
variable {P : Program} {w : World} {K : PySem.W.Frag} {mg : Str → Option Value} {base : Heap} {c : CA} {cC : Addr}
theorem mok_nd {t : Tag} {f : Addr} {fd : FuncData} (hc : ∀ x, t ≠ .call x) (me : Meth K (t.cls c cC) "_nodes" f) (ok : FnOk P w K mg base CX0 1 f fd ["self"] (spFT (t.cls c cC) (nsT t))) (b : Binds K fd ["self"] []) : MOk3 P w K mg base c cC "_nodes" (fun _ ks => ks.map V.ref) t :=
  ⟨f, fd, _, me, ok, b, fun ks a H Q hh k => let ⟨dx, fs, e1, e2, _⟩ := holds_ft hc hh; ⟨a, dx, fs, _, rfl, e1, e2, fun u hu => k u _ (new_same hu) upd_same⟩⟩
theorem mok_pl {t : Tag} {f : Addr} {fd : FuncData} (hc : ∀ x, t ≠ .call x) (me : Meth K (t.cls c cC) "_plain" f) (ok : FnOk P w K mg base CX0 1 f fd ["self"] (spFT (t.cls c cC) (psT t))) (b : Binds K fd ["self"] []) : MOk3 P w K mg base c cC "_plain" (fun t ks => plT t ks.length) t :=
  ⟨f, fd, _, me, ok, b, fun ks a H Q hh k => let ⟨dx, fs, e1, _, e2⟩ := holds_ft hc hh; ⟨a, dx, fs, _, rfl, e1, e2, fun u hu => k u _ (new_same hu) upd_same⟩⟩
theorem call_holds {x : List Nat} {ks : List Addr} {a : Addr} {H : Hp} (h : Holds1 c cC H (.call x) ks a) : ∃ dx u, H a = some (.ins cC dx [("name", .str (wd x)), ("arguments", .ref u)]) ∧ H u = some (.tup (ks.map V.ref)) := by
  obtain ⟨dx, h⟩ := h
  cases ks <;> (obtain ⟨u, h⟩ := h; exact ⟨dx, u, h⟩)
theorem mok_cn {x : List Nat} {f : Addr} {fd : FuncData} (me : Meth K cC "_nodes" f) (ok : FnOk P w K mg base CX0 1 f fd ["self"] (spCN cC)) (b : Binds K fd ["self"] []) : MOk3 P w K mg base c cC "_nodes" (fun _ ks => ks.map V.ref) (.call x) :=
  ⟨f, fd, _, me, ok, b, fun ks a H Q hh k => let ⟨dx, u, e1, e2⟩ := call_holds hh; ⟨a, dx, u, _, rfl, e1, k u H (Same.refl H) e2⟩⟩
theorem mok_cp {x : List Nat} {f : Addr} {fd : FuncData} (me : Meth K cC "_plain" f) (ok : FnOk P w K mg base CX0 1 f fd ["self"] (spCP K cC)) (b : Binds K fd ["self"] []) : MOk3 P w K mg base c cC "_plain" (fun t ks => plT t ks.length) (.call x) :=
  ⟨f, fd, _, me, ok, b, fun ks a H Q hh k => let ⟨dx, u, e1, e2⟩ := call_holds hh; ⟨a, dx, u, _, _, rfl, e1, e2, fun t ht => k t _ (new_same ht) (by rw [upd_same, List.length_map]; rfl)⟩⟩
theorem nf_self {K : PySem.W.Frag} {C : Addr} : PySem.W.notFirst K C (.ref C) = true := by
  unfold PySem.W.notFirst
  rw [beq_self_eq_true]
  rfl
theorem nf_of {K : PySem.W.Frag} {C : Addr} {t : Value} (h : PySem.W.subIn K t (.ref C) = some false) : PySem.W.notFirst K C t = true := by
  unfold PySem.W.notFirst
  rw [h]
  exact Bool.or_true _
end
end My

set_option Elab.async false
set_option linter.all false
set_option maxRecDepth 100000
set_option maxHeartbeats 0
namespace My
open PySem L2 MyR RT
def strsAre : List Value → List Str → Bool
  | [], [] => true
  | .str x _ :: r, y :: s => x == y && strsAre r s
  | _, _ => false
theorem strs_vals : ∀ {us : List Value} {zs : List Str}, strsAre us zs = true → Vals (zs.map V.str) us
  | [], zs, h => by
    cases zs with
    | nil => exact .nil
    | cons z s => cases h
  | v :: r, zs, h => by
    cases v with
    | str x t =>
      cases zs with
      | nil => cases h
      | cons y s =>
        have h' : (x == y && strsAre r s) = true := h
        rw [Bool.and_eq_true] at h'
        obtain rfl := beq_iff_eq.mp h'.1
        exact .cons ⟨t, rfl⟩ (strs_vals h'.2)
    | _ => cases zs <;> cases h
def intsAre : List Value → List Int → Bool
  | [], [] => true
  | .int x _ :: r, y :: s => x == y && intsAre r s
  | _, _ => false
theorem ints_vals : ∀ {us : List Value} {zs : List Int}, intsAre us zs = true → Vals (zs.map V.int) us
  | [], zs, h => by
    cases zs with
    | nil => exact .nil
    | cons z s => cases h
  | v :: r, zs, h => by
    cases v with
    | int x t =>
      cases zs with
      | nil => cases h
      | cons y s =>
        have h' : (x == y && intsAre r s) = true := h
        rw [Bool.and_eq_true] at h'
        obtain rfl := beq_iff_eq.mp h'.1
        exact .cons ⟨t, rfl⟩ (ints_vals h'.2)
    | _ => cases zs <;> cases h
theorem ble_size {n : Nat} (h : Nat.ble n 1000 = true) : n ≤ sizeLine := Nat.le_of_lt (small1000 (Nat.le_of_ble_eq_true h))
theorem kit_own {K : PySem.W.Frag} {C D : Addr} (h1 : PySem.W.isClsIn K D = true) (h2 : PySem.W.typeIn K (.ref D) = some (.type "type")) (h3 : PySem.W.subIn K (.ref C) (.ref D) = some true) : PySem.W.kitOne K (.ref C) (.ref D) = some true := by
  unfold PySem.W.kitOne
  by_cases e : ((Value.ref C) == (Value.ref D)) = true
  · rw [if_pos e]
  · rw [if_neg e]
    have h1' : (PySem.W.clsIn K D).isSome = true := h1
    show (if ((PySem.W.clsIn K D).isSome && PySem.W.typeIn K (.ref D) == some (.type "type")) = true then PySem.W.subIn K (.ref C) (.ref D) else none) = some true
    rw [h1', h2, if_pos (by rfl)]
    exact h3
theorem all_mk {P : Program} {w : World} {K : PySem.W.Frag} {h : Heap} {mg : Str → Option Value} {fa : Addr} (X : K.In h) (G : h.Ns mainGlobals mg) (hfa : mg "law" = some (.ref fa))
    {f_is_integer f_is_between f_is_small f_is_name f_flat f_outline f_digits_value f_signed_value f_number_value f_read_node f_law_deal f_law_draw f_law_mixed f_law_any_word f_law_words f_law_held f_law_node f_law_is_name f_law_figures f_law_integer f_law_next f_law_take f_law_open f_law_close f_law_count f_law_sum f_law_product f_law_factor f_law_choice f_law_atom f_law_read f_law_told f_law_rows f_law f_Node_nodes f_Node_plain f_Number_plain f_Name_plain f_Pair_nodes f_Half_nodes f_Over_nodes f_Power_nodes f_Power_plain f_Raised_nodes f_Choose_nodes f_Choose_plain f_Node_eq f_Call_nodes f_Call_plain f_Number_init f_Name_init f_Add_init f_Subtract_init f_Multiply_init f_Half_init f_Over_init f_Power_init f_Raised_init f_Choose_init f_Call_init f_Reader_here f_Reader_took f_Reader_need f_Reader_need_number f_Reader_need_open f_Reader_need_close f_Reader_whole f_Reader_product f_Reader_tight f_Reader_step f_Reader_plain f_Reader_called f_Reader_enclosed f_Reader_chosen f_Reader_init f_InvalidText_init C_Number C_Name C_Add C_Subtract C_Multiply C_Half C_Over C_Power C_Raised C_Choose C_Call C_Node C_Reader C_InvalidText aW aM : Addr}
    {od_is_integer an_is_integer : Option Addr} {sl_is_integer : Array (Option Value)} {oc_is_integer kV_is_integer dc_is_integer pm_is_integer cd_is_integer ct_is_integer : Value}
    {od_is_between an_is_between : Option Addr} {sl_is_between : Array (Option Value)} {oc_is_between kV_is_between dc_is_between pm_is_between cd_is_between ct_is_between : Value}
    {od_is_small an_is_small : Option Addr} {sl_is_small : Array (Option Value)} {oc_is_small kV_is_small dc_is_small pm_is_small cd_is_small ct_is_small : Value}
    {od_is_name an_is_name : Option Addr} {sl_is_name : Array (Option Value)} {oc_is_name kV_is_name dc_is_name pm_is_name cd_is_name ct_is_name : Value}
    {od_flat an_flat : Option Addr} {sl_flat : Array (Option Value)} {oc_flat kV_flat dc_flat pm_flat cd_flat ct_flat : Value}
    {od_outline an_outline : Option Addr} {sl_outline : Array (Option Value)} {oc_outline kV_outline dc_outline pm_outline cd_outline ct_outline : Value}
    {od_digits_value an_digits_value : Option Addr} {sl_digits_value : Array (Option Value)} {oc_digits_value kV_digits_value dc_digits_value pm_digits_value cd_digits_value ct_digits_value : Value}
    {od_signed_value an_signed_value : Option Addr} {sl_signed_value : Array (Option Value)} {oc_signed_value kV_signed_value dc_signed_value pm_signed_value cd_signed_value ct_signed_value : Value}
    {od_number_value an_number_value : Option Addr} {sl_number_value : Array (Option Value)} {oc_number_value kV_number_value dc_number_value pm_number_value cd_number_value ct_number_value : Value}
    {od_read_node an_read_node : Option Addr} {sl_read_node : Array (Option Value)} {oc_read_node kV_read_node dc_read_node pm_read_node cd_read_node ct_read_node : Value}
    {od_law_deal an_law_deal : Option Addr} {sl_law_deal : Array (Option Value)} {oc_law_deal kV_law_deal dc_law_deal pm_law_deal cd_law_deal ct_law_deal : Value}
    {od_law_draw an_law_draw : Option Addr} {sl_law_draw : Array (Option Value)} {oc_law_draw kV_law_draw dc_law_draw pm_law_draw cd_law_draw ct_law_draw : Value}
    {od_law_mixed an_law_mixed : Option Addr} {sl_law_mixed : Array (Option Value)} {oc_law_mixed kV_law_mixed dc_law_mixed pm_law_mixed cd_law_mixed ct_law_mixed : Value}
    {od_law_any_word an_law_any_word : Option Addr} {sl_law_any_word : Array (Option Value)} {oc_law_any_word kV_law_any_word dc_law_any_word pm_law_any_word cd_law_any_word ct_law_any_word : Value}
    {od_law_words an_law_words : Option Addr} {sl_law_words : Array (Option Value)} {oc_law_words kV_law_words dc_law_words pm_law_words cd_law_words ct_law_words : Value}
    {od_law_held an_law_held : Option Addr} {sl_law_held : Array (Option Value)} {oc_law_held kV_law_held dc_law_held pm_law_held cd_law_held ct_law_held : Value}
    {od_law_node an_law_node : Option Addr} {sl_law_node : Array (Option Value)} {oc_law_node kV_law_node dc_law_node pm_law_node cd_law_node ct_law_node : Value}
    {od_law_is_name an_law_is_name : Option Addr} {sl_law_is_name : Array (Option Value)} {oc_law_is_name kV_law_is_name dc_law_is_name pm_law_is_name cd_law_is_name ct_law_is_name : Value}
    {od_law_figures an_law_figures : Option Addr} {sl_law_figures : Array (Option Value)} {oc_law_figures kV_law_figures dc_law_figures pm_law_figures cd_law_figures ct_law_figures : Value}
    {od_law_integer an_law_integer : Option Addr} {sl_law_integer : Array (Option Value)} {oc_law_integer kV_law_integer dc_law_integer pm_law_integer cd_law_integer ct_law_integer : Value}
    {od_law_next an_law_next : Option Addr} {sl_law_next : Array (Option Value)} {oc_law_next kV_law_next dc_law_next pm_law_next cd_law_next ct_law_next : Value}
    {od_law_take an_law_take : Option Addr} {sl_law_take : Array (Option Value)} {oc_law_take kV_law_take dc_law_take pm_law_take cd_law_take ct_law_take : Value}
    {od_law_open an_law_open : Option Addr} {sl_law_open : Array (Option Value)} {oc_law_open kV_law_open dc_law_open pm_law_open cd_law_open ct_law_open : Value}
    {od_law_close an_law_close : Option Addr} {sl_law_close : Array (Option Value)} {oc_law_close kV_law_close dc_law_close pm_law_close cd_law_close ct_law_close : Value}
    {od_law_count an_law_count : Option Addr} {sl_law_count : Array (Option Value)} {oc_law_count kV_law_count dc_law_count pm_law_count cd_law_count ct_law_count : Value}
    {od_law_sum an_law_sum : Option Addr} {sl_law_sum : Array (Option Value)} {oc_law_sum kV_law_sum dc_law_sum pm_law_sum cd_law_sum ct_law_sum : Value}
    {od_law_product an_law_product : Option Addr} {sl_law_product : Array (Option Value)} {oc_law_product kV_law_product dc_law_product pm_law_product cd_law_product ct_law_product : Value}
    {od_law_factor an_law_factor : Option Addr} {sl_law_factor : Array (Option Value)} {oc_law_factor kV_law_factor dc_law_factor pm_law_factor cd_law_factor ct_law_factor : Value}
    {od_law_choice an_law_choice : Option Addr} {sl_law_choice : Array (Option Value)} {oc_law_choice kV_law_choice dc_law_choice pm_law_choice cd_law_choice ct_law_choice : Value}
    {od_law_atom an_law_atom : Option Addr} {sl_law_atom : Array (Option Value)} {oc_law_atom kV_law_atom dc_law_atom pm_law_atom cd_law_atom ct_law_atom : Value}
    {od_law_read an_law_read : Option Addr} {sl_law_read : Array (Option Value)} {oc_law_read kV_law_read dc_law_read pm_law_read cd_law_read ct_law_read : Value}
    {od_law_told an_law_told : Option Addr} {sl_law_told : Array (Option Value)} {oc_law_told kV_law_told dc_law_told pm_law_told cd_law_told ct_law_told : Value}
    {od_law_rows an_law_rows : Option Addr} {sl_law_rows : Array (Option Value)} {oc_law_rows kV_law_rows dc_law_rows pm_law_rows cd_law_rows ct_law_rows : Value}
    {od_law an_law : Option Addr} {sl_law : Array (Option Value)} {oc_law kV_law dc_law pm_law cd_law ct_law : Value}
    {od_Node_nodes an_Node_nodes : Option Addr} {sl_Node_nodes : Array (Option Value)} {oc_Node_nodes kV_Node_nodes dc_Node_nodes pm_Node_nodes cd_Node_nodes ct_Node_nodes : Value}
    {od_Number_plain an_Number_plain : Option Addr} {sl_Number_plain : Array (Option Value)} {oc_Number_plain kV_Number_plain dc_Number_plain pm_Number_plain cd_Number_plain ct_Number_plain : Value}
    {od_Node_eq an_Node_eq : Option Addr} {sl_Node_eq : Array (Option Value)} {oc_Node_eq kV_Node_eq dc_Node_eq pm_Node_eq cd_Node_eq ct_Node_eq : Value}
    {od_Number_init an_Number_init : Option Addr} {sl_Number_init : Array (Option Value)} {oc_Number_init kV_Number_init dc_Number_init pm_Number_init cd_Number_init ct_Number_init : Value}
    {od_Name_plain an_Name_plain : Option Addr} {sl_Name_plain : Array (Option Value)} {oc_Name_plain kV_Name_plain dc_Name_plain pm_Name_plain cd_Name_plain ct_Name_plain : Value}
    {od_Name_init an_Name_init : Option Addr} {sl_Name_init : Array (Option Value)} {oc_Name_init kV_Name_init dc_Name_init pm_Name_init cd_Name_init ct_Name_init : Value}
    {od_Pair_nodes an_Pair_nodes : Option Addr} {sl_Pair_nodes : Array (Option Value)} {oc_Pair_nodes kV_Pair_nodes dc_Pair_nodes pm_Pair_nodes cd_Pair_nodes ct_Pair_nodes : Value}
    {od_Node_plain an_Node_plain : Option Addr} {sl_Node_plain : Array (Option Value)} {oc_Node_plain kV_Node_plain dc_Node_plain pm_Node_plain cd_Node_plain ct_Node_plain : Value}
    {od_Add_init an_Add_init : Option Addr} {sl_Add_init : Array (Option Value)} {oc_Add_init kV_Add_init dc_Add_init pm_Add_init cd_Add_init ct_Add_init : Value}
    {od_Subtract_init an_Subtract_init : Option Addr} {sl_Subtract_init : Array (Option Value)} {oc_Subtract_init kV_Subtract_init dc_Subtract_init pm_Subtract_init cd_Subtract_init ct_Subtract_init : Value}
    {od_Multiply_init an_Multiply_init : Option Addr} {sl_Multiply_init : Array (Option Value)} {oc_Multiply_init kV_Multiply_init dc_Multiply_init pm_Multiply_init cd_Multiply_init ct_Multiply_init : Value}
    {od_Half_nodes an_Half_nodes : Option Addr} {sl_Half_nodes : Array (Option Value)} {oc_Half_nodes kV_Half_nodes dc_Half_nodes pm_Half_nodes cd_Half_nodes ct_Half_nodes : Value}
    {od_Half_init an_Half_init : Option Addr} {sl_Half_init : Array (Option Value)} {oc_Half_init kV_Half_init dc_Half_init pm_Half_init cd_Half_init ct_Half_init : Value}
    {od_Over_nodes an_Over_nodes : Option Addr} {sl_Over_nodes : Array (Option Value)} {oc_Over_nodes kV_Over_nodes dc_Over_nodes pm_Over_nodes cd_Over_nodes ct_Over_nodes : Value}
    {od_Over_init an_Over_init : Option Addr} {sl_Over_init : Array (Option Value)} {oc_Over_init kV_Over_init dc_Over_init pm_Over_init cd_Over_init ct_Over_init : Value}
    {od_Power_nodes an_Power_nodes : Option Addr} {sl_Power_nodes : Array (Option Value)} {oc_Power_nodes kV_Power_nodes dc_Power_nodes pm_Power_nodes cd_Power_nodes ct_Power_nodes : Value}
    {od_Power_plain an_Power_plain : Option Addr} {sl_Power_plain : Array (Option Value)} {oc_Power_plain kV_Power_plain dc_Power_plain pm_Power_plain cd_Power_plain ct_Power_plain : Value}
    {od_Power_init an_Power_init : Option Addr} {sl_Power_init : Array (Option Value)} {oc_Power_init kV_Power_init dc_Power_init pm_Power_init cd_Power_init ct_Power_init : Value}
    {od_Raised_nodes an_Raised_nodes : Option Addr} {sl_Raised_nodes : Array (Option Value)} {oc_Raised_nodes kV_Raised_nodes dc_Raised_nodes pm_Raised_nodes cd_Raised_nodes ct_Raised_nodes : Value}
    {od_Raised_init an_Raised_init : Option Addr} {sl_Raised_init : Array (Option Value)} {oc_Raised_init kV_Raised_init dc_Raised_init pm_Raised_init cd_Raised_init ct_Raised_init : Value}
    {od_Choose_nodes an_Choose_nodes : Option Addr} {sl_Choose_nodes : Array (Option Value)} {oc_Choose_nodes kV_Choose_nodes dc_Choose_nodes pm_Choose_nodes cd_Choose_nodes ct_Choose_nodes : Value}
    {od_Choose_plain an_Choose_plain : Option Addr} {sl_Choose_plain : Array (Option Value)} {oc_Choose_plain kV_Choose_plain dc_Choose_plain pm_Choose_plain cd_Choose_plain ct_Choose_plain : Value}
    {od_Choose_init an_Choose_init : Option Addr} {sl_Choose_init : Array (Option Value)} {oc_Choose_init kV_Choose_init dc_Choose_init pm_Choose_init cd_Choose_init ct_Choose_init : Value}
    {od_Call_nodes an_Call_nodes : Option Addr} {sl_Call_nodes : Array (Option Value)} {oc_Call_nodes kV_Call_nodes dc_Call_nodes pm_Call_nodes cd_Call_nodes ct_Call_nodes : Value}
    {od_Call_plain an_Call_plain : Option Addr} {sl_Call_plain : Array (Option Value)} {oc_Call_plain kV_Call_plain dc_Call_plain pm_Call_plain cd_Call_plain ct_Call_plain : Value}
    {od_Call_init an_Call_init : Option Addr} {sl_Call_init : Array (Option Value)} {oc_Call_init kV_Call_init dc_Call_init pm_Call_init cd_Call_init ct_Call_init : Value}
    {od_Reader_here an_Reader_here : Option Addr} {sl_Reader_here : Array (Option Value)} {oc_Reader_here kV_Reader_here dc_Reader_here pm_Reader_here cd_Reader_here ct_Reader_here : Value}
    {od_Reader_took an_Reader_took : Option Addr} {sl_Reader_took : Array (Option Value)} {oc_Reader_took kV_Reader_took dc_Reader_took pm_Reader_took cd_Reader_took ct_Reader_took : Value}
    {od_Reader_need an_Reader_need : Option Addr} {sl_Reader_need : Array (Option Value)} {oc_Reader_need kV_Reader_need dc_Reader_need pm_Reader_need cd_Reader_need ct_Reader_need : Value}
    {od_Reader_need_number an_Reader_need_number : Option Addr} {sl_Reader_need_number : Array (Option Value)} {oc_Reader_need_number kV_Reader_need_number dc_Reader_need_number pm_Reader_need_number cd_Reader_need_number ct_Reader_need_number : Value}
    {od_Reader_need_open an_Reader_need_open : Option Addr} {sl_Reader_need_open : Array (Option Value)} {oc_Reader_need_open kV_Reader_need_open dc_Reader_need_open pm_Reader_need_open cd_Reader_need_open ct_Reader_need_open : Value}
    {od_Reader_need_close an_Reader_need_close : Option Addr} {sl_Reader_need_close : Array (Option Value)} {oc_Reader_need_close kV_Reader_need_close dc_Reader_need_close pm_Reader_need_close cd_Reader_need_close ct_Reader_need_close : Value}
    {od_Reader_whole an_Reader_whole : Option Addr} {sl_Reader_whole : Array (Option Value)} {oc_Reader_whole kV_Reader_whole dc_Reader_whole pm_Reader_whole cd_Reader_whole ct_Reader_whole : Value}
    {od_Reader_product an_Reader_product : Option Addr} {sl_Reader_product : Array (Option Value)} {oc_Reader_product kV_Reader_product dc_Reader_product pm_Reader_product cd_Reader_product ct_Reader_product : Value}
    {od_Reader_tight an_Reader_tight : Option Addr} {sl_Reader_tight : Array (Option Value)} {oc_Reader_tight kV_Reader_tight dc_Reader_tight pm_Reader_tight cd_Reader_tight ct_Reader_tight : Value}
    {od_Reader_step an_Reader_step : Option Addr} {sl_Reader_step : Array (Option Value)} {oc_Reader_step kV_Reader_step dc_Reader_step pm_Reader_step cd_Reader_step ct_Reader_step : Value}
    {od_Reader_plain an_Reader_plain : Option Addr} {sl_Reader_plain : Array (Option Value)} {oc_Reader_plain kV_Reader_plain dc_Reader_plain pm_Reader_plain cd_Reader_plain ct_Reader_plain : Value}
    {od_Reader_called an_Reader_called : Option Addr} {sl_Reader_called : Array (Option Value)} {oc_Reader_called kV_Reader_called dc_Reader_called pm_Reader_called cd_Reader_called ct_Reader_called : Value}
    {od_Reader_enclosed an_Reader_enclosed : Option Addr} {sl_Reader_enclosed : Array (Option Value)} {oc_Reader_enclosed kV_Reader_enclosed dc_Reader_enclosed pm_Reader_enclosed cd_Reader_enclosed ct_Reader_enclosed : Value}
    {od_Reader_chosen an_Reader_chosen : Option Addr} {sl_Reader_chosen : Array (Option Value)} {oc_Reader_chosen kV_Reader_chosen dc_Reader_chosen pm_Reader_chosen cd_Reader_chosen ct_Reader_chosen : Value}
    {od_Reader_init an_Reader_init : Option Addr} {sl_Reader_init : Array (Option Value)} {oc_Reader_init kV_Reader_init dc_Reader_init pm_Reader_init cd_Reader_init ct_Reader_init : Value}
    {od_InvalidText_init an_InvalidText_init : Option Addr} {sl_InvalidText_init : Array (Option Value)} {oc_InvalidText_init kV_InvalidText_init dc_InvalidText_init pm_InvalidText_init cd_InvalidText_init ct_InvalidText_init : Value}
    {oo_Number : Obj} {tt_Number : Tok}
    {oo_Name : Obj} {tt_Name : Tok}
    {oo_Add : Obj} {tt_Add : Tok}
    {oo_Subtract : Obj} {tt_Subtract : Tok}
    {oo_Multiply : Obj} {tt_Multiply : Tok}
    {oo_Half : Obj} {tt_Half : Tok}
    {oo_Over : Obj} {tt_Over : Tok}
    {oo_Power : Obj} {tt_Power : Tok}
    {oo_Raised : Obj} {tt_Raised : Tok}
    {oo_Choose : Obj} {tt_Choose : Tok}
    {oo_Call : Obj} {tt_Call : Tok}
    {nmT qT : Str} {NT : Addr} {bsT : List Value} {snT : List Str} {subT_ : List Value} {abT : Bool} {colT : Option Bool} {ddT : Option Addr} {m0T m1T m2T m3T m5T : Option Value} {LE : Addr}
    {t1 t2 t3 t4 t5 : Tok}
    {odW odM : Option Addr} {itsW itsM : Array Value} {nW nM : Nat} {slW slM : Array (Option Value)}
    (a_is_integer : PySem.W.nsIn K mainGlobals "is_integer" = some (some (.ref f_is_integer)))
    (l_is_integer : K.lookup f_is_integer = some ⟨oc_is_integer, od_is_integer, .func (PySem.W.fnOf "is_integer" "is_integer" (defArgs s_is_integer) (defBody s_is_integer) (defScope s_is_integer) .none kV_is_integer dc_is_integer pm_is_integer an_is_integer cd_is_integer ct_is_integer), sl_is_integer⟩)
    (c_is_integer : PySem.W.codeIn K cd_is_integer "is_integer" = true)
    (k_is_integer : PySem.W.keepIn K (.ref f_is_integer) = true)
    (a_is_between : PySem.W.nsIn K mainGlobals "is_between" = some (some (.ref f_is_between)))
    (l_is_between : K.lookup f_is_between = some ⟨oc_is_between, od_is_between, .func (PySem.W.fnOf "is_between" "is_between" (defArgs s_is_between) (defBody s_is_between) (defScope s_is_between) .none kV_is_between dc_is_between pm_is_between an_is_between cd_is_between ct_is_between), sl_is_between⟩)
    (c_is_between : PySem.W.codeIn K cd_is_between "is_between" = true)
    (k_is_between : PySem.W.keepIn K (.ref f_is_between) = true)
    (a_is_small : PySem.W.nsIn K mainGlobals "is_small" = some (some (.ref f_is_small)))
    (l_is_small : K.lookup f_is_small = some ⟨oc_is_small, od_is_small, .func (PySem.W.fnOf "is_small" "is_small" (defArgs s_is_small) (defBody s_is_small) (defScope s_is_small) .none kV_is_small dc_is_small pm_is_small an_is_small cd_is_small ct_is_small), sl_is_small⟩)
    (c_is_small : PySem.W.codeIn K cd_is_small "is_small" = true)
    (k_is_small : PySem.W.keepIn K (.ref f_is_small) = true)
    (a_is_name : PySem.W.nsIn K mainGlobals "is_name" = some (some (.ref f_is_name)))
    (l_is_name : K.lookup f_is_name = some ⟨oc_is_name, od_is_name, .func (PySem.W.fnOf "is_name" "is_name" (defArgs s_is_name) (defBody s_is_name) (defScope s_is_name) .none kV_is_name dc_is_name pm_is_name an_is_name cd_is_name ct_is_name), sl_is_name⟩)
    (c_is_name : PySem.W.codeIn K cd_is_name "is_name" = true)
    (k_is_name : PySem.W.keepIn K (.ref f_is_name) = true)
    (a_flat : PySem.W.nsIn K mainGlobals "flat" = some (some (.ref f_flat)))
    (l_flat : K.lookup f_flat = some ⟨oc_flat, od_flat, .func (PySem.W.fnOf "flat" "flat" (defArgs s_flat) (defBody s_flat) (defScope s_flat) .none kV_flat dc_flat pm_flat an_flat cd_flat ct_flat), sl_flat⟩)
    (c_flat : PySem.W.codeIn K cd_flat "flat" = true)
    (k_flat : PySem.W.keepIn K (.ref f_flat) = true)
    (a_outline : PySem.W.nsIn K mainGlobals "outline" = some (some (.ref f_outline)))
    (l_outline : K.lookup f_outline = some ⟨oc_outline, od_outline, .func (PySem.W.fnOf "outline" "outline" (defArgs s_outline) (defBody s_outline) (defScope s_outline) .none kV_outline dc_outline pm_outline an_outline cd_outline ct_outline), sl_outline⟩)
    (c_outline : PySem.W.codeIn K cd_outline "outline" = true)
    (k_outline : PySem.W.keepIn K (.ref f_outline) = true)
    (a_digits_value : PySem.W.nsIn K mainGlobals "digits_value" = some (some (.ref f_digits_value)))
    (l_digits_value : K.lookup f_digits_value = some ⟨oc_digits_value, od_digits_value, .func (PySem.W.fnOf "digits_value" "digits_value" (defArgs s_digits_value) (defBody s_digits_value) (defScope s_digits_value) .none kV_digits_value dc_digits_value pm_digits_value an_digits_value cd_digits_value ct_digits_value), sl_digits_value⟩)
    (c_digits_value : PySem.W.codeIn K cd_digits_value "digits_value" = true)
    (k_digits_value : PySem.W.keepIn K (.ref f_digits_value) = true)
    (a_signed_value : PySem.W.nsIn K mainGlobals "signed_value" = some (some (.ref f_signed_value)))
    (l_signed_value : K.lookup f_signed_value = some ⟨oc_signed_value, od_signed_value, .func (PySem.W.fnOf "signed_value" "signed_value" (defArgs s_signed_value) (defBody s_signed_value) (defScope s_signed_value) .none kV_signed_value dc_signed_value pm_signed_value an_signed_value cd_signed_value ct_signed_value), sl_signed_value⟩)
    (c_signed_value : PySem.W.codeIn K cd_signed_value "signed_value" = true)
    (k_signed_value : PySem.W.keepIn K (.ref f_signed_value) = true)
    (a_number_value : PySem.W.nsIn K mainGlobals "number_value" = some (some (.ref f_number_value)))
    (l_number_value : K.lookup f_number_value = some ⟨oc_number_value, od_number_value, .func (PySem.W.fnOf "number_value" "number_value" (defArgs s_number_value) (defBody s_number_value) (defScope s_number_value) .none kV_number_value dc_number_value pm_number_value an_number_value cd_number_value ct_number_value), sl_number_value⟩)
    (c_number_value : PySem.W.codeIn K cd_number_value "number_value" = true)
    (k_number_value : PySem.W.keepIn K (.ref f_number_value) = true)
    (a_read_node : PySem.W.nsIn K mainGlobals "read_node" = some (some (.ref f_read_node)))
    (l_read_node : K.lookup f_read_node = some ⟨oc_read_node, od_read_node, .func (PySem.W.fnOf "read_node" "read_node" (defArgs s_read_node) (defBody s_read_node) (defScope s_read_node) .none kV_read_node dc_read_node pm_read_node an_read_node cd_read_node ct_read_node), sl_read_node⟩)
    (c_read_node : PySem.W.codeIn K cd_read_node "read_node" = true)
    (k_read_node : PySem.W.keepIn K (.ref f_read_node) = true)
    (a_law_deal : PySem.W.nsIn K mainGlobals "_law_deal" = some (some (.ref f_law_deal)))
    (l_law_deal : K.lookup f_law_deal = some ⟨oc_law_deal, od_law_deal, .func (PySem.W.fnOf "_law_deal" "_law_deal" (defArgs s_law_deal) (defBody s_law_deal) (defScope s_law_deal) .none kV_law_deal dc_law_deal pm_law_deal an_law_deal cd_law_deal ct_law_deal), sl_law_deal⟩)
    (c_law_deal : PySem.W.codeIn K cd_law_deal "_law_deal" = true)
    (k_law_deal : PySem.W.keepIn K (.ref f_law_deal) = true)
    (a_law_draw : PySem.W.nsIn K mainGlobals "_law_draw" = some (some (.ref f_law_draw)))
    (l_law_draw : K.lookup f_law_draw = some ⟨oc_law_draw, od_law_draw, .func (PySem.W.fnOf "_law_draw" "_law_draw" (defArgs s_law_draw) (defBody s_law_draw) (defScope s_law_draw) .none kV_law_draw dc_law_draw pm_law_draw an_law_draw cd_law_draw ct_law_draw), sl_law_draw⟩)
    (c_law_draw : PySem.W.codeIn K cd_law_draw "_law_draw" = true)
    (k_law_draw : PySem.W.keepIn K (.ref f_law_draw) = true)
    (a_law_mixed : PySem.W.nsIn K mainGlobals "_law_mixed" = some (some (.ref f_law_mixed)))
    (l_law_mixed : K.lookup f_law_mixed = some ⟨oc_law_mixed, od_law_mixed, .func (PySem.W.fnOf "_law_mixed" "_law_mixed" (defArgs s_law_mixed) (defBody s_law_mixed) (defScope s_law_mixed) .none kV_law_mixed dc_law_mixed pm_law_mixed an_law_mixed cd_law_mixed ct_law_mixed), sl_law_mixed⟩)
    (c_law_mixed : PySem.W.codeIn K cd_law_mixed "_law_mixed" = true)
    (k_law_mixed : PySem.W.keepIn K (.ref f_law_mixed) = true)
    (a_law_any_word : PySem.W.nsIn K mainGlobals "_law_any_word" = some (some (.ref f_law_any_word)))
    (l_law_any_word : K.lookup f_law_any_word = some ⟨oc_law_any_word, od_law_any_word, .func (PySem.W.fnOf "_law_any_word" "_law_any_word" (defArgs s_law_any_word) (defBody s_law_any_word) (defScope s_law_any_word) .none kV_law_any_word dc_law_any_word pm_law_any_word an_law_any_word cd_law_any_word ct_law_any_word), sl_law_any_word⟩)
    (c_law_any_word : PySem.W.codeIn K cd_law_any_word "_law_any_word" = true)
    (k_law_any_word : PySem.W.keepIn K (.ref f_law_any_word) = true)
    (a_law_words : PySem.W.nsIn K mainGlobals "_law_words" = some (some (.ref f_law_words)))
    (l_law_words : K.lookup f_law_words = some ⟨oc_law_words, od_law_words, .func (PySem.W.fnOf "_law_words" "_law_words" (defArgs s_law_words) (defBody s_law_words) (defScope s_law_words) .none kV_law_words dc_law_words pm_law_words an_law_words cd_law_words ct_law_words), sl_law_words⟩)
    (c_law_words : PySem.W.codeIn K cd_law_words "_law_words" = true)
    (k_law_words : PySem.W.keepIn K (.ref f_law_words) = true)
    (a_law_held : PySem.W.nsIn K mainGlobals "_law_held" = some (some (.ref f_law_held)))
    (l_law_held : K.lookup f_law_held = some ⟨oc_law_held, od_law_held, .func (PySem.W.fnOf "_law_held" "_law_held" (defArgs s_law_held) (defBody s_law_held) (defScope s_law_held) .none kV_law_held dc_law_held pm_law_held an_law_held cd_law_held ct_law_held), sl_law_held⟩)
    (c_law_held : PySem.W.codeIn K cd_law_held "_law_held" = true)
    (k_law_held : PySem.W.keepIn K (.ref f_law_held) = true)
    (a_law_node : PySem.W.nsIn K mainGlobals "_law_node" = some (some (.ref f_law_node)))
    (l_law_node : K.lookup f_law_node = some ⟨oc_law_node, od_law_node, .func (PySem.W.fnOf "_law_node" "_law_node" (defArgs s_law_node) (defBody s_law_node) (defScope s_law_node) .none kV_law_node dc_law_node pm_law_node an_law_node cd_law_node ct_law_node), sl_law_node⟩)
    (c_law_node : PySem.W.codeIn K cd_law_node "_law_node" = true)
    (k_law_node : PySem.W.keepIn K (.ref f_law_node) = true)
    (a_law_is_name : PySem.W.nsIn K mainGlobals "_law_is_name" = some (some (.ref f_law_is_name)))
    (l_law_is_name : K.lookup f_law_is_name = some ⟨oc_law_is_name, od_law_is_name, .func (PySem.W.fnOf "_law_is_name" "_law_is_name" (defArgs s_law_is_name) (defBody s_law_is_name) (defScope s_law_is_name) .none kV_law_is_name dc_law_is_name pm_law_is_name an_law_is_name cd_law_is_name ct_law_is_name), sl_law_is_name⟩)
    (c_law_is_name : PySem.W.codeIn K cd_law_is_name "_law_is_name" = true)
    (k_law_is_name : PySem.W.keepIn K (.ref f_law_is_name) = true)
    (a_law_figures : PySem.W.nsIn K mainGlobals "_law_figures" = some (some (.ref f_law_figures)))
    (l_law_figures : K.lookup f_law_figures = some ⟨oc_law_figures, od_law_figures, .func (PySem.W.fnOf "_law_figures" "_law_figures" (defArgs s_law_figures) (defBody s_law_figures) (defScope s_law_figures) .none kV_law_figures dc_law_figures pm_law_figures an_law_figures cd_law_figures ct_law_figures), sl_law_figures⟩)
    (c_law_figures : PySem.W.codeIn K cd_law_figures "_law_figures" = true)
    (k_law_figures : PySem.W.keepIn K (.ref f_law_figures) = true)
    (a_law_integer : PySem.W.nsIn K mainGlobals "_law_integer" = some (some (.ref f_law_integer)))
    (l_law_integer : K.lookup f_law_integer = some ⟨oc_law_integer, od_law_integer, .func (PySem.W.fnOf "_law_integer" "_law_integer" (defArgs s_law_integer) (defBody s_law_integer) (defScope s_law_integer) .none kV_law_integer dc_law_integer pm_law_integer an_law_integer cd_law_integer ct_law_integer), sl_law_integer⟩)
    (c_law_integer : PySem.W.codeIn K cd_law_integer "_law_integer" = true)
    (k_law_integer : PySem.W.keepIn K (.ref f_law_integer) = true)
    (a_law_next : PySem.W.nsIn K mainGlobals "_law_next" = some (some (.ref f_law_next)))
    (l_law_next : K.lookup f_law_next = some ⟨oc_law_next, od_law_next, .func (PySem.W.fnOf "_law_next" "_law_next" (defArgs s_law_next) (defBody s_law_next) (defScope s_law_next) .none kV_law_next dc_law_next pm_law_next an_law_next cd_law_next ct_law_next), sl_law_next⟩)
    (c_law_next : PySem.W.codeIn K cd_law_next "_law_next" = true)
    (k_law_next : PySem.W.keepIn K (.ref f_law_next) = true)
    (a_law_take : PySem.W.nsIn K mainGlobals "_law_take" = some (some (.ref f_law_take)))
    (l_law_take : K.lookup f_law_take = some ⟨oc_law_take, od_law_take, .func (PySem.W.fnOf "_law_take" "_law_take" (defArgs s_law_take) (defBody s_law_take) (defScope s_law_take) .none kV_law_take dc_law_take pm_law_take an_law_take cd_law_take ct_law_take), sl_law_take⟩)
    (c_law_take : PySem.W.codeIn K cd_law_take "_law_take" = true)
    (k_law_take : PySem.W.keepIn K (.ref f_law_take) = true)
    (a_law_open : PySem.W.nsIn K mainGlobals "_law_open" = some (some (.ref f_law_open)))
    (l_law_open : K.lookup f_law_open = some ⟨oc_law_open, od_law_open, .func (PySem.W.fnOf "_law_open" "_law_open" (defArgs s_law_open) (defBody s_law_open) (defScope s_law_open) .none kV_law_open dc_law_open pm_law_open an_law_open cd_law_open ct_law_open), sl_law_open⟩)
    (c_law_open : PySem.W.codeIn K cd_law_open "_law_open" = true)
    (k_law_open : PySem.W.keepIn K (.ref f_law_open) = true)
    (a_law_close : PySem.W.nsIn K mainGlobals "_law_close" = some (some (.ref f_law_close)))
    (l_law_close : K.lookup f_law_close = some ⟨oc_law_close, od_law_close, .func (PySem.W.fnOf "_law_close" "_law_close" (defArgs s_law_close) (defBody s_law_close) (defScope s_law_close) .none kV_law_close dc_law_close pm_law_close an_law_close cd_law_close ct_law_close), sl_law_close⟩)
    (c_law_close : PySem.W.codeIn K cd_law_close "_law_close" = true)
    (k_law_close : PySem.W.keepIn K (.ref f_law_close) = true)
    (a_law_count : PySem.W.nsIn K mainGlobals "_law_count" = some (some (.ref f_law_count)))
    (l_law_count : K.lookup f_law_count = some ⟨oc_law_count, od_law_count, .func (PySem.W.fnOf "_law_count" "_law_count" (defArgs s_law_count) (defBody s_law_count) (defScope s_law_count) .none kV_law_count dc_law_count pm_law_count an_law_count cd_law_count ct_law_count), sl_law_count⟩)
    (c_law_count : PySem.W.codeIn K cd_law_count "_law_count" = true)
    (k_law_count : PySem.W.keepIn K (.ref f_law_count) = true)
    (a_law_sum : PySem.W.nsIn K mainGlobals "_law_sum" = some (some (.ref f_law_sum)))
    (l_law_sum : K.lookup f_law_sum = some ⟨oc_law_sum, od_law_sum, .func (PySem.W.fnOf "_law_sum" "_law_sum" (defArgs s_law_sum) (defBody s_law_sum) (defScope s_law_sum) .none kV_law_sum dc_law_sum pm_law_sum an_law_sum cd_law_sum ct_law_sum), sl_law_sum⟩)
    (c_law_sum : PySem.W.codeIn K cd_law_sum "_law_sum" = true)
    (k_law_sum : PySem.W.keepIn K (.ref f_law_sum) = true)
    (a_law_product : PySem.W.nsIn K mainGlobals "_law_product" = some (some (.ref f_law_product)))
    (l_law_product : K.lookup f_law_product = some ⟨oc_law_product, od_law_product, .func (PySem.W.fnOf "_law_product" "_law_product" (defArgs s_law_product) (defBody s_law_product) (defScope s_law_product) .none kV_law_product dc_law_product pm_law_product an_law_product cd_law_product ct_law_product), sl_law_product⟩)
    (c_law_product : PySem.W.codeIn K cd_law_product "_law_product" = true)
    (k_law_product : PySem.W.keepIn K (.ref f_law_product) = true)
    (a_law_factor : PySem.W.nsIn K mainGlobals "_law_factor" = some (some (.ref f_law_factor)))
    (l_law_factor : K.lookup f_law_factor = some ⟨oc_law_factor, od_law_factor, .func (PySem.W.fnOf "_law_factor" "_law_factor" (defArgs s_law_factor) (defBody s_law_factor) (defScope s_law_factor) .none kV_law_factor dc_law_factor pm_law_factor an_law_factor cd_law_factor ct_law_factor), sl_law_factor⟩)
    (c_law_factor : PySem.W.codeIn K cd_law_factor "_law_factor" = true)
    (k_law_factor : PySem.W.keepIn K (.ref f_law_factor) = true)
    (a_law_choice : PySem.W.nsIn K mainGlobals "_law_choice" = some (some (.ref f_law_choice)))
    (l_law_choice : K.lookup f_law_choice = some ⟨oc_law_choice, od_law_choice, .func (PySem.W.fnOf "_law_choice" "_law_choice" (defArgs s_law_choice) (defBody s_law_choice) (defScope s_law_choice) .none kV_law_choice dc_law_choice pm_law_choice an_law_choice cd_law_choice ct_law_choice), sl_law_choice⟩)
    (c_law_choice : PySem.W.codeIn K cd_law_choice "_law_choice" = true)
    (k_law_choice : PySem.W.keepIn K (.ref f_law_choice) = true)
    (a_law_atom : PySem.W.nsIn K mainGlobals "_law_atom" = some (some (.ref f_law_atom)))
    (l_law_atom : K.lookup f_law_atom = some ⟨oc_law_atom, od_law_atom, .func (PySem.W.fnOf "_law_atom" "_law_atom" (defArgs s_law_atom) (defBody s_law_atom) (defScope s_law_atom) .none kV_law_atom dc_law_atom pm_law_atom an_law_atom cd_law_atom ct_law_atom), sl_law_atom⟩)
    (c_law_atom : PySem.W.codeIn K cd_law_atom "_law_atom" = true)
    (k_law_atom : PySem.W.keepIn K (.ref f_law_atom) = true)
    (a_law_read : PySem.W.nsIn K mainGlobals "_law_read" = some (some (.ref f_law_read)))
    (l_law_read : K.lookup f_law_read = some ⟨oc_law_read, od_law_read, .func (PySem.W.fnOf "_law_read" "_law_read" (defArgs s_law_read) (defBody s_law_read) (defScope s_law_read) .none kV_law_read dc_law_read pm_law_read an_law_read cd_law_read ct_law_read), sl_law_read⟩)
    (c_law_read : PySem.W.codeIn K cd_law_read "_law_read" = true)
    (k_law_read : PySem.W.keepIn K (.ref f_law_read) = true)
    (a_law_told : PySem.W.nsIn K mainGlobals "_law_told" = some (some (.ref f_law_told)))
    (l_law_told : K.lookup f_law_told = some ⟨oc_law_told, od_law_told, .func (PySem.W.fnOf "_law_told" "_law_told" (defArgs s_law_told) (defBody s_law_told) (defScope s_law_told) .none kV_law_told dc_law_told pm_law_told an_law_told cd_law_told ct_law_told), sl_law_told⟩)
    (c_law_told : PySem.W.codeIn K cd_law_told "_law_told" = true)
    (k_law_told : PySem.W.keepIn K (.ref f_law_told) = true)
    (a_law_rows : PySem.W.nsIn K mainGlobals "_law_rows" = some (some (.ref f_law_rows)))
    (l_law_rows : K.lookup f_law_rows = some ⟨oc_law_rows, od_law_rows, .func (PySem.W.fnOf "_law_rows" "_law_rows" (defArgs s_law_rows) (defBody s_law_rows) (defScope s_law_rows) .none kV_law_rows dc_law_rows pm_law_rows an_law_rows cd_law_rows ct_law_rows), sl_law_rows⟩)
    (c_law_rows : PySem.W.codeIn K cd_law_rows "_law_rows" = true)
    (k_law_rows : PySem.W.keepIn K (.ref f_law_rows) = true)
    (a_law : PySem.W.nsIn K mainGlobals "law" = some (some (.ref f_law)))
    (l_law : K.lookup f_law = some ⟨oc_law, od_law, .func (PySem.W.fnOf "law" "law" (defArgs s_law) (defBody s_law) (defScope s_law) .none kV_law dc_law pm_law an_law cd_law ct_law), sl_law⟩)
    (c_law : PySem.W.codeIn K cd_law "law" = true)
    (k_law : PySem.W.keepIn K (.ref f_law) = true)
    (a_Number : PySem.W.nsIn K mainGlobals "Number" = some (some (.ref C_Number)))
    (a_Name : PySem.W.nsIn K mainGlobals "Name" = some (some (.ref C_Name)))
    (a_Add : PySem.W.nsIn K mainGlobals "Add" = some (some (.ref C_Add)))
    (a_Subtract : PySem.W.nsIn K mainGlobals "Subtract" = some (some (.ref C_Subtract)))
    (a_Multiply : PySem.W.nsIn K mainGlobals "Multiply" = some (some (.ref C_Multiply)))
    (a_Half : PySem.W.nsIn K mainGlobals "Half" = some (some (.ref C_Half)))
    (a_Over : PySem.W.nsIn K mainGlobals "Over" = some (some (.ref C_Over)))
    (a_Power : PySem.W.nsIn K mainGlobals "Power" = some (some (.ref C_Power)))
    (a_Raised : PySem.W.nsIn K mainGlobals "Raised" = some (some (.ref C_Raised)))
    (a_Choose : PySem.W.nsIn K mainGlobals "Choose" = some (some (.ref C_Choose)))
    (a_Call : PySem.W.nsIn K mainGlobals "Call" = some (some (.ref C_Call)))
    (a_Node : PySem.W.nsIn K mainGlobals "Node" = some (some (.ref C_Node)))
    (a_Reader : PySem.W.nsIn K mainGlobals "Reader" = some (some (.ref C_Reader)))
    (a_InvalidText : PySem.W.nsIn K mainGlobals "InvalidText" = some (some (.ref C_InvalidText)))
    (m_nodes_Number : PySem.W.findIn K (.ref C_Number) "_nodes" = some (some (.ref f_Node_nodes)))
    (l_Node_nodes : K.lookup f_Node_nodes = some ⟨oc_Node_nodes, od_Node_nodes, .func (PySem.W.fnOf "_nodes" "Node._nodes" (defArgs s_Node_nodes) (defBody s_Node_nodes) (defScope s_Node_nodes) .none kV_Node_nodes dc_Node_nodes pm_Node_nodes an_Node_nodes cd_Node_nodes ct_Node_nodes), sl_Node_nodes⟩)
    (c_Node_nodes : PySem.W.codeIn K cd_Node_nodes "Node._nodes" = true)
    (k_Node_nodes : PySem.W.keepIn K (.ref f_Node_nodes) = true)
    (i_Node_nodes : PySem.W.isFn K (.ref f_Node_nodes) = true)
    (m_plain_Number : PySem.W.findIn K (.ref C_Number) "_plain" = some (some (.ref f_Number_plain)))
    (l_Number_plain : K.lookup f_Number_plain = some ⟨oc_Number_plain, od_Number_plain, .func (PySem.W.fnOf "_plain" "Number._plain" (defArgs s_Number_plain) (defBody s_Number_plain) (defScope s_Number_plain) .none kV_Number_plain dc_Number_plain pm_Number_plain an_Number_plain cd_Number_plain ct_Number_plain), sl_Number_plain⟩)
    (c_Number_plain : PySem.W.codeIn K cd_Number_plain "Number._plain" = true)
    (k_Number_plain : PySem.W.keepIn K (.ref f_Number_plain) = true)
    (i_Number_plain : PySem.W.isFn K (.ref f_Number_plain) = true)
    (meq_Number : PySem.W.findIn K (.ref C_Number) "__eq__" = some (some (.ref f_Node_eq)))
    (l_Node_eq : K.lookup f_Node_eq = some ⟨oc_Node_eq, od_Node_eq, .func (PySem.W.fnOf "__eq__" "Node.__eq__" (defArgs s_Node_eq) (defBody s_Node_eq) (defScope s_Node_eq) .none kV_Node_eq dc_Node_eq pm_Node_eq an_Node_eq cd_Node_eq ct_Node_eq), sl_Node_eq⟩)
    (c_Node_eq : PySem.W.codeIn K cd_Node_eq "Node.__eq__" = true)
    (k_Node_eq : PySem.W.keepIn K (.ref f_Node_eq) = true)
    (i_Node_eq : PySem.W.isFn K (.ref f_Node_eq) = true)
    (minit_Number : PySem.W.findIn K (.ref C_Number) "__init__" = some (some (.ref f_Number_init)))
    (l_Number_init : K.lookup f_Number_init = some ⟨oc_Number_init, od_Number_init, .func (PySem.W.fnOf "__init__" "Number.__init__" (defArgs s_Number_init) (defBody s_Number_init) (defScope s_Number_init) .none kV_Number_init dc_Number_init pm_Number_init an_Number_init cd_Number_init ct_Number_init), sl_Number_init⟩)
    (c_Number_init : PySem.W.codeIn K cd_Number_init "Number.__init__" = true)
    (k_Number_init : PySem.W.keepIn K (.ref f_Number_init) = true)
    (i_Number_init : PySem.W.isFn K (.ref f_Number_init) = true)
    (m_nodes_Name : PySem.W.findIn K (.ref C_Name) "_nodes" = some (some (.ref f_Node_nodes)))
    (m_plain_Name : PySem.W.findIn K (.ref C_Name) "_plain" = some (some (.ref f_Name_plain)))
    (l_Name_plain : K.lookup f_Name_plain = some ⟨oc_Name_plain, od_Name_plain, .func (PySem.W.fnOf "_plain" "Name._plain" (defArgs s_Name_plain) (defBody s_Name_plain) (defScope s_Name_plain) .none kV_Name_plain dc_Name_plain pm_Name_plain an_Name_plain cd_Name_plain ct_Name_plain), sl_Name_plain⟩)
    (c_Name_plain : PySem.W.codeIn K cd_Name_plain "Name._plain" = true)
    (k_Name_plain : PySem.W.keepIn K (.ref f_Name_plain) = true)
    (i_Name_plain : PySem.W.isFn K (.ref f_Name_plain) = true)
    (meq_Name : PySem.W.findIn K (.ref C_Name) "__eq__" = some (some (.ref f_Node_eq)))
    (minit_Name : PySem.W.findIn K (.ref C_Name) "__init__" = some (some (.ref f_Name_init)))
    (l_Name_init : K.lookup f_Name_init = some ⟨oc_Name_init, od_Name_init, .func (PySem.W.fnOf "__init__" "Name.__init__" (defArgs s_Name_init) (defBody s_Name_init) (defScope s_Name_init) .none kV_Name_init dc_Name_init pm_Name_init an_Name_init cd_Name_init ct_Name_init), sl_Name_init⟩)
    (c_Name_init : PySem.W.codeIn K cd_Name_init "Name.__init__" = true)
    (k_Name_init : PySem.W.keepIn K (.ref f_Name_init) = true)
    (i_Name_init : PySem.W.isFn K (.ref f_Name_init) = true)
    (m_nodes_Add : PySem.W.findIn K (.ref C_Add) "_nodes" = some (some (.ref f_Pair_nodes)))
    (l_Pair_nodes : K.lookup f_Pair_nodes = some ⟨oc_Pair_nodes, od_Pair_nodes, .func (PySem.W.fnOf "_nodes" "Pair._nodes" (defArgs s_Pair_nodes) (defBody s_Pair_nodes) (defScope s_Pair_nodes) .none kV_Pair_nodes dc_Pair_nodes pm_Pair_nodes an_Pair_nodes cd_Pair_nodes ct_Pair_nodes), sl_Pair_nodes⟩)
    (c_Pair_nodes : PySem.W.codeIn K cd_Pair_nodes "Pair._nodes" = true)
    (k_Pair_nodes : PySem.W.keepIn K (.ref f_Pair_nodes) = true)
    (i_Pair_nodes : PySem.W.isFn K (.ref f_Pair_nodes) = true)
    (m_plain_Add : PySem.W.findIn K (.ref C_Add) "_plain" = some (some (.ref f_Node_plain)))
    (l_Node_plain : K.lookup f_Node_plain = some ⟨oc_Node_plain, od_Node_plain, .func (PySem.W.fnOf "_plain" "Node._plain" (defArgs s_Node_plain) (defBody s_Node_plain) (defScope s_Node_plain) .none kV_Node_plain dc_Node_plain pm_Node_plain an_Node_plain cd_Node_plain ct_Node_plain), sl_Node_plain⟩)
    (c_Node_plain : PySem.W.codeIn K cd_Node_plain "Node._plain" = true)
    (k_Node_plain : PySem.W.keepIn K (.ref f_Node_plain) = true)
    (i_Node_plain : PySem.W.isFn K (.ref f_Node_plain) = true)
    (meq_Add : PySem.W.findIn K (.ref C_Add) "__eq__" = some (some (.ref f_Node_eq)))
    (minit_Add : PySem.W.findIn K (.ref C_Add) "__init__" = some (some (.ref f_Add_init)))
    (l_Add_init : K.lookup f_Add_init = some ⟨oc_Add_init, od_Add_init, .func (PySem.W.fnOf "__init__" "Add.__init__" (defArgs s_Add_init) (defBody s_Add_init) (defScope s_Add_init) .none kV_Add_init dc_Add_init pm_Add_init an_Add_init cd_Add_init ct_Add_init), sl_Add_init⟩)
    (c_Add_init : PySem.W.codeIn K cd_Add_init "Add.__init__" = true)
    (k_Add_init : PySem.W.keepIn K (.ref f_Add_init) = true)
    (i_Add_init : PySem.W.isFn K (.ref f_Add_init) = true)
    (m_nodes_Subtract : PySem.W.findIn K (.ref C_Subtract) "_nodes" = some (some (.ref f_Pair_nodes)))
    (m_plain_Subtract : PySem.W.findIn K (.ref C_Subtract) "_plain" = some (some (.ref f_Node_plain)))
    (meq_Subtract : PySem.W.findIn K (.ref C_Subtract) "__eq__" = some (some (.ref f_Node_eq)))
    (minit_Subtract : PySem.W.findIn K (.ref C_Subtract) "__init__" = some (some (.ref f_Subtract_init)))
    (l_Subtract_init : K.lookup f_Subtract_init = some ⟨oc_Subtract_init, od_Subtract_init, .func (PySem.W.fnOf "__init__" "Subtract.__init__" (defArgs s_Subtract_init) (defBody s_Subtract_init) (defScope s_Subtract_init) .none kV_Subtract_init dc_Subtract_init pm_Subtract_init an_Subtract_init cd_Subtract_init ct_Subtract_init), sl_Subtract_init⟩)
    (c_Subtract_init : PySem.W.codeIn K cd_Subtract_init "Subtract.__init__" = true)
    (k_Subtract_init : PySem.W.keepIn K (.ref f_Subtract_init) = true)
    (i_Subtract_init : PySem.W.isFn K (.ref f_Subtract_init) = true)
    (m_nodes_Multiply : PySem.W.findIn K (.ref C_Multiply) "_nodes" = some (some (.ref f_Pair_nodes)))
    (m_plain_Multiply : PySem.W.findIn K (.ref C_Multiply) "_plain" = some (some (.ref f_Node_plain)))
    (meq_Multiply : PySem.W.findIn K (.ref C_Multiply) "__eq__" = some (some (.ref f_Node_eq)))
    (minit_Multiply : PySem.W.findIn K (.ref C_Multiply) "__init__" = some (some (.ref f_Multiply_init)))
    (l_Multiply_init : K.lookup f_Multiply_init = some ⟨oc_Multiply_init, od_Multiply_init, .func (PySem.W.fnOf "__init__" "Multiply.__init__" (defArgs s_Multiply_init) (defBody s_Multiply_init) (defScope s_Multiply_init) .none kV_Multiply_init dc_Multiply_init pm_Multiply_init an_Multiply_init cd_Multiply_init ct_Multiply_init), sl_Multiply_init⟩)
    (c_Multiply_init : PySem.W.codeIn K cd_Multiply_init "Multiply.__init__" = true)
    (k_Multiply_init : PySem.W.keepIn K (.ref f_Multiply_init) = true)
    (i_Multiply_init : PySem.W.isFn K (.ref f_Multiply_init) = true)
    (m_nodes_Half : PySem.W.findIn K (.ref C_Half) "_nodes" = some (some (.ref f_Half_nodes)))
    (l_Half_nodes : K.lookup f_Half_nodes = some ⟨oc_Half_nodes, od_Half_nodes, .func (PySem.W.fnOf "_nodes" "Half._nodes" (defArgs s_Half_nodes) (defBody s_Half_nodes) (defScope s_Half_nodes) .none kV_Half_nodes dc_Half_nodes pm_Half_nodes an_Half_nodes cd_Half_nodes ct_Half_nodes), sl_Half_nodes⟩)
    (c_Half_nodes : PySem.W.codeIn K cd_Half_nodes "Half._nodes" = true)
    (k_Half_nodes : PySem.W.keepIn K (.ref f_Half_nodes) = true)
    (i_Half_nodes : PySem.W.isFn K (.ref f_Half_nodes) = true)
    (m_plain_Half : PySem.W.findIn K (.ref C_Half) "_plain" = some (some (.ref f_Node_plain)))
    (meq_Half : PySem.W.findIn K (.ref C_Half) "__eq__" = some (some (.ref f_Node_eq)))
    (minit_Half : PySem.W.findIn K (.ref C_Half) "__init__" = some (some (.ref f_Half_init)))
    (l_Half_init : K.lookup f_Half_init = some ⟨oc_Half_init, od_Half_init, .func (PySem.W.fnOf "__init__" "Half.__init__" (defArgs s_Half_init) (defBody s_Half_init) (defScope s_Half_init) .none kV_Half_init dc_Half_init pm_Half_init an_Half_init cd_Half_init ct_Half_init), sl_Half_init⟩)
    (c_Half_init : PySem.W.codeIn K cd_Half_init "Half.__init__" = true)
    (k_Half_init : PySem.W.keepIn K (.ref f_Half_init) = true)
    (i_Half_init : PySem.W.isFn K (.ref f_Half_init) = true)
    (m_nodes_Over : PySem.W.findIn K (.ref C_Over) "_nodes" = some (some (.ref f_Over_nodes)))
    (l_Over_nodes : K.lookup f_Over_nodes = some ⟨oc_Over_nodes, od_Over_nodes, .func (PySem.W.fnOf "_nodes" "Over._nodes" (defArgs s_Over_nodes) (defBody s_Over_nodes) (defScope s_Over_nodes) .none kV_Over_nodes dc_Over_nodes pm_Over_nodes an_Over_nodes cd_Over_nodes ct_Over_nodes), sl_Over_nodes⟩)
    (c_Over_nodes : PySem.W.codeIn K cd_Over_nodes "Over._nodes" = true)
    (k_Over_nodes : PySem.W.keepIn K (.ref f_Over_nodes) = true)
    (i_Over_nodes : PySem.W.isFn K (.ref f_Over_nodes) = true)
    (m_plain_Over : PySem.W.findIn K (.ref C_Over) "_plain" = some (some (.ref f_Node_plain)))
    (meq_Over : PySem.W.findIn K (.ref C_Over) "__eq__" = some (some (.ref f_Node_eq)))
    (minit_Over : PySem.W.findIn K (.ref C_Over) "__init__" = some (some (.ref f_Over_init)))
    (l_Over_init : K.lookup f_Over_init = some ⟨oc_Over_init, od_Over_init, .func (PySem.W.fnOf "__init__" "Over.__init__" (defArgs s_Over_init) (defBody s_Over_init) (defScope s_Over_init) .none kV_Over_init dc_Over_init pm_Over_init an_Over_init cd_Over_init ct_Over_init), sl_Over_init⟩)
    (c_Over_init : PySem.W.codeIn K cd_Over_init "Over.__init__" = true)
    (k_Over_init : PySem.W.keepIn K (.ref f_Over_init) = true)
    (i_Over_init : PySem.W.isFn K (.ref f_Over_init) = true)
    (m_nodes_Power : PySem.W.findIn K (.ref C_Power) "_nodes" = some (some (.ref f_Power_nodes)))
    (l_Power_nodes : K.lookup f_Power_nodes = some ⟨oc_Power_nodes, od_Power_nodes, .func (PySem.W.fnOf "_nodes" "Power._nodes" (defArgs s_Power_nodes) (defBody s_Power_nodes) (defScope s_Power_nodes) .none kV_Power_nodes dc_Power_nodes pm_Power_nodes an_Power_nodes cd_Power_nodes ct_Power_nodes), sl_Power_nodes⟩)
    (c_Power_nodes : PySem.W.codeIn K cd_Power_nodes "Power._nodes" = true)
    (k_Power_nodes : PySem.W.keepIn K (.ref f_Power_nodes) = true)
    (i_Power_nodes : PySem.W.isFn K (.ref f_Power_nodes) = true)
    (m_plain_Power : PySem.W.findIn K (.ref C_Power) "_plain" = some (some (.ref f_Power_plain)))
    (l_Power_plain : K.lookup f_Power_plain = some ⟨oc_Power_plain, od_Power_plain, .func (PySem.W.fnOf "_plain" "Power._plain" (defArgs s_Power_plain) (defBody s_Power_plain) (defScope s_Power_plain) .none kV_Power_plain dc_Power_plain pm_Power_plain an_Power_plain cd_Power_plain ct_Power_plain), sl_Power_plain⟩)
    (c_Power_plain : PySem.W.codeIn K cd_Power_plain "Power._plain" = true)
    (k_Power_plain : PySem.W.keepIn K (.ref f_Power_plain) = true)
    (i_Power_plain : PySem.W.isFn K (.ref f_Power_plain) = true)
    (meq_Power : PySem.W.findIn K (.ref C_Power) "__eq__" = some (some (.ref f_Node_eq)))
    (minit_Power : PySem.W.findIn K (.ref C_Power) "__init__" = some (some (.ref f_Power_init)))
    (l_Power_init : K.lookup f_Power_init = some ⟨oc_Power_init, od_Power_init, .func (PySem.W.fnOf "__init__" "Power.__init__" (defArgs s_Power_init) (defBody s_Power_init) (defScope s_Power_init) .none kV_Power_init dc_Power_init pm_Power_init an_Power_init cd_Power_init ct_Power_init), sl_Power_init⟩)
    (c_Power_init : PySem.W.codeIn K cd_Power_init "Power.__init__" = true)
    (k_Power_init : PySem.W.keepIn K (.ref f_Power_init) = true)
    (i_Power_init : PySem.W.isFn K (.ref f_Power_init) = true)
    (m_nodes_Raised : PySem.W.findIn K (.ref C_Raised) "_nodes" = some (some (.ref f_Raised_nodes)))
    (l_Raised_nodes : K.lookup f_Raised_nodes = some ⟨oc_Raised_nodes, od_Raised_nodes, .func (PySem.W.fnOf "_nodes" "Raised._nodes" (defArgs s_Raised_nodes) (defBody s_Raised_nodes) (defScope s_Raised_nodes) .none kV_Raised_nodes dc_Raised_nodes pm_Raised_nodes an_Raised_nodes cd_Raised_nodes ct_Raised_nodes), sl_Raised_nodes⟩)
    (c_Raised_nodes : PySem.W.codeIn K cd_Raised_nodes "Raised._nodes" = true)
    (k_Raised_nodes : PySem.W.keepIn K (.ref f_Raised_nodes) = true)
    (i_Raised_nodes : PySem.W.isFn K (.ref f_Raised_nodes) = true)
    (m_plain_Raised : PySem.W.findIn K (.ref C_Raised) "_plain" = some (some (.ref f_Node_plain)))
    (meq_Raised : PySem.W.findIn K (.ref C_Raised) "__eq__" = some (some (.ref f_Node_eq)))
    (minit_Raised : PySem.W.findIn K (.ref C_Raised) "__init__" = some (some (.ref f_Raised_init)))
    (l_Raised_init : K.lookup f_Raised_init = some ⟨oc_Raised_init, od_Raised_init, .func (PySem.W.fnOf "__init__" "Raised.__init__" (defArgs s_Raised_init) (defBody s_Raised_init) (defScope s_Raised_init) .none kV_Raised_init dc_Raised_init pm_Raised_init an_Raised_init cd_Raised_init ct_Raised_init), sl_Raised_init⟩)
    (c_Raised_init : PySem.W.codeIn K cd_Raised_init "Raised.__init__" = true)
    (k_Raised_init : PySem.W.keepIn K (.ref f_Raised_init) = true)
    (i_Raised_init : PySem.W.isFn K (.ref f_Raised_init) = true)
    (m_nodes_Choose : PySem.W.findIn K (.ref C_Choose) "_nodes" = some (some (.ref f_Choose_nodes)))
    (l_Choose_nodes : K.lookup f_Choose_nodes = some ⟨oc_Choose_nodes, od_Choose_nodes, .func (PySem.W.fnOf "_nodes" "Choose._nodes" (defArgs s_Choose_nodes) (defBody s_Choose_nodes) (defScope s_Choose_nodes) .none kV_Choose_nodes dc_Choose_nodes pm_Choose_nodes an_Choose_nodes cd_Choose_nodes ct_Choose_nodes), sl_Choose_nodes⟩)
    (c_Choose_nodes : PySem.W.codeIn K cd_Choose_nodes "Choose._nodes" = true)
    (k_Choose_nodes : PySem.W.keepIn K (.ref f_Choose_nodes) = true)
    (i_Choose_nodes : PySem.W.isFn K (.ref f_Choose_nodes) = true)
    (m_plain_Choose : PySem.W.findIn K (.ref C_Choose) "_plain" = some (some (.ref f_Choose_plain)))
    (l_Choose_plain : K.lookup f_Choose_plain = some ⟨oc_Choose_plain, od_Choose_plain, .func (PySem.W.fnOf "_plain" "Choose._plain" (defArgs s_Choose_plain) (defBody s_Choose_plain) (defScope s_Choose_plain) .none kV_Choose_plain dc_Choose_plain pm_Choose_plain an_Choose_plain cd_Choose_plain ct_Choose_plain), sl_Choose_plain⟩)
    (c_Choose_plain : PySem.W.codeIn K cd_Choose_plain "Choose._plain" = true)
    (k_Choose_plain : PySem.W.keepIn K (.ref f_Choose_plain) = true)
    (i_Choose_plain : PySem.W.isFn K (.ref f_Choose_plain) = true)
    (meq_Choose : PySem.W.findIn K (.ref C_Choose) "__eq__" = some (some (.ref f_Node_eq)))
    (minit_Choose : PySem.W.findIn K (.ref C_Choose) "__init__" = some (some (.ref f_Choose_init)))
    (l_Choose_init : K.lookup f_Choose_init = some ⟨oc_Choose_init, od_Choose_init, .func (PySem.W.fnOf "__init__" "Choose.__init__" (defArgs s_Choose_init) (defBody s_Choose_init) (defScope s_Choose_init) .none kV_Choose_init dc_Choose_init pm_Choose_init an_Choose_init cd_Choose_init ct_Choose_init), sl_Choose_init⟩)
    (c_Choose_init : PySem.W.codeIn K cd_Choose_init "Choose.__init__" = true)
    (k_Choose_init : PySem.W.keepIn K (.ref f_Choose_init) = true)
    (i_Choose_init : PySem.W.isFn K (.ref f_Choose_init) = true)
    (m_nodes_Call : PySem.W.findIn K (.ref C_Call) "_nodes" = some (some (.ref f_Call_nodes)))
    (l_Call_nodes : K.lookup f_Call_nodes = some ⟨oc_Call_nodes, od_Call_nodes, .func (PySem.W.fnOf "_nodes" "Call._nodes" (defArgs s_Call_nodes) (defBody s_Call_nodes) (defScope s_Call_nodes) .none kV_Call_nodes dc_Call_nodes pm_Call_nodes an_Call_nodes cd_Call_nodes ct_Call_nodes), sl_Call_nodes⟩)
    (c_Call_nodes : PySem.W.codeIn K cd_Call_nodes "Call._nodes" = true)
    (k_Call_nodes : PySem.W.keepIn K (.ref f_Call_nodes) = true)
    (i_Call_nodes : PySem.W.isFn K (.ref f_Call_nodes) = true)
    (m_plain_Call : PySem.W.findIn K (.ref C_Call) "_plain" = some (some (.ref f_Call_plain)))
    (l_Call_plain : K.lookup f_Call_plain = some ⟨oc_Call_plain, od_Call_plain, .func (PySem.W.fnOf "_plain" "Call._plain" (defArgs s_Call_plain) (defBody s_Call_plain) (defScope s_Call_plain) .none kV_Call_plain dc_Call_plain pm_Call_plain an_Call_plain cd_Call_plain ct_Call_plain), sl_Call_plain⟩)
    (c_Call_plain : PySem.W.codeIn K cd_Call_plain "Call._plain" = true)
    (k_Call_plain : PySem.W.keepIn K (.ref f_Call_plain) = true)
    (i_Call_plain : PySem.W.isFn K (.ref f_Call_plain) = true)
    (meq_Call : PySem.W.findIn K (.ref C_Call) "__eq__" = some (some (.ref f_Node_eq)))
    (minit_Call : PySem.W.findIn K (.ref C_Call) "__init__" = some (some (.ref f_Call_init)))
    (l_Call_init : K.lookup f_Call_init = some ⟨oc_Call_init, od_Call_init, .func (PySem.W.fnOf "__init__" "Call.__init__" (defArgs s_Call_init) (defBody s_Call_init) (defScope s_Call_init) .none kV_Call_init dc_Call_init pm_Call_init an_Call_init cd_Call_init ct_Call_init), sl_Call_init⟩)
    (c_Call_init : PySem.W.codeIn K cd_Call_init "Call.__init__" = true)
    (k_Call_init : PySem.W.keepIn K (.ref f_Call_init) = true)
    (i_Call_init : PySem.W.isFn K (.ref f_Call_init) = true)
    (m_Reader_here : PySem.W.findIn K (.ref C_Reader) "here" = some (some (.ref f_Reader_here)))
    (l_Reader_here : K.lookup f_Reader_here = some ⟨oc_Reader_here, od_Reader_here, .func (PySem.W.fnOf "here" "Reader.here" (defArgs s_Reader_here) (defBody s_Reader_here) (defScope s_Reader_here) .none kV_Reader_here dc_Reader_here pm_Reader_here an_Reader_here cd_Reader_here ct_Reader_here), sl_Reader_here⟩)
    (c_Reader_here : PySem.W.codeIn K cd_Reader_here "Reader.here" = true)
    (k_Reader_here : PySem.W.keepIn K (.ref f_Reader_here) = true)
    (i_Reader_here : PySem.W.isFn K (.ref f_Reader_here) = true)
    (m_Reader_took : PySem.W.findIn K (.ref C_Reader) "took" = some (some (.ref f_Reader_took)))
    (l_Reader_took : K.lookup f_Reader_took = some ⟨oc_Reader_took, od_Reader_took, .func (PySem.W.fnOf "took" "Reader.took" (defArgs s_Reader_took) (defBody s_Reader_took) (defScope s_Reader_took) .none kV_Reader_took dc_Reader_took pm_Reader_took an_Reader_took cd_Reader_took ct_Reader_took), sl_Reader_took⟩)
    (c_Reader_took : PySem.W.codeIn K cd_Reader_took "Reader.took" = true)
    (k_Reader_took : PySem.W.keepIn K (.ref f_Reader_took) = true)
    (i_Reader_took : PySem.W.isFn K (.ref f_Reader_took) = true)
    (m_Reader_need : PySem.W.findIn K (.ref C_Reader) "need" = some (some (.ref f_Reader_need)))
    (l_Reader_need : K.lookup f_Reader_need = some ⟨oc_Reader_need, od_Reader_need, .func (PySem.W.fnOf "need" "Reader.need" (defArgs s_Reader_need) (defBody s_Reader_need) (defScope s_Reader_need) .none kV_Reader_need dc_Reader_need pm_Reader_need an_Reader_need cd_Reader_need ct_Reader_need), sl_Reader_need⟩)
    (c_Reader_need : PySem.W.codeIn K cd_Reader_need "Reader.need" = true)
    (k_Reader_need : PySem.W.keepIn K (.ref f_Reader_need) = true)
    (i_Reader_need : PySem.W.isFn K (.ref f_Reader_need) = true)
    (m_Reader_need_number : PySem.W.findIn K (.ref C_Reader) "need_number" = some (some (.ref f_Reader_need_number)))
    (l_Reader_need_number : K.lookup f_Reader_need_number = some ⟨oc_Reader_need_number, od_Reader_need_number, .func (PySem.W.fnOf "need_number" "Reader.need_number" (defArgs s_Reader_need_number) (defBody s_Reader_need_number) (defScope s_Reader_need_number) .none kV_Reader_need_number dc_Reader_need_number pm_Reader_need_number an_Reader_need_number cd_Reader_need_number ct_Reader_need_number), sl_Reader_need_number⟩)
    (c_Reader_need_number : PySem.W.codeIn K cd_Reader_need_number "Reader.need_number" = true)
    (k_Reader_need_number : PySem.W.keepIn K (.ref f_Reader_need_number) = true)
    (i_Reader_need_number : PySem.W.isFn K (.ref f_Reader_need_number) = true)
    (m_Reader_need_open : PySem.W.findIn K (.ref C_Reader) "need_open" = some (some (.ref f_Reader_need_open)))
    (l_Reader_need_open : K.lookup f_Reader_need_open = some ⟨oc_Reader_need_open, od_Reader_need_open, .func (PySem.W.fnOf "need_open" "Reader.need_open" (defArgs s_Reader_need_open) (defBody s_Reader_need_open) (defScope s_Reader_need_open) .none kV_Reader_need_open dc_Reader_need_open pm_Reader_need_open an_Reader_need_open cd_Reader_need_open ct_Reader_need_open), sl_Reader_need_open⟩)
    (c_Reader_need_open : PySem.W.codeIn K cd_Reader_need_open "Reader.need_open" = true)
    (k_Reader_need_open : PySem.W.keepIn K (.ref f_Reader_need_open) = true)
    (i_Reader_need_open : PySem.W.isFn K (.ref f_Reader_need_open) = true)
    (m_Reader_need_close : PySem.W.findIn K (.ref C_Reader) "need_close" = some (some (.ref f_Reader_need_close)))
    (l_Reader_need_close : K.lookup f_Reader_need_close = some ⟨oc_Reader_need_close, od_Reader_need_close, .func (PySem.W.fnOf "need_close" "Reader.need_close" (defArgs s_Reader_need_close) (defBody s_Reader_need_close) (defScope s_Reader_need_close) .none kV_Reader_need_close dc_Reader_need_close pm_Reader_need_close an_Reader_need_close cd_Reader_need_close ct_Reader_need_close), sl_Reader_need_close⟩)
    (c_Reader_need_close : PySem.W.codeIn K cd_Reader_need_close "Reader.need_close" = true)
    (k_Reader_need_close : PySem.W.keepIn K (.ref f_Reader_need_close) = true)
    (i_Reader_need_close : PySem.W.isFn K (.ref f_Reader_need_close) = true)
    (m_Reader_whole : PySem.W.findIn K (.ref C_Reader) "whole" = some (some (.ref f_Reader_whole)))
    (l_Reader_whole : K.lookup f_Reader_whole = some ⟨oc_Reader_whole, od_Reader_whole, .func (PySem.W.fnOf "whole" "Reader.whole" (defArgs s_Reader_whole) (defBody s_Reader_whole) (defScope s_Reader_whole) .none kV_Reader_whole dc_Reader_whole pm_Reader_whole an_Reader_whole cd_Reader_whole ct_Reader_whole), sl_Reader_whole⟩)
    (c_Reader_whole : PySem.W.codeIn K cd_Reader_whole "Reader.whole" = true)
    (k_Reader_whole : PySem.W.keepIn K (.ref f_Reader_whole) = true)
    (i_Reader_whole : PySem.W.isFn K (.ref f_Reader_whole) = true)
    (m_Reader_product : PySem.W.findIn K (.ref C_Reader) "product" = some (some (.ref f_Reader_product)))
    (l_Reader_product : K.lookup f_Reader_product = some ⟨oc_Reader_product, od_Reader_product, .func (PySem.W.fnOf "product" "Reader.product" (defArgs s_Reader_product) (defBody s_Reader_product) (defScope s_Reader_product) .none kV_Reader_product dc_Reader_product pm_Reader_product an_Reader_product cd_Reader_product ct_Reader_product), sl_Reader_product⟩)
    (c_Reader_product : PySem.W.codeIn K cd_Reader_product "Reader.product" = true)
    (k_Reader_product : PySem.W.keepIn K (.ref f_Reader_product) = true)
    (i_Reader_product : PySem.W.isFn K (.ref f_Reader_product) = true)
    (m_Reader_tight : PySem.W.findIn K (.ref C_Reader) "tight" = some (some (.ref f_Reader_tight)))
    (l_Reader_tight : K.lookup f_Reader_tight = some ⟨oc_Reader_tight, od_Reader_tight, .func (PySem.W.fnOf "tight" "Reader.tight" (defArgs s_Reader_tight) (defBody s_Reader_tight) (defScope s_Reader_tight) .none kV_Reader_tight dc_Reader_tight pm_Reader_tight an_Reader_tight cd_Reader_tight ct_Reader_tight), sl_Reader_tight⟩)
    (c_Reader_tight : PySem.W.codeIn K cd_Reader_tight "Reader.tight" = true)
    (k_Reader_tight : PySem.W.keepIn K (.ref f_Reader_tight) = true)
    (i_Reader_tight : PySem.W.isFn K (.ref f_Reader_tight) = true)
    (m_Reader_step : PySem.W.findIn K (.ref C_Reader) "step" = some (some (.ref f_Reader_step)))
    (l_Reader_step : K.lookup f_Reader_step = some ⟨oc_Reader_step, od_Reader_step, .func (PySem.W.fnOf "step" "Reader.step" (defArgs s_Reader_step) (defBody s_Reader_step) (defScope s_Reader_step) .none kV_Reader_step dc_Reader_step pm_Reader_step an_Reader_step cd_Reader_step ct_Reader_step), sl_Reader_step⟩)
    (c_Reader_step : PySem.W.codeIn K cd_Reader_step "Reader.step" = true)
    (k_Reader_step : PySem.W.keepIn K (.ref f_Reader_step) = true)
    (i_Reader_step : PySem.W.isFn K (.ref f_Reader_step) = true)
    (m_Reader_plain : PySem.W.findIn K (.ref C_Reader) "plain" = some (some (.ref f_Reader_plain)))
    (l_Reader_plain : K.lookup f_Reader_plain = some ⟨oc_Reader_plain, od_Reader_plain, .func (PySem.W.fnOf "plain" "Reader.plain" (defArgs s_Reader_plain) (defBody s_Reader_plain) (defScope s_Reader_plain) .none kV_Reader_plain dc_Reader_plain pm_Reader_plain an_Reader_plain cd_Reader_plain ct_Reader_plain), sl_Reader_plain⟩)
    (c_Reader_plain : PySem.W.codeIn K cd_Reader_plain "Reader.plain" = true)
    (k_Reader_plain : PySem.W.keepIn K (.ref f_Reader_plain) = true)
    (i_Reader_plain : PySem.W.isFn K (.ref f_Reader_plain) = true)
    (m_Reader_called : PySem.W.findIn K (.ref C_Reader) "called" = some (some (.ref f_Reader_called)))
    (l_Reader_called : K.lookup f_Reader_called = some ⟨oc_Reader_called, od_Reader_called, .func (PySem.W.fnOf "called" "Reader.called" (defArgs s_Reader_called) (defBody s_Reader_called) (defScope s_Reader_called) .none kV_Reader_called dc_Reader_called pm_Reader_called an_Reader_called cd_Reader_called ct_Reader_called), sl_Reader_called⟩)
    (c_Reader_called : PySem.W.codeIn K cd_Reader_called "Reader.called" = true)
    (k_Reader_called : PySem.W.keepIn K (.ref f_Reader_called) = true)
    (i_Reader_called : PySem.W.isFn K (.ref f_Reader_called) = true)
    (m_Reader_enclosed : PySem.W.findIn K (.ref C_Reader) "enclosed" = some (some (.ref f_Reader_enclosed)))
    (l_Reader_enclosed : K.lookup f_Reader_enclosed = some ⟨oc_Reader_enclosed, od_Reader_enclosed, .func (PySem.W.fnOf "enclosed" "Reader.enclosed" (defArgs s_Reader_enclosed) (defBody s_Reader_enclosed) (defScope s_Reader_enclosed) .none kV_Reader_enclosed dc_Reader_enclosed pm_Reader_enclosed an_Reader_enclosed cd_Reader_enclosed ct_Reader_enclosed), sl_Reader_enclosed⟩)
    (c_Reader_enclosed : PySem.W.codeIn K cd_Reader_enclosed "Reader.enclosed" = true)
    (k_Reader_enclosed : PySem.W.keepIn K (.ref f_Reader_enclosed) = true)
    (i_Reader_enclosed : PySem.W.isFn K (.ref f_Reader_enclosed) = true)
    (m_Reader_chosen : PySem.W.findIn K (.ref C_Reader) "chosen" = some (some (.ref f_Reader_chosen)))
    (l_Reader_chosen : K.lookup f_Reader_chosen = some ⟨oc_Reader_chosen, od_Reader_chosen, .func (PySem.W.fnOf "chosen" "Reader.chosen" (defArgs s_Reader_chosen) (defBody s_Reader_chosen) (defScope s_Reader_chosen) .none kV_Reader_chosen dc_Reader_chosen pm_Reader_chosen an_Reader_chosen cd_Reader_chosen ct_Reader_chosen), sl_Reader_chosen⟩)
    (c_Reader_chosen : PySem.W.codeIn K cd_Reader_chosen "Reader.chosen" = true)
    (k_Reader_chosen : PySem.W.keepIn K (.ref f_Reader_chosen) = true)
    (i_Reader_chosen : PySem.W.isFn K (.ref f_Reader_chosen) = true)
    (m_Reader_init : PySem.W.findIn K (.ref C_Reader) "__init__" = some (some (.ref f_Reader_init)))
    (l_Reader_init : K.lookup f_Reader_init = some ⟨oc_Reader_init, od_Reader_init, .func (PySem.W.fnOf "__init__" "Reader.__init__" (defArgs s_Reader_init) (defBody s_Reader_init) (defScope s_Reader_init) .none kV_Reader_init dc_Reader_init pm_Reader_init an_Reader_init cd_Reader_init ct_Reader_init), sl_Reader_init⟩)
    (c_Reader_init : PySem.W.codeIn K cd_Reader_init "Reader.__init__" = true)
    (k_Reader_init : PySem.W.keepIn K (.ref f_Reader_init) = true)
    (i_Reader_init : PySem.W.isFn K (.ref f_Reader_init) = true)
    (m_InvalidText_init : PySem.W.findIn K (.ref C_InvalidText) "__init__" = some (some (.ref f_InvalidText_init)))
    (l_InvalidText_init : K.lookup f_InvalidText_init = some ⟨oc_InvalidText_init, od_InvalidText_init, .func (PySem.W.fnOf "__init__" "InvalidText.__init__" (defArgs s_InvalidText_init) (defBody s_InvalidText_init) (defScope s_InvalidText_init) .none kV_InvalidText_init dc_InvalidText_init pm_InvalidText_init an_InvalidText_init cd_InvalidText_init ct_InvalidText_init), sl_InvalidText_init⟩)
    (c_InvalidText_init : PySem.W.codeIn K cd_InvalidText_init "InvalidText.__init__" = true)
    (k_InvalidText_init : PySem.W.keepIn K (.ref f_InvalidText_init) = true)
    (y_InvalidText_init : PySem.W.typeIn K (.ref f_InvalidText_init) = some (.type "function"))
    (pg_Number : PySem.W.plainGet K C_Number Str.empty = true)
    (hd_Number : PySem.W.hasDictIn K C_Number = true)
    (po_Number : PySem.W.plainOver K C_Number = true)
    (sa_Number : PySem.W.findIn K (.ref C_Number) "__setattr__" = some (some (.builtin "object.__setattr__")))
    (mk_Number : PySem.W.makesIn K C_Number = true)
    (kc_Number : PySem.W.keepIn K (.ref C_Number) = true)
    (n_Number_value : PySem.W.findIn K (.ref C_Number) "value" = some none)
    (pg_Name : PySem.W.plainGet K C_Name Str.empty = true)
    (hd_Name : PySem.W.hasDictIn K C_Name = true)
    (po_Name : PySem.W.plainOver K C_Name = true)
    (sa_Name : PySem.W.findIn K (.ref C_Name) "__setattr__" = some (some (.builtin "object.__setattr__")))
    (mk_Name : PySem.W.makesIn K C_Name = true)
    (kc_Name : PySem.W.keepIn K (.ref C_Name) = true)
    (n_Name_name : PySem.W.findIn K (.ref C_Name) "name" = some none)
    (pg_Add : PySem.W.plainGet K C_Add Str.empty = true)
    (hd_Add : PySem.W.hasDictIn K C_Add = true)
    (po_Add : PySem.W.plainOver K C_Add = true)
    (sa_Add : PySem.W.findIn K (.ref C_Add) "__setattr__" = some (some (.builtin "object.__setattr__")))
    (mk_Add : PySem.W.makesIn K C_Add = true)
    (kc_Add : PySem.W.keepIn K (.ref C_Add) = true)
    (n_Add_one : PySem.W.findIn K (.ref C_Add) "one" = some none)
    (n_Add_other : PySem.W.findIn K (.ref C_Add) "other" = some none)
    (pg_Subtract : PySem.W.plainGet K C_Subtract Str.empty = true)
    (hd_Subtract : PySem.W.hasDictIn K C_Subtract = true)
    (po_Subtract : PySem.W.plainOver K C_Subtract = true)
    (sa_Subtract : PySem.W.findIn K (.ref C_Subtract) "__setattr__" = some (some (.builtin "object.__setattr__")))
    (mk_Subtract : PySem.W.makesIn K C_Subtract = true)
    (kc_Subtract : PySem.W.keepIn K (.ref C_Subtract) = true)
    (n_Subtract_one : PySem.W.findIn K (.ref C_Subtract) "one" = some none)
    (n_Subtract_other : PySem.W.findIn K (.ref C_Subtract) "other" = some none)
    (pg_Multiply : PySem.W.plainGet K C_Multiply Str.empty = true)
    (hd_Multiply : PySem.W.hasDictIn K C_Multiply = true)
    (po_Multiply : PySem.W.plainOver K C_Multiply = true)
    (sa_Multiply : PySem.W.findIn K (.ref C_Multiply) "__setattr__" = some (some (.builtin "object.__setattr__")))
    (mk_Multiply : PySem.W.makesIn K C_Multiply = true)
    (kc_Multiply : PySem.W.keepIn K (.ref C_Multiply) = true)
    (n_Multiply_one : PySem.W.findIn K (.ref C_Multiply) "one" = some none)
    (n_Multiply_other : PySem.W.findIn K (.ref C_Multiply) "other" = some none)
    (pg_Half : PySem.W.plainGet K C_Half Str.empty = true)
    (hd_Half : PySem.W.hasDictIn K C_Half = true)
    (po_Half : PySem.W.plainOver K C_Half = true)
    (sa_Half : PySem.W.findIn K (.ref C_Half) "__setattr__" = some (some (.builtin "object.__setattr__")))
    (mk_Half : PySem.W.makesIn K C_Half = true)
    (kc_Half : PySem.W.keepIn K (.ref C_Half) = true)
    (n_Half_inner : PySem.W.findIn K (.ref C_Half) "inner" = some none)
    (pg_Over : PySem.W.plainGet K C_Over Str.empty = true)
    (hd_Over : PySem.W.hasDictIn K C_Over = true)
    (po_Over : PySem.W.plainOver K C_Over = true)
    (sa_Over : PySem.W.findIn K (.ref C_Over) "__setattr__" = some (some (.builtin "object.__setattr__")))
    (mk_Over : PySem.W.makesIn K C_Over = true)
    (kc_Over : PySem.W.keepIn K (.ref C_Over) = true)
    (n_Over_top : PySem.W.findIn K (.ref C_Over) "top" = some none)
    (n_Over_bottom : PySem.W.findIn K (.ref C_Over) "bottom" = some none)
    (pg_Power : PySem.W.plainGet K C_Power Str.empty = true)
    (hd_Power : PySem.W.hasDictIn K C_Power = true)
    (po_Power : PySem.W.plainOver K C_Power = true)
    (sa_Power : PySem.W.findIn K (.ref C_Power) "__setattr__" = some (some (.builtin "object.__setattr__")))
    (mk_Power : PySem.W.makesIn K C_Power = true)
    (kc_Power : PySem.W.keepIn K (.ref C_Power) = true)
    (n_Power_base : PySem.W.findIn K (.ref C_Power) "base" = some none)
    (n_Power_times : PySem.W.findIn K (.ref C_Power) "times" = some none)
    (pg_Raised : PySem.W.plainGet K C_Raised Str.empty = true)
    (hd_Raised : PySem.W.hasDictIn K C_Raised = true)
    (po_Raised : PySem.W.plainOver K C_Raised = true)
    (sa_Raised : PySem.W.findIn K (.ref C_Raised) "__setattr__" = some (some (.builtin "object.__setattr__")))
    (mk_Raised : PySem.W.makesIn K C_Raised = true)
    (kc_Raised : PySem.W.keepIn K (.ref C_Raised) = true)
    (n_Raised_base : PySem.W.findIn K (.ref C_Raised) "base" = some none)
    (n_Raised_exponent : PySem.W.findIn K (.ref C_Raised) "exponent" = some none)
    (pg_Choose : PySem.W.plainGet K C_Choose Str.empty = true)
    (hd_Choose : PySem.W.hasDictIn K C_Choose = true)
    (po_Choose : PySem.W.plainOver K C_Choose = true)
    (sa_Choose : PySem.W.findIn K (.ref C_Choose) "__setattr__" = some (some (.builtin "object.__setattr__")))
    (mk_Choose : PySem.W.makesIn K C_Choose = true)
    (kc_Choose : PySem.W.keepIn K (.ref C_Choose) = true)
    (n_Choose_tested : PySem.W.findIn K (.ref C_Choose) "tested" = some none)
    (n_Choose_modulus : PySem.W.findIn K (.ref C_Choose) "modulus" = some none)
    (n_Choose_rest : PySem.W.findIn K (.ref C_Choose) "rest" = some none)
    (n_Choose_yes : PySem.W.findIn K (.ref C_Choose) "yes" = some none)
    (n_Choose_no : PySem.W.findIn K (.ref C_Choose) "no" = some none)
    (pg_Call : PySem.W.plainGet K C_Call Str.empty = true)
    (hd_Call : PySem.W.hasDictIn K C_Call = true)
    (po_Call : PySem.W.plainOver K C_Call = true)
    (sa_Call : PySem.W.findIn K (.ref C_Call) "__setattr__" = some (some (.builtin "object.__setattr__")))
    (mk_Call : PySem.W.makesIn K C_Call = true)
    (kc_Call : PySem.W.keepIn K (.ref C_Call) = true)
    (n_Call_name : PySem.W.findIn K (.ref C_Call) "name" = some none)
    (n_Call_arguments : PySem.W.findIn K (.ref C_Call) "arguments" = some none)
    (pg_Reader : PySem.W.plainGet K C_Reader Str.empty = true)
    (hd_Reader : PySem.W.hasDictIn K C_Reader = true)
    (po_Reader : PySem.W.plainOver K C_Reader = true)
    (sa_Reader : PySem.W.findIn K (.ref C_Reader) "__setattr__" = some (some (.builtin "object.__setattr__")))
    (mk_Reader : PySem.W.makesIn K C_Reader = true)
    (kc_Reader : PySem.W.keepIn K (.ref C_Reader) = true)
    (n_Reader_words : PySem.W.findIn K (.ref C_Reader) "words" = some none)
    (n_Reader_at : PySem.W.findIn K (.ref C_Reader) "at" = some none)
    (n_Reader_depth : PySem.W.findIn K (.ref C_Reader) "depth" = some none)
    (ca_Number : PySem.W.findIn K (.ref C_Number) "__class__" = some (some (.builtin "object.__class__")))
    (cm_Number : PySem.W.mroIn K C_Number (.type "object") = some true)
    (ty_Number : PySem.W.typeIn K (.ref C_Number) = some (.type "type"))
    (rd_Number : PySem.W.readsIn K C_Number (.type "type") = true)
    (fc_Number : PySem.W.findCls K (.ref C_Number) (.type "type") "__name__" = some (.get (.builtin "getset_descriptor.__get__") (.builtin "type.__name__") (.ref C_Number) (.type "type")))
    (lk_Number : K.lookup C_Number = some oo_Number)
    (nz_Number : (oo_Number.slots[2]?).join = some (.str "Number" tt_Number))
    (ne_Number : PySem.W.findIn K (.ref C_Number) "__ne__" = some (some (.builtin "object.__ne__")))
    (sb_Number : PySem.W.subIn K (.ref C_Number) (.ref C_Node) = some true)
    (ca_Name : PySem.W.findIn K (.ref C_Name) "__class__" = some (some (.builtin "object.__class__")))
    (cm_Name : PySem.W.mroIn K C_Name (.type "object") = some true)
    (ty_Name : PySem.W.typeIn K (.ref C_Name) = some (.type "type"))
    (rd_Name : PySem.W.readsIn K C_Name (.type "type") = true)
    (fc_Name : PySem.W.findCls K (.ref C_Name) (.type "type") "__name__" = some (.get (.builtin "getset_descriptor.__get__") (.builtin "type.__name__") (.ref C_Name) (.type "type")))
    (lk_Name : K.lookup C_Name = some oo_Name)
    (nz_Name : (oo_Name.slots[2]?).join = some (.str "Name" tt_Name))
    (ne_Name : PySem.W.findIn K (.ref C_Name) "__ne__" = some (some (.builtin "object.__ne__")))
    (sb_Name : PySem.W.subIn K (.ref C_Name) (.ref C_Node) = some true)
    (ca_Add : PySem.W.findIn K (.ref C_Add) "__class__" = some (some (.builtin "object.__class__")))
    (cm_Add : PySem.W.mroIn K C_Add (.type "object") = some true)
    (ty_Add : PySem.W.typeIn K (.ref C_Add) = some (.type "type"))
    (rd_Add : PySem.W.readsIn K C_Add (.type "type") = true)
    (fc_Add : PySem.W.findCls K (.ref C_Add) (.type "type") "__name__" = some (.get (.builtin "getset_descriptor.__get__") (.builtin "type.__name__") (.ref C_Add) (.type "type")))
    (lk_Add : K.lookup C_Add = some oo_Add)
    (nz_Add : (oo_Add.slots[2]?).join = some (.str "Add" tt_Add))
    (ne_Add : PySem.W.findIn K (.ref C_Add) "__ne__" = some (some (.builtin "object.__ne__")))
    (sb_Add : PySem.W.subIn K (.ref C_Add) (.ref C_Node) = some true)
    (ca_Subtract : PySem.W.findIn K (.ref C_Subtract) "__class__" = some (some (.builtin "object.__class__")))
    (cm_Subtract : PySem.W.mroIn K C_Subtract (.type "object") = some true)
    (ty_Subtract : PySem.W.typeIn K (.ref C_Subtract) = some (.type "type"))
    (rd_Subtract : PySem.W.readsIn K C_Subtract (.type "type") = true)
    (fc_Subtract : PySem.W.findCls K (.ref C_Subtract) (.type "type") "__name__" = some (.get (.builtin "getset_descriptor.__get__") (.builtin "type.__name__") (.ref C_Subtract) (.type "type")))
    (lk_Subtract : K.lookup C_Subtract = some oo_Subtract)
    (nz_Subtract : (oo_Subtract.slots[2]?).join = some (.str "Subtract" tt_Subtract))
    (ne_Subtract : PySem.W.findIn K (.ref C_Subtract) "__ne__" = some (some (.builtin "object.__ne__")))
    (sb_Subtract : PySem.W.subIn K (.ref C_Subtract) (.ref C_Node) = some true)
    (ca_Multiply : PySem.W.findIn K (.ref C_Multiply) "__class__" = some (some (.builtin "object.__class__")))
    (cm_Multiply : PySem.W.mroIn K C_Multiply (.type "object") = some true)
    (ty_Multiply : PySem.W.typeIn K (.ref C_Multiply) = some (.type "type"))
    (rd_Multiply : PySem.W.readsIn K C_Multiply (.type "type") = true)
    (fc_Multiply : PySem.W.findCls K (.ref C_Multiply) (.type "type") "__name__" = some (.get (.builtin "getset_descriptor.__get__") (.builtin "type.__name__") (.ref C_Multiply) (.type "type")))
    (lk_Multiply : K.lookup C_Multiply = some oo_Multiply)
    (nz_Multiply : (oo_Multiply.slots[2]?).join = some (.str "Multiply" tt_Multiply))
    (ne_Multiply : PySem.W.findIn K (.ref C_Multiply) "__ne__" = some (some (.builtin "object.__ne__")))
    (sb_Multiply : PySem.W.subIn K (.ref C_Multiply) (.ref C_Node) = some true)
    (ca_Half : PySem.W.findIn K (.ref C_Half) "__class__" = some (some (.builtin "object.__class__")))
    (cm_Half : PySem.W.mroIn K C_Half (.type "object") = some true)
    (ty_Half : PySem.W.typeIn K (.ref C_Half) = some (.type "type"))
    (rd_Half : PySem.W.readsIn K C_Half (.type "type") = true)
    (fc_Half : PySem.W.findCls K (.ref C_Half) (.type "type") "__name__" = some (.get (.builtin "getset_descriptor.__get__") (.builtin "type.__name__") (.ref C_Half) (.type "type")))
    (lk_Half : K.lookup C_Half = some oo_Half)
    (nz_Half : (oo_Half.slots[2]?).join = some (.str "Half" tt_Half))
    (ne_Half : PySem.W.findIn K (.ref C_Half) "__ne__" = some (some (.builtin "object.__ne__")))
    (sb_Half : PySem.W.subIn K (.ref C_Half) (.ref C_Node) = some true)
    (ca_Over : PySem.W.findIn K (.ref C_Over) "__class__" = some (some (.builtin "object.__class__")))
    (cm_Over : PySem.W.mroIn K C_Over (.type "object") = some true)
    (ty_Over : PySem.W.typeIn K (.ref C_Over) = some (.type "type"))
    (rd_Over : PySem.W.readsIn K C_Over (.type "type") = true)
    (fc_Over : PySem.W.findCls K (.ref C_Over) (.type "type") "__name__" = some (.get (.builtin "getset_descriptor.__get__") (.builtin "type.__name__") (.ref C_Over) (.type "type")))
    (lk_Over : K.lookup C_Over = some oo_Over)
    (nz_Over : (oo_Over.slots[2]?).join = some (.str "Over" tt_Over))
    (ne_Over : PySem.W.findIn K (.ref C_Over) "__ne__" = some (some (.builtin "object.__ne__")))
    (sb_Over : PySem.W.subIn K (.ref C_Over) (.ref C_Node) = some true)
    (ca_Power : PySem.W.findIn K (.ref C_Power) "__class__" = some (some (.builtin "object.__class__")))
    (cm_Power : PySem.W.mroIn K C_Power (.type "object") = some true)
    (ty_Power : PySem.W.typeIn K (.ref C_Power) = some (.type "type"))
    (rd_Power : PySem.W.readsIn K C_Power (.type "type") = true)
    (fc_Power : PySem.W.findCls K (.ref C_Power) (.type "type") "__name__" = some (.get (.builtin "getset_descriptor.__get__") (.builtin "type.__name__") (.ref C_Power) (.type "type")))
    (lk_Power : K.lookup C_Power = some oo_Power)
    (nz_Power : (oo_Power.slots[2]?).join = some (.str "Power" tt_Power))
    (ne_Power : PySem.W.findIn K (.ref C_Power) "__ne__" = some (some (.builtin "object.__ne__")))
    (sb_Power : PySem.W.subIn K (.ref C_Power) (.ref C_Node) = some true)
    (ca_Raised : PySem.W.findIn K (.ref C_Raised) "__class__" = some (some (.builtin "object.__class__")))
    (cm_Raised : PySem.W.mroIn K C_Raised (.type "object") = some true)
    (ty_Raised : PySem.W.typeIn K (.ref C_Raised) = some (.type "type"))
    (rd_Raised : PySem.W.readsIn K C_Raised (.type "type") = true)
    (fc_Raised : PySem.W.findCls K (.ref C_Raised) (.type "type") "__name__" = some (.get (.builtin "getset_descriptor.__get__") (.builtin "type.__name__") (.ref C_Raised) (.type "type")))
    (lk_Raised : K.lookup C_Raised = some oo_Raised)
    (nz_Raised : (oo_Raised.slots[2]?).join = some (.str "Raised" tt_Raised))
    (ne_Raised : PySem.W.findIn K (.ref C_Raised) "__ne__" = some (some (.builtin "object.__ne__")))
    (sb_Raised : PySem.W.subIn K (.ref C_Raised) (.ref C_Node) = some true)
    (ca_Choose : PySem.W.findIn K (.ref C_Choose) "__class__" = some (some (.builtin "object.__class__")))
    (cm_Choose : PySem.W.mroIn K C_Choose (.type "object") = some true)
    (ty_Choose : PySem.W.typeIn K (.ref C_Choose) = some (.type "type"))
    (rd_Choose : PySem.W.readsIn K C_Choose (.type "type") = true)
    (fc_Choose : PySem.W.findCls K (.ref C_Choose) (.type "type") "__name__" = some (.get (.builtin "getset_descriptor.__get__") (.builtin "type.__name__") (.ref C_Choose) (.type "type")))
    (lk_Choose : K.lookup C_Choose = some oo_Choose)
    (nz_Choose : (oo_Choose.slots[2]?).join = some (.str "Choose" tt_Choose))
    (ne_Choose : PySem.W.findIn K (.ref C_Choose) "__ne__" = some (some (.builtin "object.__ne__")))
    (sb_Choose : PySem.W.subIn K (.ref C_Choose) (.ref C_Node) = some true)
    (ca_Call : PySem.W.findIn K (.ref C_Call) "__class__" = some (some (.builtin "object.__class__")))
    (cm_Call : PySem.W.mroIn K C_Call (.type "object") = some true)
    (ty_Call : PySem.W.typeIn K (.ref C_Call) = some (.type "type"))
    (rd_Call : PySem.W.readsIn K C_Call (.type "type") = true)
    (fc_Call : PySem.W.findCls K (.ref C_Call) (.type "type") "__name__" = some (.get (.builtin "getset_descriptor.__get__") (.builtin "type.__name__") (.ref C_Call) (.type "type")))
    (lk_Call : K.lookup C_Call = some oo_Call)
    (nz_Call : (oo_Call.slots[2]?).join = some (.str "Call" tt_Call))
    (ne_Call : PySem.W.findIn K (.ref C_Call) "__ne__" = some (some (.builtin "object.__ne__")))
    (sb_Call : PySem.W.subIn K (.ref C_Call) (.ref C_Node) = some true)
    (ss_Number_Name : PySem.W.subIn K (.ref C_Name) (.ref C_Number) = some false)
    (ss_Number_Add : PySem.W.subIn K (.ref C_Add) (.ref C_Number) = some false)
    (ss_Number_Subtract : PySem.W.subIn K (.ref C_Subtract) (.ref C_Number) = some false)
    (ss_Number_Multiply : PySem.W.subIn K (.ref C_Multiply) (.ref C_Number) = some false)
    (ss_Number_Half : PySem.W.subIn K (.ref C_Half) (.ref C_Number) = some false)
    (ss_Number_Over : PySem.W.subIn K (.ref C_Over) (.ref C_Number) = some false)
    (ss_Number_Power : PySem.W.subIn K (.ref C_Power) (.ref C_Number) = some false)
    (ss_Number_Raised : PySem.W.subIn K (.ref C_Raised) (.ref C_Number) = some false)
    (ss_Number_Choose : PySem.W.subIn K (.ref C_Choose) (.ref C_Number) = some false)
    (ss_Number_Call : PySem.W.subIn K (.ref C_Call) (.ref C_Number) = some false)
    (ss_Name_Number : PySem.W.subIn K (.ref C_Number) (.ref C_Name) = some false)
    (ss_Name_Add : PySem.W.subIn K (.ref C_Add) (.ref C_Name) = some false)
    (ss_Name_Subtract : PySem.W.subIn K (.ref C_Subtract) (.ref C_Name) = some false)
    (ss_Name_Multiply : PySem.W.subIn K (.ref C_Multiply) (.ref C_Name) = some false)
    (ss_Name_Half : PySem.W.subIn K (.ref C_Half) (.ref C_Name) = some false)
    (ss_Name_Over : PySem.W.subIn K (.ref C_Over) (.ref C_Name) = some false)
    (ss_Name_Power : PySem.W.subIn K (.ref C_Power) (.ref C_Name) = some false)
    (ss_Name_Raised : PySem.W.subIn K (.ref C_Raised) (.ref C_Name) = some false)
    (ss_Name_Choose : PySem.W.subIn K (.ref C_Choose) (.ref C_Name) = some false)
    (ss_Name_Call : PySem.W.subIn K (.ref C_Call) (.ref C_Name) = some false)
    (ss_Add_Number : PySem.W.subIn K (.ref C_Number) (.ref C_Add) = some false)
    (ss_Add_Name : PySem.W.subIn K (.ref C_Name) (.ref C_Add) = some false)
    (ss_Add_Subtract : PySem.W.subIn K (.ref C_Subtract) (.ref C_Add) = some false)
    (ss_Add_Multiply : PySem.W.subIn K (.ref C_Multiply) (.ref C_Add) = some false)
    (ss_Add_Half : PySem.W.subIn K (.ref C_Half) (.ref C_Add) = some false)
    (ss_Add_Over : PySem.W.subIn K (.ref C_Over) (.ref C_Add) = some false)
    (ss_Add_Power : PySem.W.subIn K (.ref C_Power) (.ref C_Add) = some false)
    (ss_Add_Raised : PySem.W.subIn K (.ref C_Raised) (.ref C_Add) = some false)
    (ss_Add_Choose : PySem.W.subIn K (.ref C_Choose) (.ref C_Add) = some false)
    (ss_Add_Call : PySem.W.subIn K (.ref C_Call) (.ref C_Add) = some false)
    (ss_Subtract_Number : PySem.W.subIn K (.ref C_Number) (.ref C_Subtract) = some false)
    (ss_Subtract_Name : PySem.W.subIn K (.ref C_Name) (.ref C_Subtract) = some false)
    (ss_Subtract_Add : PySem.W.subIn K (.ref C_Add) (.ref C_Subtract) = some false)
    (ss_Subtract_Multiply : PySem.W.subIn K (.ref C_Multiply) (.ref C_Subtract) = some false)
    (ss_Subtract_Half : PySem.W.subIn K (.ref C_Half) (.ref C_Subtract) = some false)
    (ss_Subtract_Over : PySem.W.subIn K (.ref C_Over) (.ref C_Subtract) = some false)
    (ss_Subtract_Power : PySem.W.subIn K (.ref C_Power) (.ref C_Subtract) = some false)
    (ss_Subtract_Raised : PySem.W.subIn K (.ref C_Raised) (.ref C_Subtract) = some false)
    (ss_Subtract_Choose : PySem.W.subIn K (.ref C_Choose) (.ref C_Subtract) = some false)
    (ss_Subtract_Call : PySem.W.subIn K (.ref C_Call) (.ref C_Subtract) = some false)
    (ss_Multiply_Number : PySem.W.subIn K (.ref C_Number) (.ref C_Multiply) = some false)
    (ss_Multiply_Name : PySem.W.subIn K (.ref C_Name) (.ref C_Multiply) = some false)
    (ss_Multiply_Add : PySem.W.subIn K (.ref C_Add) (.ref C_Multiply) = some false)
    (ss_Multiply_Subtract : PySem.W.subIn K (.ref C_Subtract) (.ref C_Multiply) = some false)
    (ss_Multiply_Half : PySem.W.subIn K (.ref C_Half) (.ref C_Multiply) = some false)
    (ss_Multiply_Over : PySem.W.subIn K (.ref C_Over) (.ref C_Multiply) = some false)
    (ss_Multiply_Power : PySem.W.subIn K (.ref C_Power) (.ref C_Multiply) = some false)
    (ss_Multiply_Raised : PySem.W.subIn K (.ref C_Raised) (.ref C_Multiply) = some false)
    (ss_Multiply_Choose : PySem.W.subIn K (.ref C_Choose) (.ref C_Multiply) = some false)
    (ss_Multiply_Call : PySem.W.subIn K (.ref C_Call) (.ref C_Multiply) = some false)
    (ss_Half_Number : PySem.W.subIn K (.ref C_Number) (.ref C_Half) = some false)
    (ss_Half_Name : PySem.W.subIn K (.ref C_Name) (.ref C_Half) = some false)
    (ss_Half_Add : PySem.W.subIn K (.ref C_Add) (.ref C_Half) = some false)
    (ss_Half_Subtract : PySem.W.subIn K (.ref C_Subtract) (.ref C_Half) = some false)
    (ss_Half_Multiply : PySem.W.subIn K (.ref C_Multiply) (.ref C_Half) = some false)
    (ss_Half_Over : PySem.W.subIn K (.ref C_Over) (.ref C_Half) = some false)
    (ss_Half_Power : PySem.W.subIn K (.ref C_Power) (.ref C_Half) = some false)
    (ss_Half_Raised : PySem.W.subIn K (.ref C_Raised) (.ref C_Half) = some false)
    (ss_Half_Choose : PySem.W.subIn K (.ref C_Choose) (.ref C_Half) = some false)
    (ss_Half_Call : PySem.W.subIn K (.ref C_Call) (.ref C_Half) = some false)
    (ss_Over_Number : PySem.W.subIn K (.ref C_Number) (.ref C_Over) = some false)
    (ss_Over_Name : PySem.W.subIn K (.ref C_Name) (.ref C_Over) = some false)
    (ss_Over_Add : PySem.W.subIn K (.ref C_Add) (.ref C_Over) = some false)
    (ss_Over_Subtract : PySem.W.subIn K (.ref C_Subtract) (.ref C_Over) = some false)
    (ss_Over_Multiply : PySem.W.subIn K (.ref C_Multiply) (.ref C_Over) = some false)
    (ss_Over_Half : PySem.W.subIn K (.ref C_Half) (.ref C_Over) = some false)
    (ss_Over_Power : PySem.W.subIn K (.ref C_Power) (.ref C_Over) = some false)
    (ss_Over_Raised : PySem.W.subIn K (.ref C_Raised) (.ref C_Over) = some false)
    (ss_Over_Choose : PySem.W.subIn K (.ref C_Choose) (.ref C_Over) = some false)
    (ss_Over_Call : PySem.W.subIn K (.ref C_Call) (.ref C_Over) = some false)
    (ss_Power_Number : PySem.W.subIn K (.ref C_Number) (.ref C_Power) = some false)
    (ss_Power_Name : PySem.W.subIn K (.ref C_Name) (.ref C_Power) = some false)
    (ss_Power_Add : PySem.W.subIn K (.ref C_Add) (.ref C_Power) = some false)
    (ss_Power_Subtract : PySem.W.subIn K (.ref C_Subtract) (.ref C_Power) = some false)
    (ss_Power_Multiply : PySem.W.subIn K (.ref C_Multiply) (.ref C_Power) = some false)
    (ss_Power_Half : PySem.W.subIn K (.ref C_Half) (.ref C_Power) = some false)
    (ss_Power_Over : PySem.W.subIn K (.ref C_Over) (.ref C_Power) = some false)
    (ss_Power_Raised : PySem.W.subIn K (.ref C_Raised) (.ref C_Power) = some false)
    (ss_Power_Choose : PySem.W.subIn K (.ref C_Choose) (.ref C_Power) = some false)
    (ss_Power_Call : PySem.W.subIn K (.ref C_Call) (.ref C_Power) = some false)
    (ss_Raised_Number : PySem.W.subIn K (.ref C_Number) (.ref C_Raised) = some false)
    (ss_Raised_Name : PySem.W.subIn K (.ref C_Name) (.ref C_Raised) = some false)
    (ss_Raised_Add : PySem.W.subIn K (.ref C_Add) (.ref C_Raised) = some false)
    (ss_Raised_Subtract : PySem.W.subIn K (.ref C_Subtract) (.ref C_Raised) = some false)
    (ss_Raised_Multiply : PySem.W.subIn K (.ref C_Multiply) (.ref C_Raised) = some false)
    (ss_Raised_Half : PySem.W.subIn K (.ref C_Half) (.ref C_Raised) = some false)
    (ss_Raised_Over : PySem.W.subIn K (.ref C_Over) (.ref C_Raised) = some false)
    (ss_Raised_Power : PySem.W.subIn K (.ref C_Power) (.ref C_Raised) = some false)
    (ss_Raised_Choose : PySem.W.subIn K (.ref C_Choose) (.ref C_Raised) = some false)
    (ss_Raised_Call : PySem.W.subIn K (.ref C_Call) (.ref C_Raised) = some false)
    (ss_Choose_Number : PySem.W.subIn K (.ref C_Number) (.ref C_Choose) = some false)
    (ss_Choose_Name : PySem.W.subIn K (.ref C_Name) (.ref C_Choose) = some false)
    (ss_Choose_Add : PySem.W.subIn K (.ref C_Add) (.ref C_Choose) = some false)
    (ss_Choose_Subtract : PySem.W.subIn K (.ref C_Subtract) (.ref C_Choose) = some false)
    (ss_Choose_Multiply : PySem.W.subIn K (.ref C_Multiply) (.ref C_Choose) = some false)
    (ss_Choose_Half : PySem.W.subIn K (.ref C_Half) (.ref C_Choose) = some false)
    (ss_Choose_Over : PySem.W.subIn K (.ref C_Over) (.ref C_Choose) = some false)
    (ss_Choose_Power : PySem.W.subIn K (.ref C_Power) (.ref C_Choose) = some false)
    (ss_Choose_Raised : PySem.W.subIn K (.ref C_Raised) (.ref C_Choose) = some false)
    (ss_Choose_Call : PySem.W.subIn K (.ref C_Call) (.ref C_Choose) = some false)
    (ss_Call_Number : PySem.W.subIn K (.ref C_Number) (.ref C_Call) = some false)
    (ss_Call_Name : PySem.W.subIn K (.ref C_Name) (.ref C_Call) = some false)
    (ss_Call_Add : PySem.W.subIn K (.ref C_Add) (.ref C_Call) = some false)
    (ss_Call_Subtract : PySem.W.subIn K (.ref C_Subtract) (.ref C_Call) = some false)
    (ss_Call_Multiply : PySem.W.subIn K (.ref C_Multiply) (.ref C_Call) = some false)
    (ss_Call_Half : PySem.W.subIn K (.ref C_Half) (.ref C_Call) = some false)
    (ss_Call_Over : PySem.W.subIn K (.ref C_Over) (.ref C_Call) = some false)
    (ss_Call_Power : PySem.W.subIn K (.ref C_Power) (.ref C_Call) = some false)
    (ss_Call_Raised : PySem.W.subIn K (.ref C_Raised) (.ref C_Call) = some false)
    (ss_Call_Choose : PySem.W.subIn K (.ref C_Choose) (.ref C_Call) = some false)
    (cn : PySem.W.specialIn K (.builtin "object.__class__") "__get__" = some (some (.builtin "getset_descriptor.__get__")))
    (ct : PySem.W.takesIn K (.builtin "object.__class__") = some true)
    (cls_Node : PySem.W.isClsIn K C_Node = true)
    (ty_Node : PySem.W.typeIn K (.ref C_Node) = some (.type "type"))
    (xLT : K.lookup C_InvalidText = some (excClassObj nmT qT C_InvalidText NT bsT [.ref LE, .type "ValueError", .type "Exception", .type "BaseException", .type "object"] true snT subT_ abT colT ddT m0T m1T m2T m3T m5T "ValueError.__new__"))
    (saT : PySem.W.findIn K (.ref C_InvalidText) "__setattr__" = some (some (.builtin "object.__setattr__")))
    (gT : PySem.W.findIn K (.ref C_InvalidText) "__getattribute__" = some (some (.builtin "BaseException.__getattribute__")))
    (hT : PySem.W.findIn K (.ref C_InvalidText) "__getattr__" = some none)
    (dT : PySem.W.hasDictIn K C_InvalidText = true)
    (caT : PySem.W.findIn K (.ref C_InvalidText) "__class__" = some (some (.builtin "object.__class__")))
    (cmT : PySem.W.mroIn K C_InvalidText (.type "object") = some true)
    (sTT : PySem.W.subIn K (.ref C_InvalidText) (.ref C_InvalidText) = some true)
    (kT : PySem.W.keepIn K (.ref C_InvalidText) = true)
    (bT : PySem.W.subIn K (.ref C_InvalidText) (.type "BaseException") = some true)
    (tT : PySem.W.typeIn K (.ref C_InvalidText) = some (.type "type"))
    (naT : PySem.W.findIn K (.ref C_InvalidText) "at" = some none)
    (gl_LIMIT : PySem.W.nsIn K mainGlobals "LIMIT" = some (some (.int 18446744073709551616 t1)))
    (gl_LONG : PySem.W.nsIn K mainGlobals "LONGEST_NAME" = some (some (.int 8 t2)))
    (gl_TIMES : PySem.W.nsIn K mainGlobals "MOST_TIMES" = some (some (.int 64 t3)))
    (gl_DIGITS : PySem.W.nsIn K mainGlobals "MOST_DIGITS" = some (some (.int 20 t4)))
    (gl_OPEN : PySem.W.nsIn K mainGlobals "MOST_OPEN" = some (some (.int 20 t5)))
    (gl_WORDS : PySem.W.nsIn K mainGlobals "WORDS" = some (some (.ref aW)))
    (gl_MODULI : PySem.W.nsIn K mainGlobals "MODULI" = some (some (.ref aM)))
    (lW : K.lookup aW = some ⟨.type "tuple", odW, .seq itsW nW, slW⟩)
    (lM : K.lookup aM = some ⟨.type "tuple", odM, .seq itsM nM, slM⟩)
    (sW : strsAre itsW.toList (keptL.map wd) = true)
    (sM : intsAre itsM.toList [2, 4, 8, 16, 32, 64] = true)
    (zW : Nat.ble itsW.size 1000 = true)
    (zM : Nat.ble itsM.size 1000 = true)
    (z_len : PySem.W.nsIn K mainGlobals "len" = some none)
    (z_max : PySem.W.nsIn K mainGlobals "max" = some none)
    (z_list : PySem.W.nsIn K mainGlobals "list" = some none)
    (z_tuple : PySem.W.nsIn K mainGlobals "tuple" = some none)
    (z_reversed : PySem.W.nsIn K mainGlobals "reversed" = some none)
    (z_range : PySem.W.nsIn K mainGlobals "range" = some none)
    (z_int : PySem.W.nsIn K mainGlobals "int" = some none)
    (z_str : PySem.W.nsIn K mainGlobals "str" = some none)
    (z_bool : PySem.W.nsIn K mainGlobals "bool" = some none)
    (z_isinstance : PySem.W.nsIn K mainGlobals "isinstance" = some none)
    (z_all : PySem.W.nsIn K mainGlobals "all" = some none)
    (z_enumerate : PySem.W.nsIn K mainGlobals "enumerate" = some none)
    (z_zip : PySem.W.nsIn K mainGlobals "zip" = some none) :
    ∃ fd : FuncData, (∀ (s : Shared) (v : Value), BindsTo s fd ⟨[v], []⟩ [("_law_script", v)]) ∧ ∀ base : Heap, K.In base → base.Ns mainGlobals mg → FnOk P w K mg base CX0 163 fa fd ["_law_script"] (spLaw K) := by
  have e := hfa.symm.trans (PySem.W.mg_of X G a_law)
  cases e
  refine ⟨PySem.W.fnOf "law" "law" (defArgs s_law) (defBody s_law) (defScope s_law) .none kV_law dc_law pm_law an_law cd_law ct_law, fun s v => .of_eq rfl, fun base _ _ => ?_⟩
  have F_is_integer := fun_mk (st := s_is_integer) l_is_integer c_is_integer k_is_integer
  have F_is_between := fun_mk (st := s_is_between) l_is_between c_is_between k_is_between
  have F_is_small := fun_mk (st := s_is_small) l_is_small c_is_small k_is_small
  have F_is_name := fun_mk (st := s_is_name) l_is_name c_is_name k_is_name
  have F_flat := fun_mk (st := s_flat) l_flat c_flat k_flat
  have F_outline := fun_mk (st := s_outline) l_outline c_outline k_outline
  have F_digits_value := fun_mk (st := s_digits_value) l_digits_value c_digits_value k_digits_value
  have F_signed_value := fun_mk (st := s_signed_value) l_signed_value c_signed_value k_signed_value
  have F_number_value := fun_mk (st := s_number_value) l_number_value c_number_value k_number_value
  have F_read_node := fun_mk (st := s_read_node) l_read_node c_read_node k_read_node
  have F_law_deal := fun_mk (st := s_law_deal) l_law_deal c_law_deal k_law_deal
  have F_law_draw := fun_mk (st := s_law_draw) l_law_draw c_law_draw k_law_draw
  have F_law_mixed := fun_mk (st := s_law_mixed) l_law_mixed c_law_mixed k_law_mixed
  have F_law_any_word := fun_mk (st := s_law_any_word) l_law_any_word c_law_any_word k_law_any_word
  have F_law_words := fun_mk (st := s_law_words) l_law_words c_law_words k_law_words
  have F_law_held := fun_mk (st := s_law_held) l_law_held c_law_held k_law_held
  have F_law_node := fun_mk (st := s_law_node) l_law_node c_law_node k_law_node
  have F_law_is_name := fun_mk (st := s_law_is_name) l_law_is_name c_law_is_name k_law_is_name
  have F_law_figures := fun_mk (st := s_law_figures) l_law_figures c_law_figures k_law_figures
  have F_law_integer := fun_mk (st := s_law_integer) l_law_integer c_law_integer k_law_integer
  have F_law_next := fun_mk (st := s_law_next) l_law_next c_law_next k_law_next
  have F_law_take := fun_mk (st := s_law_take) l_law_take c_law_take k_law_take
  have F_law_open := fun_mk (st := s_law_open) l_law_open c_law_open k_law_open
  have F_law_close := fun_mk (st := s_law_close) l_law_close c_law_close k_law_close
  have F_law_count := fun_mk (st := s_law_count) l_law_count c_law_count k_law_count
  have F_law_sum := fun_mk (st := s_law_sum) l_law_sum c_law_sum k_law_sum
  have F_law_product := fun_mk (st := s_law_product) l_law_product c_law_product k_law_product
  have F_law_factor := fun_mk (st := s_law_factor) l_law_factor c_law_factor k_law_factor
  have F_law_choice := fun_mk (st := s_law_choice) l_law_choice c_law_choice k_law_choice
  have F_law_atom := fun_mk (st := s_law_atom) l_law_atom c_law_atom k_law_atom
  have F_law_read := fun_mk (st := s_law_read) l_law_read c_law_read k_law_read
  have F_law_told := fun_mk (st := s_law_told) l_law_told c_law_told k_law_told
  have F_law_rows := fun_mk (st := s_law_rows) l_law_rows c_law_rows k_law_rows
  have F_law := fun_mk (st := s_law) l_law c_law k_law
  have F_Node_nodes := fun_mk (st := s_Node_nodes) l_Node_nodes c_Node_nodes k_Node_nodes
  have F_Node_plain := fun_mk (st := s_Node_plain) l_Node_plain c_Node_plain k_Node_plain
  have F_Number_plain := fun_mk (st := s_Number_plain) l_Number_plain c_Number_plain k_Number_plain
  have F_Name_plain := fun_mk (st := s_Name_plain) l_Name_plain c_Name_plain k_Name_plain
  have F_Pair_nodes := fun_mk (st := s_Pair_nodes) l_Pair_nodes c_Pair_nodes k_Pair_nodes
  have F_Half_nodes := fun_mk (st := s_Half_nodes) l_Half_nodes c_Half_nodes k_Half_nodes
  have F_Over_nodes := fun_mk (st := s_Over_nodes) l_Over_nodes c_Over_nodes k_Over_nodes
  have F_Power_nodes := fun_mk (st := s_Power_nodes) l_Power_nodes c_Power_nodes k_Power_nodes
  have F_Power_plain := fun_mk (st := s_Power_plain) l_Power_plain c_Power_plain k_Power_plain
  have F_Raised_nodes := fun_mk (st := s_Raised_nodes) l_Raised_nodes c_Raised_nodes k_Raised_nodes
  have F_Choose_nodes := fun_mk (st := s_Choose_nodes) l_Choose_nodes c_Choose_nodes k_Choose_nodes
  have F_Choose_plain := fun_mk (st := s_Choose_plain) l_Choose_plain c_Choose_plain k_Choose_plain
  have F_Node_eq := fun_mk (st := s_Node_eq) l_Node_eq c_Node_eq k_Node_eq
  have F_Call_nodes := fun_mk (st := s_Call_nodes) l_Call_nodes c_Call_nodes k_Call_nodes
  have F_Call_plain := fun_mk (st := s_Call_plain) l_Call_plain c_Call_plain k_Call_plain
  have F_Number_init := fun_mk (st := s_Number_init) l_Number_init c_Number_init k_Number_init
  have F_Name_init := fun_mk (st := s_Name_init) l_Name_init c_Name_init k_Name_init
  have F_Add_init := fun_mk (st := s_Add_init) l_Add_init c_Add_init k_Add_init
  have F_Subtract_init := fun_mk (st := s_Subtract_init) l_Subtract_init c_Subtract_init k_Subtract_init
  have F_Multiply_init := fun_mk (st := s_Multiply_init) l_Multiply_init c_Multiply_init k_Multiply_init
  have F_Half_init := fun_mk (st := s_Half_init) l_Half_init c_Half_init k_Half_init
  have F_Over_init := fun_mk (st := s_Over_init) l_Over_init c_Over_init k_Over_init
  have F_Power_init := fun_mk (st := s_Power_init) l_Power_init c_Power_init k_Power_init
  have F_Raised_init := fun_mk (st := s_Raised_init) l_Raised_init c_Raised_init k_Raised_init
  have F_Choose_init := fun_mk (st := s_Choose_init) l_Choose_init c_Choose_init k_Choose_init
  have F_Call_init := fun_mk (st := s_Call_init) l_Call_init c_Call_init k_Call_init
  have F_Reader_here := fun_mk (st := s_Reader_here) l_Reader_here c_Reader_here k_Reader_here
  have F_Reader_took := fun_mk (st := s_Reader_took) l_Reader_took c_Reader_took k_Reader_took
  have F_Reader_need := fun_mk (st := s_Reader_need) l_Reader_need c_Reader_need k_Reader_need
  have F_Reader_need_number := fun_mk (st := s_Reader_need_number) l_Reader_need_number c_Reader_need_number k_Reader_need_number
  have F_Reader_need_open := fun_mk (st := s_Reader_need_open) l_Reader_need_open c_Reader_need_open k_Reader_need_open
  have F_Reader_need_close := fun_mk (st := s_Reader_need_close) l_Reader_need_close c_Reader_need_close k_Reader_need_close
  have F_Reader_whole := fun_mk (st := s_Reader_whole) l_Reader_whole c_Reader_whole k_Reader_whole
  have F_Reader_product := fun_mk (st := s_Reader_product) l_Reader_product c_Reader_product k_Reader_product
  have F_Reader_tight := fun_mk (st := s_Reader_tight) l_Reader_tight c_Reader_tight k_Reader_tight
  have F_Reader_step := fun_mk (st := s_Reader_step) l_Reader_step c_Reader_step k_Reader_step
  have F_Reader_plain := fun_mk (st := s_Reader_plain) l_Reader_plain c_Reader_plain k_Reader_plain
  have F_Reader_called := fun_mk (st := s_Reader_called) l_Reader_called c_Reader_called k_Reader_called
  have F_Reader_enclosed := fun_mk (st := s_Reader_enclosed) l_Reader_enclosed c_Reader_enclosed k_Reader_enclosed
  have F_Reader_chosen := fun_mk (st := s_Reader_chosen) l_Reader_chosen c_Reader_chosen k_Reader_chosen
  have F_Reader_init := fun_mk (st := s_Reader_init) l_Reader_init c_Reader_init k_Reader_init
  have F_InvalidText_init := fun_mk (st := s_InvalidText_init) l_InvalidText_init c_InvalidText_init k_InvalidText_init
  have b_is_integer := F_is_integer.binds (ps := ["value"]) fun _ _ _ _ _ _ us hl => match us, hl with | [_], _ => rfl
  have b_is_between := F_is_between.binds (ps := ["value", "least", "most"]) fun _ _ _ _ _ _ us hl => match us, hl with | [_, _, _], _ => rfl
  have b_is_small := F_is_small.binds (ps := ["value"]) fun _ _ _ _ _ _ us hl => match us, hl with | [_], _ => rfl
  have b_is_name := F_is_name.binds (ps := ["value"]) fun _ _ _ _ _ _ us hl => match us, hl with | [_], _ => rfl
  have b_flat := F_flat.binds (ps := ["node"]) fun _ _ _ _ _ _ us hl => match us, hl with | [_], _ => rfl
  have b_outline := F_outline.binds (ps := ["node"]) fun _ _ _ _ _ _ us hl => match us, hl with | [_], _ => rfl
  have b_digits_value := F_digits_value.binds (ps := ["word"]) fun _ _ _ _ _ _ us hl => match us, hl with | [_], _ => rfl
  have b_signed_value := F_signed_value.binds (ps := ["word"]) fun _ _ _ _ _ _ us hl => match us, hl with | [_], _ => rfl
  have b_number_value := F_number_value.binds (ps := ["word"]) fun _ _ _ _ _ _ us hl => match us, hl with | [_], _ => rfl
  have b_read_node := F_read_node.binds (ps := ["text"]) fun _ _ _ _ _ _ us hl => match us, hl with | [_], _ => rfl
  have b_law_deal := F_law_deal.binds (ps := ["_law_script", "_law_base"]) fun _ _ _ _ _ _ us hl => match us, hl with | [_, _], _ => rfl
  have b_law_draw := F_law_draw.binds (ps := ["_law_deal_here", "_law_many"]) fun _ _ _ _ _ _ us hl => match us, hl with | [_, _], _ => rfl
  have b_law_mixed := F_law_mixed.binds (ps := ["_law_deal_here", "_law_items"]) fun _ _ _ _ _ _ us hl => match us, hl with | [_, _], _ => rfl
  have b_law_any_word := F_law_any_word.binds (ps := ["_law_deal_here", "_law_last"]) fun _ _ _ _ _ _ us hl => match us, hl with | [_, _], _ => rfl
  have b_law_words := F_law_words.binds (ps := ["_law_deal_here", "_law_many"]) fun _ _ _ _ _ _ us hl => match us, hl with | [_, _], _ => rfl
  have b_law_held := F_law_held.binds (ps := ["_law_term"]) fun _ _ _ _ _ _ us hl => match us, hl with | [_], _ => rfl
  have b_law_node := F_law_node.binds (ps := ["_law_term"]) fun _ _ _ _ _ _ us hl => match us, hl with | [_], _ => rfl
  have b_law_is_name := F_law_is_name.binds (ps := ["_law_word"]) fun _ _ _ _ _ _ us hl => match us, hl with | [_], _ => rfl
  have b_law_figures := F_law_figures.binds (ps := ["_law_word"]) fun _ _ _ _ _ _ us hl => match us, hl with | [_], _ => rfl
  have b_law_integer := F_law_integer.binds (ps := ["_law_word"]) fun _ _ _ _ _ _ us hl => match us, hl with | [_], _ => rfl
  have b_law_next := F_law_next.binds (ps := ["_law_reading"]) fun _ _ _ _ _ _ us hl => match us, hl with | [_], _ => rfl
  have b_law_take := F_law_take.binds (ps := ["_law_reading", "_law_word"]) fun _ _ _ _ _ _ us hl => match us, hl with | [_, _], _ => rfl
  have b_law_open := F_law_open.binds (ps := ["_law_reading"]) fun _ _ _ _ _ _ us hl => match us, hl with | [_], _ => rfl
  have b_law_close := F_law_close.binds (ps := ["_law_reading"]) fun _ _ _ _ _ _ us hl => match us, hl with | [_], _ => rfl
  have b_law_count := F_law_count.binds (ps := ["_law_reading", "_law_most"]) fun _ _ _ _ _ _ us hl => match us, hl with | [_, _], _ => rfl
  have b_law_sum := F_law_sum.binds (ps := ["_law_reading"]) fun _ _ _ _ _ _ us hl => match us, hl with | [_], _ => rfl
  have b_law_product := F_law_product.binds (ps := ["_law_reading"]) fun _ _ _ _ _ _ us hl => match us, hl with | [_], _ => rfl
  have b_law_factor := F_law_factor.binds (ps := ["_law_reading"]) fun _ _ _ _ _ _ us hl => match us, hl with | [_], _ => rfl
  have b_law_choice := F_law_choice.binds (ps := ["_law_reading"]) fun _ _ _ _ _ _ us hl => match us, hl with | [_], _ => rfl
  have b_law_atom := F_law_atom.binds (ps := ["_law_reading"]) fun _ _ _ _ _ _ us hl => match us, hl with | [_], _ => rfl
  have b_law_read := F_law_read.binds (ps := ["_law_text"]) fun _ _ _ _ _ _ us hl => match us, hl with | [_], _ => rfl
  have b_law_told := F_law_told.binds (ps := ["_law_text"]) fun _ _ _ _ _ _ us hl => match us, hl with | [_], _ => rfl
  have b_law_rows := F_law_rows.binds (ps := ["_law_deal_here"]) fun _ _ _ _ _ _ us hl => match us, hl with | [_], _ => rfl
  have b_law := F_law.binds (ps := ["_law_script"]) fun _ _ _ _ _ _ us hl => match us, hl with | [_], _ => rfl
  have b_Node_nodes := F_Node_nodes.binds (ps := ["self"]) fun _ _ _ _ _ _ us hl => match us, hl with | [_], _ => rfl
  have b_Node_plain := F_Node_plain.binds (ps := ["self"]) fun _ _ _ _ _ _ us hl => match us, hl with | [_], _ => rfl
  have b_Number_plain := F_Number_plain.binds (ps := ["self"]) fun _ _ _ _ _ _ us hl => match us, hl with | [_], _ => rfl
  have b_Name_plain := F_Name_plain.binds (ps := ["self"]) fun _ _ _ _ _ _ us hl => match us, hl with | [_], _ => rfl
  have b_Pair_nodes := F_Pair_nodes.binds (ps := ["self"]) fun _ _ _ _ _ _ us hl => match us, hl with | [_], _ => rfl
  have b_Half_nodes := F_Half_nodes.binds (ps := ["self"]) fun _ _ _ _ _ _ us hl => match us, hl with | [_], _ => rfl
  have b_Over_nodes := F_Over_nodes.binds (ps := ["self"]) fun _ _ _ _ _ _ us hl => match us, hl with | [_], _ => rfl
  have b_Power_nodes := F_Power_nodes.binds (ps := ["self"]) fun _ _ _ _ _ _ us hl => match us, hl with | [_], _ => rfl
  have b_Power_plain := F_Power_plain.binds (ps := ["self"]) fun _ _ _ _ _ _ us hl => match us, hl with | [_], _ => rfl
  have b_Raised_nodes := F_Raised_nodes.binds (ps := ["self"]) fun _ _ _ _ _ _ us hl => match us, hl with | [_], _ => rfl
  have b_Choose_nodes := F_Choose_nodes.binds (ps := ["self"]) fun _ _ _ _ _ _ us hl => match us, hl with | [_], _ => rfl
  have b_Choose_plain := F_Choose_plain.binds (ps := ["self"]) fun _ _ _ _ _ _ us hl => match us, hl with | [_], _ => rfl
  have b_Node_eq := F_Node_eq.binds (ps := ["self", "other"]) fun _ _ _ _ _ _ us hl => match us, hl with | [_, _], _ => rfl
  have b_Call_nodes := F_Call_nodes.binds (ps := ["self"]) fun _ _ _ _ _ _ us hl => match us, hl with | [_], _ => rfl
  have b_Call_plain := F_Call_plain.binds (ps := ["self"]) fun _ _ _ _ _ _ us hl => match us, hl with | [_], _ => rfl
  have b_Number_init := F_Number_init.binds (ps := ["self", "value"]) fun _ _ _ _ _ _ us hl => match us, hl with | [_, _], _ => rfl
  have b_Name_init := F_Name_init.binds (ps := ["self", "name"]) fun _ _ _ _ _ _ us hl => match us, hl with | [_, _], _ => rfl
  have b_Add_init := F_Add_init.binds (ps := ["self", "one", "other"]) fun _ _ _ _ _ _ us hl => match us, hl with | [_, _, _], _ => rfl
  have b_Subtract_init := F_Subtract_init.binds (ps := ["self", "one", "other"]) fun _ _ _ _ _ _ us hl => match us, hl with | [_, _, _], _ => rfl
  have b_Multiply_init := F_Multiply_init.binds (ps := ["self", "one", "other"]) fun _ _ _ _ _ _ us hl => match us, hl with | [_, _, _], _ => rfl
  have b_Half_init := F_Half_init.binds (ps := ["self", "inner"]) fun _ _ _ _ _ _ us hl => match us, hl with | [_, _], _ => rfl
  have b_Over_init := F_Over_init.binds (ps := ["self", "top", "bottom"]) fun _ _ _ _ _ _ us hl => match us, hl with | [_, _, _], _ => rfl
  have b_Power_init := F_Power_init.binds (ps := ["self", "base", "times"]) fun _ _ _ _ _ _ us hl => match us, hl with | [_, _, _], _ => rfl
  have b_Raised_init := F_Raised_init.binds (ps := ["self", "base", "exponent"]) fun _ _ _ _ _ _ us hl => match us, hl with | [_, _, _], _ => rfl
  have b_Choose_init := F_Choose_init.binds (ps := ["self", "tested", "modulus", "rest", "yes", "no"]) fun _ _ _ _ _ _ us hl => match us, hl with | [_, _, _, _, _, _], _ => rfl
  have b_Call_init := F_Call_init.binds (ps := ["self", "name", "arguments"]) fun _ _ _ _ _ _ us hl => match us, hl with | [_, _, _], _ => rfl
  have b_Reader_here := F_Reader_here.binds (ps := ["self"]) fun _ _ _ _ _ _ us hl => match us, hl with | [_], _ => rfl
  have b_Reader_took := F_Reader_took.binds (ps := ["self", "word"]) fun _ _ _ _ _ _ us hl => match us, hl with | [_, _], _ => rfl
  have b_Reader_need := F_Reader_need.binds (ps := ["self", "word"]) fun _ _ _ _ _ _ us hl => match us, hl with | [_, _], _ => rfl
  have b_Reader_need_number := F_Reader_need_number.binds (ps := ["self", "least", "most"]) fun _ _ _ _ _ _ us hl => match us, hl with | [_, _, _], _ => rfl
  have b_Reader_need_open := F_Reader_need_open.binds (ps := ["self"]) fun _ _ _ _ _ _ us hl => match us, hl with | [_], _ => rfl
  have b_Reader_need_close := F_Reader_need_close.binds (ps := ["self"]) fun _ _ _ _ _ _ us hl => match us, hl with | [_], _ => rfl
  have b_Reader_whole := F_Reader_whole.binds (ps := ["self"]) fun _ _ _ _ _ _ us hl => match us, hl with | [_], _ => rfl
  have b_Reader_product := F_Reader_product.binds (ps := ["self"]) fun _ _ _ _ _ _ us hl => match us, hl with | [_], _ => rfl
  have b_Reader_tight := F_Reader_tight.binds (ps := ["self"]) fun _ _ _ _ _ _ us hl => match us, hl with | [_], _ => rfl
  have b_Reader_step := F_Reader_step.binds (ps := ["self", "waiting"]) fun _ _ _ _ _ _ us hl => match us, hl with | [_, _], _ => rfl
  have b_Reader_plain := F_Reader_plain.binds (ps := ["self"]) fun _ _ _ _ _ _ us hl => match us, hl with | [_], _ => rfl
  have b_Reader_called := F_Reader_called.binds (ps := ["self", "name"]) fun _ _ _ _ _ _ us hl => match us, hl with | [_, _], _ => rfl
  have b_Reader_enclosed := F_Reader_enclosed.binds (ps := ["self"]) fun _ _ _ _ _ _ us hl => match us, hl with | [_], _ => rfl
  have b_Reader_chosen := F_Reader_chosen.binds (ps := ["self"]) fun _ _ _ _ _ _ us hl => match us, hl with | [_], _ => rfl
  have b_Reader_init := F_Reader_init.binds (ps := ["self", "text"]) fun _ _ _ _ _ _ us hl => match us, hl with | [_, _], _ => rfl
  have b_InvalidText_init := F_InvalidText_init.binds (ps := ["self", "at"]) fun _ _ _ _ _ _ us hl => match us, hl with | [_, _], _ => rfl
  have T : Glob mg := ⟨PySem.W.mg_none_of X G z_len, PySem.W.mg_none_of X G z_max, PySem.W.mg_none_of X G z_list, PySem.W.mg_none_of X G z_tuple, PySem.W.mg_none_of X G z_reversed, PySem.W.mg_none_of X G z_range, PySem.W.mg_none_of X G z_int, PySem.W.mg_none_of X G z_str, PySem.W.mg_none_of X G z_bool, PySem.W.mg_none_of X G z_isinstance, PySem.W.mg_none_of X G z_all, PySem.W.mg_none_of X G z_enumerate, PySem.W.mg_none_of X G z_zip⟩
  have T2 : Tabs K mg := ⟨⟨t1, PySem.W.mg_of X G gl_LIMIT⟩, ⟨t2, PySem.W.mg_of X G gl_LONG⟩, ⟨t3, PySem.W.mg_of X G gl_TIMES⟩, ⟨aW, PySem.W.mg_of X G gl_WORDS, fun H => .inr ⟨_, itsW, nW, lW, rfl, rfl, ble_size zW, strs_vals sW⟩⟩, ⟨aM, PySem.W.mg_of X G gl_MODULI, fun H => .inr ⟨_, itsM, nM, lM, rfl, rfl, ble_size zM, ints_vals sM⟩⟩⟩
  have hMd : ∀ H, SqT K H aM ([2, 4, 8, 16, 32, 64].map V.int) := fun H => .inr ⟨_, itsM, nM, lM, rfl, rfl, ble_size zM, ints_vals sM⟩
  have cl_Number : Cls K C_Number := ⟨pg_Number, hd_Number, po_Number, sa_Number⟩
  have cl_Name : Cls K C_Name := ⟨pg_Name, hd_Name, po_Name, sa_Name⟩
  have cl_Add : Cls K C_Add := ⟨pg_Add, hd_Add, po_Add, sa_Add⟩
  have cl_Subtract : Cls K C_Subtract := ⟨pg_Subtract, hd_Subtract, po_Subtract, sa_Subtract⟩
  have cl_Multiply : Cls K C_Multiply := ⟨pg_Multiply, hd_Multiply, po_Multiply, sa_Multiply⟩
  have cl_Half : Cls K C_Half := ⟨pg_Half, hd_Half, po_Half, sa_Half⟩
  have cl_Over : Cls K C_Over := ⟨pg_Over, hd_Over, po_Over, sa_Over⟩
  have cl_Power : Cls K C_Power := ⟨pg_Power, hd_Power, po_Power, sa_Power⟩
  have cl_Raised : Cls K C_Raised := ⟨pg_Raised, hd_Raised, po_Raised, sa_Raised⟩
  have cl_Choose : Cls K C_Choose := ⟨pg_Choose, hd_Choose, po_Choose, sa_Choose⟩
  have cl_Call : Cls K C_Call := ⟨pg_Call, hd_Call, po_Call, sa_Call⟩
  have cl_Reader : Cls K C_Reader := ⟨pg_Reader, hd_Reader, po_Reader, sa_Reader⟩
  have N : Nodes3 P w K mg base ⟨C_Number, C_Name, C_Add, C_Subtract, C_Multiply, C_Half, C_Over, C_Power, C_Raised, C_Choose⟩ C_Call := { cl := (fun t => match t with | .num _ => cl_Number | .nam _ => cl_Name | .two .add => cl_Add | .two .sub => cl_Subtract | .two .mul => cl_Multiply | .two .over => cl_Over | .two .rai => cl_Raised | .half => cl_Half | .pow _ => cl_Power | .cho _ _ => cl_Choose | .call _ => cl_Call), nm := (fun t => match t with | .num _ => ⟨ca_Number, cn, ct, cm_Number, ty_Number, rd_Number, fc_Number, ⟨_, lk_Number, _, nz_Number⟩⟩ | .nam _ => ⟨ca_Name, cn, ct, cm_Name, ty_Name, rd_Name, fc_Name, ⟨_, lk_Name, _, nz_Name⟩⟩ | .two .add => ⟨ca_Add, cn, ct, cm_Add, ty_Add, rd_Add, fc_Add, ⟨_, lk_Add, _, nz_Add⟩⟩ | .two .sub => ⟨ca_Subtract, cn, ct, cm_Subtract, ty_Subtract, rd_Subtract, fc_Subtract, ⟨_, lk_Subtract, _, nz_Subtract⟩⟩ | .two .mul => ⟨ca_Multiply, cn, ct, cm_Multiply, ty_Multiply, rd_Multiply, fc_Multiply, ⟨_, lk_Multiply, _, nz_Multiply⟩⟩ | .two .over => ⟨ca_Over, cn, ct, cm_Over, ty_Over, rd_Over, fc_Over, ⟨_, lk_Over, _, nz_Over⟩⟩ | .two .rai => ⟨ca_Raised, cn, ct, cm_Raised, ty_Raised, rd_Raised, fc_Raised, ⟨_, lk_Raised, _, nz_Raised⟩⟩ | .half => ⟨ca_Half, cn, ct, cm_Half, ty_Half, rd_Half, fc_Half, ⟨_, lk_Half, _, nz_Half⟩⟩ | .pow _ => ⟨ca_Power, cn, ct, cm_Power, ty_Power, rd_Power, fc_Power, ⟨_, lk_Power, _, nz_Power⟩⟩ | .cho _ _ => ⟨ca_Choose, cn, ct, cm_Choose, ty_Choose, rd_Choose, fc_Choose, ⟨_, lk_Choose, _, nz_Choose⟩⟩ | .call _ => ⟨ca_Call, cn, ct, cm_Call, ty_Call, rd_Call, fc_Call, ⟨_, lk_Call, _, nz_Call⟩⟩), nd := (fun t => match t with | .num _ => mok_nd (fun _ h => by cases h) ⟨m_nodes_Number, i_Node_nodes, k_Node_nodes⟩ (ok_Node_nodes F_Node_nodes) b_Node_nodes | .nam _ => mok_nd (fun _ h => by cases h) ⟨m_nodes_Name, i_Node_nodes, k_Node_nodes⟩ (ok_Node_nodes F_Node_nodes) b_Node_nodes | .two .add => mok_nd (fun _ h => by cases h) ⟨m_nodes_Add, i_Pair_nodes, k_Pair_nodes⟩ (ok_Pair_nodes F_Pair_nodes cl_Add n_Add_one n_Add_other) b_Pair_nodes | .two .sub => mok_nd (fun _ h => by cases h) ⟨m_nodes_Subtract, i_Pair_nodes, k_Pair_nodes⟩ (ok_Pair_nodes F_Pair_nodes cl_Subtract n_Subtract_one n_Subtract_other) b_Pair_nodes | .two .mul => mok_nd (fun _ h => by cases h) ⟨m_nodes_Multiply, i_Pair_nodes, k_Pair_nodes⟩ (ok_Pair_nodes F_Pair_nodes cl_Multiply n_Multiply_one n_Multiply_other) b_Pair_nodes | .two .over => mok_nd (fun _ h => by cases h) ⟨m_nodes_Over, i_Over_nodes, k_Over_nodes⟩ (ok_Over_nodes F_Over_nodes cl_Over n_Over_top n_Over_bottom) b_Over_nodes | .two .rai => mok_nd (fun _ h => by cases h) ⟨m_nodes_Raised, i_Raised_nodes, k_Raised_nodes⟩ (ok_Raised_nodes F_Raised_nodes cl_Raised n_Raised_base n_Raised_exponent) b_Raised_nodes | .half => mok_nd (fun _ h => by cases h) ⟨m_nodes_Half, i_Half_nodes, k_Half_nodes⟩ (ok_Half_nodes F_Half_nodes cl_Half n_Half_inner) b_Half_nodes | .pow _ => mok_nd (fun _ h => by cases h) ⟨m_nodes_Power, i_Power_nodes, k_Power_nodes⟩ (ok_Power_nodes F_Power_nodes cl_Power n_Power_base) b_Power_nodes | .cho _ _ => mok_nd (fun _ h => by cases h) ⟨m_nodes_Choose, i_Choose_nodes, k_Choose_nodes⟩ (ok_Choose_nodes F_Choose_nodes cl_Choose n_Choose_tested n_Choose_yes n_Choose_no) b_Choose_nodes | .call _ => mok_cn ⟨m_nodes_Call, i_Call_nodes, k_Call_nodes⟩ (ok_Call_nodes F_Call_nodes cl_Call n_Call_arguments) b_Call_nodes), pl := (fun t => match t with | .num _ => mok_pl (fun _ h => by cases h) ⟨m_plain_Number, i_Number_plain, k_Number_plain⟩ (ok_Number_plain F_Number_plain cl_Number n_Number_value) b_Number_plain | .nam _ => mok_pl (fun _ h => by cases h) ⟨m_plain_Name, i_Name_plain, k_Name_plain⟩ (ok_Name_plain F_Name_plain cl_Name n_Name_name) b_Name_plain | .two .add => mok_pl (fun _ h => by cases h) ⟨m_plain_Add, i_Node_plain, k_Node_plain⟩ (ok_Node_plain F_Node_plain) b_Node_plain | .two .sub => mok_pl (fun _ h => by cases h) ⟨m_plain_Subtract, i_Node_plain, k_Node_plain⟩ (ok_Node_plain F_Node_plain) b_Node_plain | .two .mul => mok_pl (fun _ h => by cases h) ⟨m_plain_Multiply, i_Node_plain, k_Node_plain⟩ (ok_Node_plain F_Node_plain) b_Node_plain | .two .over => mok_pl (fun _ h => by cases h) ⟨m_plain_Over, i_Node_plain, k_Node_plain⟩ (ok_Node_plain F_Node_plain) b_Node_plain | .two .rai => mok_pl (fun _ h => by cases h) ⟨m_plain_Raised, i_Node_plain, k_Node_plain⟩ (ok_Node_plain F_Node_plain) b_Node_plain | .half => mok_pl (fun _ h => by cases h) ⟨m_plain_Half, i_Node_plain, k_Node_plain⟩ (ok_Node_plain F_Node_plain) b_Node_plain | .pow _ => mok_pl (fun _ h => by cases h) ⟨m_plain_Power, i_Power_plain, k_Power_plain⟩ (ok_Power_plain F_Power_plain cl_Power n_Power_times) b_Power_plain | .cho _ _ => mok_pl (fun _ h => by cases h) ⟨m_plain_Choose, i_Choose_plain, k_Choose_plain⟩ (ok_Choose_plain F_Choose_plain cl_Choose n_Choose_modulus n_Choose_rest) b_Choose_plain | .call _ => mok_cp ⟨m_plain_Call, i_Call_plain, k_Call_plain⟩ (ok_Call_plain F_Call_plain T cl_Call n_Call_name n_Call_arguments) b_Call_plain) }
  have D_is_integer : Df P w K mg base 1 "is_integer" ["value"] spIsInt := ⟨f_is_integer, _, ok_is_integer F_is_integer T, PySem.W.mg_of X G a_is_integer, k_is_integer, b_is_integer⟩
  have D_is_between : Df P w K mg base 2 "is_between" ["value", "least", "most"] spBtw := ⟨f_is_between, _, ok_is_between F_is_between D_is_integer, PySem.W.mg_of X G a_is_between, k_is_between, b_is_between⟩
  have D_is_small : Df P w K mg base 2 "is_small" ["value"] spSmall := ⟨f_is_small, _, ok_is_small F_is_small T2 D_is_integer, PySem.W.mg_of X G a_is_small, k_is_small, b_is_small⟩
  have D_is_name : Df P w K mg base 1 "is_name" ["value"] spIsName := ⟨f_is_name, _, ok_is_name F_is_name T T2, PySem.W.mg_of X G a_is_name, k_is_name, b_is_name⟩
  have D_digits_value : Df P w K mg base 1 "digits_value" ["word"] spDigits := ⟨f_digits_value, _, ok_digits_value F_digits_value T t4 (PySem.W.mg_of X G gl_DIGITS), PySem.W.mg_of X G a_digits_value, k_digits_value, b_digits_value⟩
  have D_signed_value : Df P w K mg base 2 "signed_value" ["word"] spSigned := ⟨f_signed_value, _, ok_signed_value F_signed_value D_digits_value, PySem.W.mg_of X G a_signed_value, k_signed_value, b_signed_value⟩
  have D_number_value : Df P w K mg base 3 "number_value" ["word"] spNv := ⟨f_number_value, _, ok_number_value F_number_value D_signed_value D_is_small, PySem.W.mg_of X G a_number_value, k_number_value, b_number_value⟩
  have D_flat : Df P w K mg base 2 "flat" ["node"] (spFlat3 ⟨C_Number, C_Name, C_Add, C_Subtract, C_Multiply, C_Half, C_Over, C_Power, C_Raised, C_Choose⟩ C_Call) := ⟨f_flat, _, ok_flat3 F_flat T N, PySem.W.mg_of X G a_flat, k_flat, b_flat⟩
  have D_outline : Df P w K mg base 3 "outline" ["node"] (spOut3 ⟨C_Number, C_Name, C_Add, C_Subtract, C_Multiply, C_Half, C_Over, C_Power, C_Raised, C_Choose⟩ C_Call) := ⟨f_outline, _, ok_outline3 F_outline T N D_flat, PySem.W.mg_of X G a_outline, k_outline, b_outline⟩
  have M : Mks P w K mg base ⟨C_Number, C_Name, C_Add, C_Subtract, C_Multiply, C_Half, C_Over, C_Power, C_Raised, C_Choose⟩ := { num := ⟨f_Number_init, _, ⟨mk_Number, minit_Number, i_Number_init, kc_Number⟩, ok_Number_init (cI := C_Node) F_Number_init T T2 cl_Number n_Number_value D_is_small, PySem.W.mg_of X G a_Number, b_Number_init⟩, nam := ⟨f_Name_init, _, ⟨mk_Name, minit_Name, i_Name_init, kc_Name⟩, ok_Name_init (cI := C_Node) F_Name_init T T2 cl_Name n_Name_name D_is_name, PySem.W.mg_of X G a_Name, b_Name_init⟩, add := ⟨f_Add_init, _, ⟨mk_Add, minit_Add, i_Add_init, kc_Add⟩, ok_Add_init F_Add_init cl_Add n_Add_one n_Add_other, PySem.W.mg_of X G a_Add, b_Add_init⟩, sub := ⟨f_Subtract_init, _, ⟨mk_Subtract, minit_Subtract, i_Subtract_init, kc_Subtract⟩, ok_Subtract_init F_Subtract_init cl_Subtract n_Subtract_one n_Subtract_other, PySem.W.mg_of X G a_Subtract, b_Subtract_init⟩, mul := ⟨f_Multiply_init, _, ⟨mk_Multiply, minit_Multiply, i_Multiply_init, kc_Multiply⟩, ok_Multiply_init F_Multiply_init cl_Multiply n_Multiply_one n_Multiply_other, PySem.W.mg_of X G a_Multiply, b_Multiply_init⟩, half := ⟨f_Half_init, _, ⟨mk_Half, minit_Half, i_Half_init, kc_Half⟩, ok_Half_init F_Half_init cl_Half n_Half_inner, PySem.W.mg_of X G a_Half, b_Half_init⟩, over := ⟨f_Over_init, _, ⟨mk_Over, minit_Over, i_Over_init, kc_Over⟩, ok_Over_init F_Over_init cl_Over n_Over_top n_Over_bottom, PySem.W.mg_of X G a_Over, b_Over_init⟩, pow := ⟨f_Power_init, _, ⟨mk_Power, minit_Power, i_Power_init, kc_Power⟩, ok_Power_init (cI := C_Node) F_Power_init T T2 cl_Power n_Power_base n_Power_times D_is_between, PySem.W.mg_of X G a_Power, b_Power_init⟩, rai := ⟨f_Raised_init, _, ⟨mk_Raised, minit_Raised, i_Raised_init, kc_Raised⟩, ok_Raised_init F_Raised_init cl_Raised n_Raised_base n_Raised_exponent, PySem.W.mg_of X G a_Raised, b_Raised_init⟩, cho := ⟨f_Choose_init, _, ⟨mk_Choose, minit_Choose, i_Choose_init, kc_Choose⟩, ok_Choose_init (cI := C_Node) F_Choose_init T T2 cl_Choose n_Choose_tested n_Choose_modulus n_Choose_rest n_Choose_yes n_Choose_no D_is_integer D_is_between, PySem.W.mg_of X G a_Choose, b_Choose_init⟩ }
  have MC : Mo P w K mg base CX0 2 "Call" C_Call ["self", "name", "arguments"] (spCall K C_Call) := ⟨f_Call_init, _, ⟨mk_Call, minit_Call, i_Call_init, kc_Call⟩, ok_Call_init (cI := C_Node) F_Call_init T cl_Call n_Call_name n_Call_arguments D_is_name, PySem.W.mg_of X G a_Call, b_Call_init⟩
  have MC6 : Mo P w K mg base CX0 2 "Call" C_Call ["self", "name", "arguments"] (spCall6 K C_Call) := ⟨f_Call_init, _, ⟨mk_Call, minit_Call, i_Call_init, kc_Call⟩, ok_Call_init6 (cI := C_Node) F_Call_init T cl_Call n_Call_name n_Call_arguments D_is_name, PySem.W.mg_of X G a_Call, b_Call_init⟩
  have hkit : ∀ t, PySem.W.kitOne K (.ref (Tag.cls (⟨C_Number, C_Name, C_Add, C_Subtract, C_Multiply, C_Half, C_Over, C_Power, C_Raised, C_Choose⟩ : CA) C_Call t)) (.ref C_Node) = some true := (fun t => match t with | .num _ => kit_own cls_Node ty_Node sb_Number | .nam _ => kit_own cls_Node ty_Node sb_Name | .two .add => kit_own cls_Node ty_Node sb_Add | .two .sub => kit_own cls_Node ty_Node sb_Subtract | .two .mul => kit_own cls_Node ty_Node sb_Multiply | .two .over => kit_own cls_Node ty_Node sb_Over | .two .rai => kit_own cls_Node ty_Node sb_Raised | .half => kit_own cls_Node ty_Node sb_Half | .pow _ => kit_own cls_Node ty_Node sb_Power | .cho _ _ => kit_own cls_Node ty_Node sb_Choose | .call _ => kit_own cls_Node ty_Node sb_Call)
  have EQ : EqOk3 P w K mg base ⟨C_Number, C_Name, C_Add, C_Subtract, C_Multiply, C_Half, C_Over, C_Power, C_Raised, C_Choose⟩ C_Call := ⟨f_Node_eq, _, (fun t => match t with | .num _ => ⟨meq_Number, ne_Number, i_Node_eq, cm_Number⟩ | .nam _ => ⟨meq_Name, ne_Name, i_Node_eq, cm_Name⟩ | .two .add => ⟨meq_Add, ne_Add, i_Node_eq, cm_Add⟩ | .two .sub => ⟨meq_Subtract, ne_Subtract, i_Node_eq, cm_Subtract⟩ | .two .mul => ⟨meq_Multiply, ne_Multiply, i_Node_eq, cm_Multiply⟩ | .two .over => ⟨meq_Over, ne_Over, i_Node_eq, cm_Over⟩ | .two .rai => ⟨meq_Raised, ne_Raised, i_Node_eq, cm_Raised⟩ | .half => ⟨meq_Half, ne_Half, i_Node_eq, cm_Half⟩ | .pow _ => ⟨meq_Power, ne_Power, i_Node_eq, cm_Power⟩ | .cho _ _ => ⟨meq_Choose, ne_Choose, i_Node_eq, cm_Choose⟩ | .call _ => ⟨meq_Call, ne_Call, i_Node_eq, cm_Call⟩), (fun t u => match t with | .num _ => (match u with | .num _ => nf_self | .nam _ => nf_of ss_Number_Name | .two .add => nf_of ss_Number_Add | .two .sub => nf_of ss_Number_Subtract | .two .mul => nf_of ss_Number_Multiply | .two .over => nf_of ss_Number_Over | .two .rai => nf_of ss_Number_Raised | .half => nf_of ss_Number_Half | .pow _ => nf_of ss_Number_Power | .cho _ _ => nf_of ss_Number_Choose | .call _ => nf_of ss_Number_Call) | .nam _ => (match u with | .num _ => nf_of ss_Name_Number | .nam _ => nf_self | .two .add => nf_of ss_Name_Add | .two .sub => nf_of ss_Name_Subtract | .two .mul => nf_of ss_Name_Multiply | .two .over => nf_of ss_Name_Over | .two .rai => nf_of ss_Name_Raised | .half => nf_of ss_Name_Half | .pow _ => nf_of ss_Name_Power | .cho _ _ => nf_of ss_Name_Choose | .call _ => nf_of ss_Name_Call) | .two .add => (match u with | .num _ => nf_of ss_Add_Number | .nam _ => nf_of ss_Add_Name | .two .add => nf_self | .two .sub => nf_of ss_Add_Subtract | .two .mul => nf_of ss_Add_Multiply | .two .over => nf_of ss_Add_Over | .two .rai => nf_of ss_Add_Raised | .half => nf_of ss_Add_Half | .pow _ => nf_of ss_Add_Power | .cho _ _ => nf_of ss_Add_Choose | .call _ => nf_of ss_Add_Call) | .two .sub => (match u with | .num _ => nf_of ss_Subtract_Number | .nam _ => nf_of ss_Subtract_Name | .two .add => nf_of ss_Subtract_Add | .two .sub => nf_self | .two .mul => nf_of ss_Subtract_Multiply | .two .over => nf_of ss_Subtract_Over | .two .rai => nf_of ss_Subtract_Raised | .half => nf_of ss_Subtract_Half | .pow _ => nf_of ss_Subtract_Power | .cho _ _ => nf_of ss_Subtract_Choose | .call _ => nf_of ss_Subtract_Call) | .two .mul => (match u with | .num _ => nf_of ss_Multiply_Number | .nam _ => nf_of ss_Multiply_Name | .two .add => nf_of ss_Multiply_Add | .two .sub => nf_of ss_Multiply_Subtract | .two .mul => nf_self | .two .over => nf_of ss_Multiply_Over | .two .rai => nf_of ss_Multiply_Raised | .half => nf_of ss_Multiply_Half | .pow _ => nf_of ss_Multiply_Power | .cho _ _ => nf_of ss_Multiply_Choose | .call _ => nf_of ss_Multiply_Call) | .two .over => (match u with | .num _ => nf_of ss_Over_Number | .nam _ => nf_of ss_Over_Name | .two .add => nf_of ss_Over_Add | .two .sub => nf_of ss_Over_Subtract | .two .mul => nf_of ss_Over_Multiply | .two .over => nf_self | .two .rai => nf_of ss_Over_Raised | .half => nf_of ss_Over_Half | .pow _ => nf_of ss_Over_Power | .cho _ _ => nf_of ss_Over_Choose | .call _ => nf_of ss_Over_Call) | .two .rai => (match u with | .num _ => nf_of ss_Raised_Number | .nam _ => nf_of ss_Raised_Name | .two .add => nf_of ss_Raised_Add | .two .sub => nf_of ss_Raised_Subtract | .two .mul => nf_of ss_Raised_Multiply | .two .over => nf_of ss_Raised_Over | .two .rai => nf_self | .half => nf_of ss_Raised_Half | .pow _ => nf_of ss_Raised_Power | .cho _ _ => nf_of ss_Raised_Choose | .call _ => nf_of ss_Raised_Call) | .half => (match u with | .num _ => nf_of ss_Half_Number | .nam _ => nf_of ss_Half_Name | .two .add => nf_of ss_Half_Add | .two .sub => nf_of ss_Half_Subtract | .two .mul => nf_of ss_Half_Multiply | .two .over => nf_of ss_Half_Over | .two .rai => nf_of ss_Half_Raised | .half => nf_self | .pow _ => nf_of ss_Half_Power | .cho _ _ => nf_of ss_Half_Choose | .call _ => nf_of ss_Half_Call) | .pow _ => (match u with | .num _ => nf_of ss_Power_Number | .nam _ => nf_of ss_Power_Name | .two .add => nf_of ss_Power_Add | .two .sub => nf_of ss_Power_Subtract | .two .mul => nf_of ss_Power_Multiply | .two .over => nf_of ss_Power_Over | .two .rai => nf_of ss_Power_Raised | .half => nf_of ss_Power_Half | .pow _ => nf_self | .cho _ _ => nf_of ss_Power_Choose | .call _ => nf_of ss_Power_Call) | .cho _ _ => (match u with | .num _ => nf_of ss_Choose_Number | .nam _ => nf_of ss_Choose_Name | .two .add => nf_of ss_Choose_Add | .two .sub => nf_of ss_Choose_Subtract | .two .mul => nf_of ss_Choose_Multiply | .two .over => nf_of ss_Choose_Over | .two .rai => nf_of ss_Choose_Raised | .half => nf_of ss_Choose_Half | .pow _ => nf_of ss_Choose_Power | .cho _ _ => nf_self | .call _ => nf_of ss_Choose_Call) | .call _ => (match u with | .num _ => nf_of ss_Call_Number | .nam _ => nf_of ss_Call_Name | .two .add => nf_of ss_Call_Add | .two .sub => nf_of ss_Call_Subtract | .two .mul => nf_of ss_Call_Multiply | .two .over => nf_of ss_Call_Over | .two .rai => nf_of ss_Call_Raised | .half => nf_of ss_Call_Half | .pow _ => nf_of ss_Call_Power | .cho _ _ => nf_of ss_Call_Choose | .call _ => nf_self)), ok_Node_eq3 F_Node_eq N D_outline (PySem.W.mg_none_of X G z_isinstance) (PySem.W.mg_of X G a_Node) hkit, b_Node_eq⟩
  have oxT : OexC K C_InvalidText := ⟨⟨nmT, qT, NT, bsT, _, snT, subT_, abT, colT, ddT, m0T, m1T, m2T, m3T, m5T, xLT, (by show PySem.HandSPX.refsVE [.type "ValueError", .type "Exception", .type "BaseException", .type "object"] = true; decide +kernel)⟩, saT, bT, tT, kT⟩
  have ET : ErrT P w K mg base C_InvalidText := ⟨f_InvalidText_init, _, oxT, m_InvalidText_init, y_InvalidText_init, ok_InvalidText_init F_InvalidText_init oxT naT, b_InvalidText_init, PySem.W.mg_of X G a_InvalidText⟩
  have C0 : RdC K C_Reader := ⟨cl_Reader, n_Reader_words, n_Reader_at, n_Reader_depth⟩
  have S : RdS K C_Reader := { here := ⟨f_Reader_here, _, ⟨m_Reader_here, i_Reader_here, k_Reader_here⟩, F_Reader_here, b_Reader_here⟩, took := ⟨f_Reader_took, _, ⟨m_Reader_took, i_Reader_took, k_Reader_took⟩, F_Reader_took, b_Reader_took⟩, need := ⟨f_Reader_need, _, ⟨m_Reader_need, i_Reader_need, k_Reader_need⟩, F_Reader_need, b_Reader_need⟩, nbr := ⟨f_Reader_need_number, _, ⟨m_Reader_need_number, i_Reader_need_number, k_Reader_need_number⟩, F_Reader_need_number, b_Reader_need_number⟩, opn := ⟨f_Reader_need_open, _, ⟨m_Reader_need_open, i_Reader_need_open, k_Reader_need_open⟩, F_Reader_need_open, b_Reader_need_open⟩, cls := ⟨f_Reader_need_close, _, ⟨m_Reader_need_close, i_Reader_need_close, k_Reader_need_close⟩, F_Reader_need_close, b_Reader_need_close⟩, whole := ⟨f_Reader_whole, _, ⟨m_Reader_whole, i_Reader_whole, k_Reader_whole⟩, F_Reader_whole, b_Reader_whole⟩, prod := ⟨f_Reader_product, _, ⟨m_Reader_product, i_Reader_product, k_Reader_product⟩, F_Reader_product, b_Reader_product⟩, tight := ⟨f_Reader_tight, _, ⟨m_Reader_tight, i_Reader_tight, k_Reader_tight⟩, F_Reader_tight, b_Reader_tight⟩, step := ⟨f_Reader_step, _, ⟨m_Reader_step, i_Reader_step, k_Reader_step⟩, F_Reader_step, b_Reader_step⟩, plain := ⟨f_Reader_plain, _, ⟨m_Reader_plain, i_Reader_plain, k_Reader_plain⟩, F_Reader_plain, b_Reader_plain⟩, called := ⟨f_Reader_called, _, ⟨m_Reader_called, i_Reader_called, k_Reader_called⟩, F_Reader_called, b_Reader_called⟩, encl := ⟨f_Reader_enclosed, _, ⟨m_Reader_enclosed, i_Reader_enclosed, k_Reader_enclosed⟩, F_Reader_enclosed, b_Reader_enclosed⟩, chosen := ⟨f_Reader_chosen, _, ⟨m_Reader_chosen, i_Reader_chosen, k_Reader_chosen⟩, F_Reader_chosen, b_Reader_chosen⟩ }
  have oW := rd_whole S T C0 M MC6 ET (PySem.W.mg_of X G gl_OPEN) (PySem.W.mg_of X G gl_TIMES) (PySem.W.mg_of X G gl_MODULI) hMd D_digits_value D_number_value D_is_name 20
  have MR : Mo P w K mg base CX0 1 "Reader" C_Reader ["self", "text"] (spRi C_Reader) := ⟨f_Reader_init, _, ⟨mk_Reader, m_Reader_init, i_Reader_init, kc_Reader⟩, ok_Reader_init F_Reader_init C0, PySem.W.mg_of X G a_Reader, b_Reader_init⟩
  have oR : FnOk P w K mg base (L2.CX P w) 161 f_read_node _ ["text"] (spRead C_InvalidText ⟨C_Number, C_Name, C_Add, C_Subtract, C_Multiply, C_Half, C_Over, C_Power, C_Raised, C_Choose⟩ C_Call) := ok_read_node F_read_node T C0 ET MR ⟨_, _, S.whole.m, oW, S.whole.b⟩
  have D_law_deal : Df P w K mg base 1 "_law_deal" ["_law_script", "_law_base"] (spDeal K) := ⟨f_law_deal, _, ok_law_deal F_law_deal T, PySem.W.mg_of X G a_law_deal, k_law_deal, b_law_deal⟩
  have D_law_draw : Df P w K mg base 1 "_law_draw" ["_law_deal_here", "_law_many"] spDraw := ⟨f_law_draw, _, ok_law_draw F_law_draw T, PySem.W.mg_of X G a_law_draw, k_law_draw, b_law_draw⟩
  have D_law_mixed : Df P w K mg base 2 "_law_mixed" ["_law_deal_here", "_law_items"] (spMixed K) := ⟨f_law_mixed, _, ok_law_mixed F_law_mixed T D_law_draw, PySem.W.mg_of X G a_law_mixed, k_law_mixed, b_law_mixed⟩
  have D_law_any_word : Df P w K mg base 2 "_law_any_word" ["_law_deal_here", "_law_last"] spAny := ⟨f_law_any_word, _, ok_law_any_word F_law_any_word T D_law_draw, PySem.W.mg_of X G a_law_any_word, k_law_any_word, b_law_any_word⟩
  have D_law_words : Df P w K mg base 3 "_law_words" ["_law_deal_here", "_law_many"] spWords := ⟨f_law_words, _, ok_law_words F_law_words T D_law_draw D_law_any_word D_law_mixed, PySem.W.mg_of X G a_law_words, k_law_words, b_law_words⟩
  have D_law_held : Df P w K mg base 1 "_law_held" ["_law_term"] spHeld3 := ⟨f_law_held, _, ok_law_held3 F_law_held (PySem.W.mg_none_of X G z_isinstance) (PySem.W.mg_none_of X G z_tuple) (PySem.W.mg_none_of X G z_list), PySem.W.mg_of X G a_law_held, k_law_held, b_law_held⟩
  have D_law_node : Df P w K mg base 34 "_law_node" ["_law_term"] (spNode3 ⟨C_Number, C_Name, C_Add, C_Subtract, C_Multiply, C_Half, C_Over, C_Power, C_Raised, C_Choose⟩ C_Call 30) := ⟨f_law_node, _, ok_law_node3 F_law_node M MC D_law_held (PySem.W.mg_of X G a_law_node) b_law_node 30, PySem.W.mg_of X G a_law_node, k_law_node, b_law_node⟩
  have D_law_is_name : Df P w K mg base 1 "_law_is_name" ["_law_word"] spNmL := ⟨f_law_is_name, _, ok_law_is_name F_law_is_name T, PySem.W.mg_of X G a_law_is_name, k_law_is_name, b_law_is_name⟩
  have D_law_figures : Df P w K mg base 1 "_law_figures" ["_law_word"] spFig := ⟨f_law_figures, _, ok_law_figures F_law_figures T, PySem.W.mg_of X G a_law_figures, k_law_figures, b_law_figures⟩
  have D_law_integer : Df P w K mg base 2 "_law_integer" ["_law_word"] spIntL := ⟨f_law_integer, _, ok_law_integer F_law_integer D_law_figures, PySem.W.mg_of X G a_law_integer, k_law_integer, b_law_integer⟩
  have D_law_next : Df P w K mg base 1 "_law_next" ["_law_reading"] spLn := ⟨f_law_next, _, ok_law_next F_law_next T, PySem.W.mg_of X G a_law_next, k_law_next, b_law_next⟩
  have D_law_take : Df P w K mg base 2 "_law_take" ["_law_reading", "_law_word"] spLt := ⟨f_law_take, _, ok_law_take F_law_take T D_law_next, PySem.W.mg_of X G a_law_take, k_law_take, b_law_take⟩
  have D_law_open : Df P w K mg base 3 "_law_open" ["_law_reading"] spLo := ⟨f_law_open, _, ok_law_open F_law_open T D_law_take, PySem.W.mg_of X G a_law_open, k_law_open, b_law_open⟩
  have D_law_close : Df P w K mg base 3 "_law_close" ["_law_reading"] spLc := ⟨f_law_close, _, ok_law_close F_law_close T D_law_take, PySem.W.mg_of X G a_law_close, k_law_close, b_law_close⟩
  have D_law_count : Df P w K mg base 2 "_law_count" ["_law_reading", "_law_most"] spLk := ⟨f_law_count, _, ok_law_count F_law_count T D_law_next D_law_figures, PySem.W.mg_of X G a_law_count, k_law_count, b_law_count⟩
  have S1 : Lf K mg "_law_sum" s_law_sum ["_law_reading"] := ⟨f_law_sum, _, F_law_sum, PySem.W.mg_of X G a_law_sum, b_law_sum⟩
  have S2 : Lf K mg "_law_product" s_law_product ["_law_reading"] := ⟨f_law_product, _, F_law_product, PySem.W.mg_of X G a_law_product, b_law_product⟩
  have S3 : Lf K mg "_law_factor" s_law_factor ["_law_reading"] := ⟨f_law_factor, _, F_law_factor, PySem.W.mg_of X G a_law_factor, b_law_factor⟩
  have S4 : Lf K mg "_law_choice" s_law_choice ["_law_reading"] := ⟨f_law_choice, _, F_law_choice, PySem.W.mg_of X G a_law_choice, b_law_choice⟩
  have S5 : Lf K mg "_law_atom" s_law_atom ["_law_reading"] := ⟨f_law_atom, _, F_law_atom, PySem.W.mg_of X G a_law_atom, b_law_atom⟩
  have oS := law_sum (P := P) (w := w) (base := base) (S1 := S1) (S2 := S2) (S3 := S3) (S4 := S4) (S5 := S5) T D_law_next D_law_take D_law_open D_law_close D_law_count D_law_integer D_law_is_name 30
  have D_law_sum : Df P w K mg base (5 * 30 + 9) "_law_sum" ["_law_reading"] (spLj .sum 30) := ⟨S1.f, S1.fd, oS, S1.g, S1.F.kp, S1.b⟩
  have D_law_read : Df P w K mg base 160 "_law_read" ["_law_text"] (spLr 30) := ⟨f_law_read, _, ok_law_read (n := 30) F_law_read T D_law_sum, PySem.W.mg_of X G a_law_read, k_law_read, b_law_read⟩
  have D_law_told : Df P w K mg base 162 "_law_told" ["_law_text"] (spTold6 ⟨C_Number, C_Name, C_Add, C_Subtract, C_Multiply, C_Half, C_Over, C_Power, C_Raised, C_Choose⟩ C_Call) := ⟨f_law_told, _, ok_law_told F_law_told ⟨gT, hT, bT, dT, caT, cn, ct, cmT⟩ ⟨gT, hT, bT, dT⟩ naT (PySem.W.mg_of X G a_InvalidText) (PySem.W.exm_ref bT dT tT sTT) oR (PySem.W.mg_of X G a_read_node) k_read_node b_read_node, PySem.W.mg_of X G a_law_told, k_law_told, b_law_told⟩
  have D_law_rows : Df P w K mg base 161 "_law_rows" ["_law_deal_here"] spRows := ⟨f_law_rows, _, ok_law_rows F_law_rows T D_law_draw D_law_words D_law_read, PySem.W.mg_of X G a_law_rows, k_law_rows, b_law_rows⟩
  exact ok_law F_law T EQ D_law_deal D_law_rows D_law_read D_law_told D_law_node
end My

set_option Elab.async false
set_option linter.all false
set_option maxRecDepth 100000
set_option maxHeartbeats 1000000
def PySem.W.Fast.tw10796074713656664693 : Nat := 0
def PySem.W.Fast.tw11713021544488149180 : Nat := 0
def PySem.W.Fast.tw11736760735982394092 : Nat := 0
def PySem.W.Fast.tw13028535692061827761 : Nat := 0
def PySem.W.Fast.tw14023701562760921754 : Nat := 0
def PySem.W.Fast.tw14674604311027933863 : Nat := 0
def PySem.W.Fast.tw159565853242915942 : Nat := 0
def PySem.W.Fast.tw16393823118200310080 : Nat := 0
def PySem.W.Fast.tw16784464169447743059 : Nat := 0
def PySem.W.Fast.tw17713051298280634157 : Nat := 0
def PySem.W.Fast.tw17902923019245936701 : Nat := 0
def PySem.W.Fast.tw3118780111903435575 : Nat := 0
def PySem.W.Fast.tw371963671886356652 : Nat := 0
def PySem.W.Fast.tw5219216409911909402 : Nat := 0
def PySem.W.Fast.tw5708909834795611116 : Nat := 0
def PySem.W.Fast.tw649923100145053289 : Nat := 0
def PySem.W.Fast.tw6606924847054533198 : Nat := 0
def PySem.W.Fast.tw6836874788329050162 : Nat := 0
def PySem.W.Fast.tw7377586468782007505 : Nat := 0
def PySem.W.Fast.tw7646494193661196094 : Nat := 0
def PySem.W.Fast.tw7935448850715416777 : Nat := 0
def PySem.W.Fast.tw8575761350207199140 : Nat := 0
def PySem.W.Fast.tw866022924144697295 : Nat := 0
def PySem.W.Fast.tw8723906641688188882 : Nat := 0
namespace My
open PySem L2 MyR RT
theorem walk {l : PySem.W.OpenLaw} {q : Program} {loose : List Str} {XP : (Str → Option Value) → Heap → Prop} {YP : World → Heap → Prop} {d : DefRec} {K : Params → PySem.W.Frag} (hn : l.most = some 63) (hdf : d.params.defaults = [])
    (hY : ∀ (w : World) (h : Heap), YP w h → (K w.params).In h)
    (F : ∀ (w : World) (mg : Str → Option Value) (fa : Addr) (h : Heap), (K w.params).In h → h.Ns mainGlobals mg → mg d.name = some (.ref fa) →
      ∃ fd : FuncData, (∀ (s : Shared) (u : Value), BindsTo s fd ⟨[u], []⟩ [("_law_script", u)]) ∧ ∀ base : Heap, (K w.params).In base → base.Ns mainGlobals mg → FnOk l.prog w (K w.params) mg base CX0 163 fa fd ["_law_script"] (spLaw (K w.params))) :
    PySem.W.WalkO q loose XP YP l.row.toRowW d [] (fun f vs => PySem.call f vs) :=
  L2.walk_of (n := 63) (k := 163) (x := "_law_script") (CX := fun _ => CX0) (sp := fun w => spLaw (K w.params)) hn (by decide) hdf ⟨rfl, by decide, by decide⟩ hY F (fun _ _ a ns hl _ hS => ⟨a, ns, rfl, hS, hl, fun _ => rfl⟩) fun _ _ _ _ _ z => z
end My
open PySem PySem.W PyProof.Rows
set_option maxRecDepth 100000 in
set_option maxHeartbeats 0 in
theorem PySem.Challenge.cw_lowsure_k06_whole_any_words_of_a_node_holds : PySem.Challenge.rw_lowsure_k06_whole_any_words_of_a_node.Holds := by
  w_on; o_law; k_head; (case hw => w_witness2)
  k_fill
  refine My.walk (l := PySem.Challenge.rw_lowsure_k06_whole_any_words_of_a_node) rfl rfl (fun w h Y => PySem.W.kIn_of Y) ?F
  case F =>
    intro w mg fa h KX G hmg
    refine' My.all_mk KX G hmg ?a_is_integer ?l_is_integer ?c_is_integer ?k_is_integer ?a_is_between ?l_is_between ?c_is_between ?k_is_between ?a_is_small ?l_is_small ?c_is_small ?k_is_small ?a_is_name ?l_is_name ?c_is_name ?k_is_name ?a_flat ?l_flat ?c_flat ?k_flat ?a_outline ?l_outline ?c_outline ?k_outline ?a_digits_value ?l_digits_value ?c_digits_value ?k_digits_value ?a_signed_value ?l_signed_value ?c_signed_value ?k_signed_value ?a_number_value ?l_number_value ?c_number_value ?k_number_value ?a_read_node ?l_read_node ?c_read_node ?k_read_node ?a_law_deal ?l_law_deal ?c_law_deal ?k_law_deal ?a_law_draw ?l_law_draw ?c_law_draw ?k_law_draw ?a_law_mixed ?l_law_mixed ?c_law_mixed ?k_law_mixed ?a_law_any_word ?l_law_any_word ?c_law_any_word ?k_law_any_word ?a_law_words ?l_law_words ?c_law_words ?k_law_words ?a_law_held ?l_law_held ?c_law_held ?k_law_held ?a_law_node ?l_law_node ?c_law_node ?k_law_node ?a_law_is_name ?l_law_is_name ?c_law_is_name ?k_law_is_name ?a_law_figures ?l_law_figures ?c_law_figures ?k_law_figures ?a_law_integer ?l_law_integer ?c_law_integer ?k_law_integer ?a_law_next ?l_law_next ?c_law_next ?k_law_next ?a_law_take ?l_law_take ?c_law_take ?k_law_take ?a_law_open ?l_law_open ?c_law_open ?k_law_open ?a_law_close ?l_law_close ?c_law_close ?k_law_close ?a_law_count ?l_law_count ?c_law_count ?k_law_count ?a_law_sum ?l_law_sum ?c_law_sum ?k_law_sum ?a_law_product ?l_law_product ?c_law_product ?k_law_product ?a_law_factor ?l_law_factor ?c_law_factor ?k_law_factor ?a_law_choice ?l_law_choice ?c_law_choice ?k_law_choice ?a_law_atom ?l_law_atom ?c_law_atom ?k_law_atom ?a_law_read ?l_law_read ?c_law_read ?k_law_read ?a_law_told ?l_law_told ?c_law_told ?k_law_told ?a_law_rows ?l_law_rows ?c_law_rows ?k_law_rows ?a_law ?l_law ?c_law ?k_law ?a_Number ?a_Name ?a_Add ?a_Subtract ?a_Multiply ?a_Half ?a_Over ?a_Power ?a_Raised ?a_Choose ?a_Call ?a_Node ?a_Reader ?a_InvalidText ?m_nodes_Number ?l_Node_nodes ?c_Node_nodes ?k_Node_nodes ?i_Node_nodes ?m_plain_Number ?l_Number_plain ?c_Number_plain ?k_Number_plain ?i_Number_plain ?meq_Number ?l_Node_eq ?c_Node_eq ?k_Node_eq ?i_Node_eq ?minit_Number ?l_Number_init ?c_Number_init ?k_Number_init ?i_Number_init ?m_nodes_Name ?m_plain_Name ?l_Name_plain ?c_Name_plain ?k_Name_plain ?i_Name_plain ?meq_Name ?minit_Name ?l_Name_init ?c_Name_init ?k_Name_init ?i_Name_init ?m_nodes_Add ?l_Pair_nodes ?c_Pair_nodes ?k_Pair_nodes ?i_Pair_nodes ?m_plain_Add ?l_Node_plain ?c_Node_plain ?k_Node_plain ?i_Node_plain ?meq_Add ?minit_Add ?l_Add_init ?c_Add_init ?k_Add_init ?i_Add_init ?m_nodes_Subtract ?m_plain_Subtract ?meq_Subtract ?minit_Subtract ?l_Subtract_init ?c_Subtract_init ?k_Subtract_init ?i_Subtract_init ?m_nodes_Multiply ?m_plain_Multiply ?meq_Multiply ?minit_Multiply ?l_Multiply_init ?c_Multiply_init ?k_Multiply_init ?i_Multiply_init ?m_nodes_Half ?l_Half_nodes ?c_Half_nodes ?k_Half_nodes ?i_Half_nodes ?m_plain_Half ?meq_Half ?minit_Half ?l_Half_init ?c_Half_init ?k_Half_init ?i_Half_init ?m_nodes_Over ?l_Over_nodes ?c_Over_nodes ?k_Over_nodes ?i_Over_nodes ?m_plain_Over ?meq_Over ?minit_Over ?l_Over_init ?c_Over_init ?k_Over_init ?i_Over_init ?m_nodes_Power ?l_Power_nodes ?c_Power_nodes ?k_Power_nodes ?i_Power_nodes ?m_plain_Power ?l_Power_plain ?c_Power_plain ?k_Power_plain ?i_Power_plain ?meq_Power ?minit_Power ?l_Power_init ?c_Power_init ?k_Power_init ?i_Power_init ?m_nodes_Raised ?l_Raised_nodes ?c_Raised_nodes ?k_Raised_nodes ?i_Raised_nodes ?m_plain_Raised ?meq_Raised ?minit_Raised ?l_Raised_init ?c_Raised_init ?k_Raised_init ?i_Raised_init ?m_nodes_Choose ?l_Choose_nodes ?c_Choose_nodes ?k_Choose_nodes ?i_Choose_nodes ?m_plain_Choose ?l_Choose_plain ?c_Choose_plain ?k_Choose_plain ?i_Choose_plain ?meq_Choose ?minit_Choose ?l_Choose_init ?c_Choose_init ?k_Choose_init ?i_Choose_init ?m_nodes_Call ?l_Call_nodes ?c_Call_nodes ?k_Call_nodes ?i_Call_nodes ?m_plain_Call ?l_Call_plain ?c_Call_plain ?k_Call_plain ?i_Call_plain ?meq_Call ?minit_Call ?l_Call_init ?c_Call_init ?k_Call_init ?i_Call_init ?m_Reader_here ?l_Reader_here ?c_Reader_here ?k_Reader_here ?i_Reader_here ?m_Reader_took ?l_Reader_took ?c_Reader_took ?k_Reader_took ?i_Reader_took ?m_Reader_need ?l_Reader_need ?c_Reader_need ?k_Reader_need ?i_Reader_need ?m_Reader_need_number ?l_Reader_need_number ?c_Reader_need_number ?k_Reader_need_number ?i_Reader_need_number ?m_Reader_need_open ?l_Reader_need_open ?c_Reader_need_open ?k_Reader_need_open ?i_Reader_need_open ?m_Reader_need_close ?l_Reader_need_close ?c_Reader_need_close ?k_Reader_need_close ?i_Reader_need_close ?m_Reader_whole ?l_Reader_whole ?c_Reader_whole ?k_Reader_whole ?i_Reader_whole ?m_Reader_product ?l_Reader_product ?c_Reader_product ?k_Reader_product ?i_Reader_product ?m_Reader_tight ?l_Reader_tight ?c_Reader_tight ?k_Reader_tight ?i_Reader_tight ?m_Reader_step ?l_Reader_step ?c_Reader_step ?k_Reader_step ?i_Reader_step ?m_Reader_plain ?l_Reader_plain ?c_Reader_plain ?k_Reader_plain ?i_Reader_plain ?m_Reader_called ?l_Reader_called ?c_Reader_called ?k_Reader_called ?i_Reader_called ?m_Reader_enclosed ?l_Reader_enclosed ?c_Reader_enclosed ?k_Reader_enclosed ?i_Reader_enclosed ?m_Reader_chosen ?l_Reader_chosen ?c_Reader_chosen ?k_Reader_chosen ?i_Reader_chosen ?m_Reader_init ?l_Reader_init ?c_Reader_init ?k_Reader_init ?i_Reader_init ?m_InvalidText_init ?l_InvalidText_init ?c_InvalidText_init ?k_InvalidText_init ?y_InvalidText_init ?pg_Number ?hd_Number ?po_Number ?sa_Number ?mk_Number ?kc_Number ?n_Number_value ?pg_Name ?hd_Name ?po_Name ?sa_Name ?mk_Name ?kc_Name ?n_Name_name ?pg_Add ?hd_Add ?po_Add ?sa_Add ?mk_Add ?kc_Add ?n_Add_one ?n_Add_other ?pg_Subtract ?hd_Subtract ?po_Subtract ?sa_Subtract ?mk_Subtract ?kc_Subtract ?n_Subtract_one ?n_Subtract_other ?pg_Multiply ?hd_Multiply ?po_Multiply ?sa_Multiply ?mk_Multiply ?kc_Multiply ?n_Multiply_one ?n_Multiply_other ?pg_Half ?hd_Half ?po_Half ?sa_Half ?mk_Half ?kc_Half ?n_Half_inner ?pg_Over ?hd_Over ?po_Over ?sa_Over ?mk_Over ?kc_Over ?n_Over_top ?n_Over_bottom ?pg_Power ?hd_Power ?po_Power ?sa_Power ?mk_Power ?kc_Power ?n_Power_base ?n_Power_times ?pg_Raised ?hd_Raised ?po_Raised ?sa_Raised ?mk_Raised ?kc_Raised ?n_Raised_base ?n_Raised_exponent ?pg_Choose ?hd_Choose ?po_Choose ?sa_Choose ?mk_Choose ?kc_Choose ?n_Choose_tested ?n_Choose_modulus ?n_Choose_rest ?n_Choose_yes ?n_Choose_no ?pg_Call ?hd_Call ?po_Call ?sa_Call ?mk_Call ?kc_Call ?n_Call_name ?n_Call_arguments ?pg_Reader ?hd_Reader ?po_Reader ?sa_Reader ?mk_Reader ?kc_Reader ?n_Reader_words ?n_Reader_at ?n_Reader_depth ?ca_Number ?cm_Number ?ty_Number ?rd_Number ?fc_Number ?lk_Number ?nz_Number ?ne_Number ?sb_Number ?ca_Name ?cm_Name ?ty_Name ?rd_Name ?fc_Name ?lk_Name ?nz_Name ?ne_Name ?sb_Name ?ca_Add ?cm_Add ?ty_Add ?rd_Add ?fc_Add ?lk_Add ?nz_Add ?ne_Add ?sb_Add ?ca_Subtract ?cm_Subtract ?ty_Subtract ?rd_Subtract ?fc_Subtract ?lk_Subtract ?nz_Subtract ?ne_Subtract ?sb_Subtract ?ca_Multiply ?cm_Multiply ?ty_Multiply ?rd_Multiply ?fc_Multiply ?lk_Multiply ?nz_Multiply ?ne_Multiply ?sb_Multiply ?ca_Half ?cm_Half ?ty_Half ?rd_Half ?fc_Half ?lk_Half ?nz_Half ?ne_Half ?sb_Half ?ca_Over ?cm_Over ?ty_Over ?rd_Over ?fc_Over ?lk_Over ?nz_Over ?ne_Over ?sb_Over ?ca_Power ?cm_Power ?ty_Power ?rd_Power ?fc_Power ?lk_Power ?nz_Power ?ne_Power ?sb_Power ?ca_Raised ?cm_Raised ?ty_Raised ?rd_Raised ?fc_Raised ?lk_Raised ?nz_Raised ?ne_Raised ?sb_Raised ?ca_Choose ?cm_Choose ?ty_Choose ?rd_Choose ?fc_Choose ?lk_Choose ?nz_Choose ?ne_Choose ?sb_Choose ?ca_Call ?cm_Call ?ty_Call ?rd_Call ?fc_Call ?lk_Call ?nz_Call ?ne_Call ?sb_Call ?ss_Number_Name ?ss_Number_Add ?ss_Number_Subtract ?ss_Number_Multiply ?ss_Number_Half ?ss_Number_Over ?ss_Number_Power ?ss_Number_Raised ?ss_Number_Choose ?ss_Number_Call ?ss_Name_Number ?ss_Name_Add ?ss_Name_Subtract ?ss_Name_Multiply ?ss_Name_Half ?ss_Name_Over ?ss_Name_Power ?ss_Name_Raised ?ss_Name_Choose ?ss_Name_Call ?ss_Add_Number ?ss_Add_Name ?ss_Add_Subtract ?ss_Add_Multiply ?ss_Add_Half ?ss_Add_Over ?ss_Add_Power ?ss_Add_Raised ?ss_Add_Choose ?ss_Add_Call ?ss_Subtract_Number ?ss_Subtract_Name ?ss_Subtract_Add ?ss_Subtract_Multiply ?ss_Subtract_Half ?ss_Subtract_Over ?ss_Subtract_Power ?ss_Subtract_Raised ?ss_Subtract_Choose ?ss_Subtract_Call ?ss_Multiply_Number ?ss_Multiply_Name ?ss_Multiply_Add ?ss_Multiply_Subtract ?ss_Multiply_Half ?ss_Multiply_Over ?ss_Multiply_Power ?ss_Multiply_Raised ?ss_Multiply_Choose ?ss_Multiply_Call ?ss_Half_Number ?ss_Half_Name ?ss_Half_Add ?ss_Half_Subtract ?ss_Half_Multiply ?ss_Half_Over ?ss_Half_Power ?ss_Half_Raised ?ss_Half_Choose ?ss_Half_Call ?ss_Over_Number ?ss_Over_Name ?ss_Over_Add ?ss_Over_Subtract ?ss_Over_Multiply ?ss_Over_Half ?ss_Over_Power ?ss_Over_Raised ?ss_Over_Choose ?ss_Over_Call ?ss_Power_Number ?ss_Power_Name ?ss_Power_Add ?ss_Power_Subtract ?ss_Power_Multiply ?ss_Power_Half ?ss_Power_Over ?ss_Power_Raised ?ss_Power_Choose ?ss_Power_Call ?ss_Raised_Number ?ss_Raised_Name ?ss_Raised_Add ?ss_Raised_Subtract ?ss_Raised_Multiply ?ss_Raised_Half ?ss_Raised_Over ?ss_Raised_Power ?ss_Raised_Choose ?ss_Raised_Call ?ss_Choose_Number ?ss_Choose_Name ?ss_Choose_Add ?ss_Choose_Subtract ?ss_Choose_Multiply ?ss_Choose_Half ?ss_Choose_Over ?ss_Choose_Power ?ss_Choose_Raised ?ss_Choose_Call ?ss_Call_Number ?ss_Call_Name ?ss_Call_Add ?ss_Call_Subtract ?ss_Call_Multiply ?ss_Call_Half ?ss_Call_Over ?ss_Call_Power ?ss_Call_Raised ?ss_Call_Choose ?cn ?ct ?cls_Node ?ty_Node ?xLT ?saT ?gT ?hT ?dT ?caT ?cmT ?sTT ?kT ?bT ?tT ?naT ?gl_LIMIT ?gl_LONG ?gl_TIMES ?gl_DIGITS ?gl_OPEN ?gl_WORDS ?gl_MODULI ?lW ?lM ?sW ?sM ?zW ?zM ?z_len ?z_max ?z_list ?z_tuple ?z_reversed ?z_range ?z_int ?z_str ?z_bool ?z_isinstance ?z_all ?z_enumerate ?z_zip
    (case a_is_integer => k_is)
    (case l_is_integer => k_is)
    (case c_is_integer => k_is)
    (case k_is_integer => k_is)
    (case a_is_between => k_is)
    (case l_is_between => k_is)
    (case c_is_between => k_is)
    (case k_is_between => k_is)
    (case a_is_small => k_is)
    (case l_is_small => k_is)
    (case c_is_small => k_is)
    (case k_is_small => k_is)
    (case a_is_name => k_is)
    (case l_is_name => k_is)
    (case c_is_name => k_is)
    (case k_is_name => k_is)
    (case a_flat => k_is)
    (case l_flat => k_is)
    (case c_flat => k_is)
    (case k_flat => k_is)
    (case a_outline => k_is)
    (case l_outline => k_is)
    (case c_outline => k_is)
    (case k_outline => k_is)
    (case a_digits_value => k_is)
    (case l_digits_value => k_is)
    (case c_digits_value => k_is)
    (case k_digits_value => k_is)
    (case a_signed_value => k_is)
    (case l_signed_value => k_is)
    (case c_signed_value => k_is)
    (case k_signed_value => k_is)
    (case a_number_value => k_is)
    (case l_number_value => k_is)
    (case c_number_value => k_is)
    (case k_number_value => k_is)
    (case a_read_node => k_is)
    (case l_read_node => k_is)
    (case c_read_node => k_is)
    (case k_read_node => k_is)
    (case a_law_deal => k_is)
    (case l_law_deal => k_is)
    (case c_law_deal => k_is)
    (case k_law_deal => k_is)
    (case a_law_draw => k_is)
    (case l_law_draw => k_is)
    (case c_law_draw => k_is)
    (case k_law_draw => k_is)
    (case a_law_mixed => k_is)
    (case l_law_mixed => k_is)
    (case c_law_mixed => k_is)
    (case k_law_mixed => k_is)
    (case a_law_any_word => k_is)
    (case l_law_any_word => k_is)
    (case c_law_any_word => k_is)
    (case k_law_any_word => k_is)
    (case a_law_words => k_is)
    (case l_law_words => k_is)
    (case c_law_words => k_is)
    (case k_law_words => k_is)
    (case a_law_held => k_is)
    (case l_law_held => k_is)
    (case c_law_held => k_is)
    (case k_law_held => k_is)
    (case a_law_node => k_is)
    (case l_law_node => k_is)
    (case c_law_node => k_is)
    (case k_law_node => k_is)
    (case a_law_is_name => k_is)
    (case l_law_is_name => k_is)
    (case c_law_is_name => k_is)
    (case k_law_is_name => k_is)
    (case a_law_figures => k_is)
    (case l_law_figures => k_is)
    (case c_law_figures => k_is)
    (case k_law_figures => k_is)
    (case a_law_integer => k_is)
    (case l_law_integer => k_is)
    (case c_law_integer => k_is)
    (case k_law_integer => k_is)
    (case a_law_next => k_is)
    (case l_law_next => k_is)
    (case c_law_next => k_is)
    (case k_law_next => k_is)
    (case a_law_take => k_is)
    (case l_law_take => k_is)
    (case c_law_take => k_is)
    (case k_law_take => k_is)
    (case a_law_open => k_is)
    (case l_law_open => k_is)
    (case c_law_open => k_is)
    (case k_law_open => k_is)
    (case a_law_close => k_is)
    (case l_law_close => k_is)
    (case c_law_close => k_is)
    (case k_law_close => k_is)
    (case a_law_count => k_is)
    (case l_law_count => k_is)
    (case c_law_count => k_is)
    (case k_law_count => k_is)
    (case a_law_sum => k_is)
    (case l_law_sum => k_is)
    (case c_law_sum => k_is)
    (case k_law_sum => k_is)
    (case a_law_product => k_is)
    (case l_law_product => k_is)
    (case c_law_product => k_is)
    (case k_law_product => k_is)
    (case a_law_factor => k_is)
    (case l_law_factor => k_is)
    (case c_law_factor => k_is)
    (case k_law_factor => k_is)
    (case a_law_choice => k_is)
    (case l_law_choice => k_is)
    (case c_law_choice => k_is)
    (case k_law_choice => k_is)
    (case a_law_atom => k_is)
    (case l_law_atom => k_is)
    (case c_law_atom => k_is)
    (case k_law_atom => k_is)
    (case a_law_read => k_is)
    (case l_law_read => k_is)
    (case c_law_read => k_is)
    (case k_law_read => k_is)
    (case a_law_told => k_is)
    (case l_law_told => k_is)
    (case c_law_told => k_is)
    (case k_law_told => k_is)
    (case a_law_rows => k_is)
    (case l_law_rows => k_is)
    (case c_law_rows => k_is)
    (case k_law_rows => k_is)
    (case a_law => k_is)
    (case l_law => k_is)
    (case c_law => k_is)
    (case k_law => k_is)
    (case a_Number => k_is)
    (case a_Name => k_is)
    (case a_Add => k_is)
    (case a_Subtract => k_is)
    (case a_Multiply => k_is)
    (case a_Half => k_is)
    (case a_Over => k_is)
    (case a_Power => k_is)
    (case a_Raised => k_is)
    (case a_Choose => k_is)
    (case a_Call => k_is)
    (case a_Node => k_is)
    (case a_Reader => k_is)
    (case a_InvalidText => k_is)
    (case m_nodes_Number => k_is)
    (case l_Node_nodes => k_is)
    (case c_Node_nodes => k_is)
    (case k_Node_nodes => k_is)
    (case i_Node_nodes => k_is)
    (case m_plain_Number => k_is)
    (case l_Number_plain => k_is)
    (case c_Number_plain => k_is)
    (case k_Number_plain => k_is)
    (case i_Number_plain => k_is)
    (case meq_Number => k_is)
    (case l_Node_eq => k_is)
    (case c_Node_eq => k_is)
    (case k_Node_eq => k_is)
    (case i_Node_eq => k_is)
    (case minit_Number => k_is)
    (case l_Number_init => k_is)
    (case c_Number_init => k_is)
    (case k_Number_init => k_is)
    (case i_Number_init => k_is)
    (case m_nodes_Name => k_is)
    (case m_plain_Name => k_is)
    (case l_Name_plain => k_is)
    (case c_Name_plain => k_is)
    (case k_Name_plain => k_is)
    (case i_Name_plain => k_is)
    (case meq_Name => k_is)
    (case minit_Name => k_is)
    (case l_Name_init => k_is)
    (case c_Name_init => k_is)
    (case k_Name_init => k_is)
    (case i_Name_init => k_is)
    (case m_nodes_Add => k_is)
    (case l_Pair_nodes => k_is)
    (case c_Pair_nodes => k_is)
    (case k_Pair_nodes => k_is)
    (case i_Pair_nodes => k_is)
    (case m_plain_Add => k_is)
    (case l_Node_plain => k_is)
    (case c_Node_plain => k_is)
    (case k_Node_plain => k_is)
    (case i_Node_plain => k_is)
    (case meq_Add => k_is)
    (case minit_Add => k_is)
    (case l_Add_init => k_is)
    (case c_Add_init => k_is)
    (case k_Add_init => k_is)
    (case i_Add_init => k_is)
    (case m_nodes_Subtract => k_is)
    (case m_plain_Subtract => k_is)
    (case meq_Subtract => k_is)
    (case minit_Subtract => k_is)
    (case l_Subtract_init => k_is)
    (case c_Subtract_init => k_is)
    (case k_Subtract_init => k_is)
    (case i_Subtract_init => k_is)
    (case m_nodes_Multiply => k_is)
    (case m_plain_Multiply => k_is)
    (case meq_Multiply => k_is)
    (case minit_Multiply => k_is)
    (case l_Multiply_init => k_is)
    (case c_Multiply_init => k_is)
    (case k_Multiply_init => k_is)
    (case i_Multiply_init => k_is)
    (case m_nodes_Half => k_is)
    (case l_Half_nodes => k_is)
    (case c_Half_nodes => k_is)
    (case k_Half_nodes => k_is)
    (case i_Half_nodes => k_is)
    (case m_plain_Half => k_is)
    (case meq_Half => k_is)
    (case minit_Half => k_is)
    (case l_Half_init => k_is)
    (case c_Half_init => k_is)
    (case k_Half_init => k_is)
    (case i_Half_init => k_is)
    (case m_nodes_Over => k_is)
    (case l_Over_nodes => k_is)
    (case c_Over_nodes => k_is)
    (case k_Over_nodes => k_is)
    (case i_Over_nodes => k_is)
    (case m_plain_Over => k_is)
    (case meq_Over => k_is)
    (case minit_Over => k_is)
    (case l_Over_init => k_is)
    (case c_Over_init => k_is)
    (case k_Over_init => k_is)
    (case i_Over_init => k_is)
    (case m_nodes_Power => k_is)
    (case l_Power_nodes => k_is)
    (case c_Power_nodes => k_is)
    (case k_Power_nodes => k_is)
    (case i_Power_nodes => k_is)
    (case m_plain_Power => k_is)
    (case l_Power_plain => k_is)
    (case c_Power_plain => k_is)
    (case k_Power_plain => k_is)
    (case i_Power_plain => k_is)
    (case meq_Power => k_is)
    (case minit_Power => k_is)
    (case l_Power_init => k_is)
    (case c_Power_init => k_is)
    (case k_Power_init => k_is)
    (case i_Power_init => k_is)
    (case m_nodes_Raised => k_is)
    (case l_Raised_nodes => k_is)
    (case c_Raised_nodes => k_is)
    (case k_Raised_nodes => k_is)
    (case i_Raised_nodes => k_is)
    (case m_plain_Raised => k_is)
    (case meq_Raised => k_is)
    (case minit_Raised => k_is)
    (case l_Raised_init => k_is)
    (case c_Raised_init => k_is)
    (case k_Raised_init => k_is)
    (case i_Raised_init => k_is)
    (case m_nodes_Choose => k_is)
    (case l_Choose_nodes => k_is)
    (case c_Choose_nodes => k_is)
    (case k_Choose_nodes => k_is)
    (case i_Choose_nodes => k_is)
    (case m_plain_Choose => k_is)
    (case l_Choose_plain => k_is)
    (case c_Choose_plain => k_is)
    (case k_Choose_plain => k_is)
    (case i_Choose_plain => k_is)
    (case meq_Choose => k_is)
    (case minit_Choose => k_is)
    (case l_Choose_init => k_is)
    (case c_Choose_init => k_is)
    (case k_Choose_init => k_is)
    (case i_Choose_init => k_is)
    (case m_nodes_Call => k_is)
    (case l_Call_nodes => k_is)
    (case c_Call_nodes => k_is)
    (case k_Call_nodes => k_is)
    (case i_Call_nodes => k_is)
    (case m_plain_Call => k_is)
    (case l_Call_plain => k_is)
    (case c_Call_plain => k_is)
    (case k_Call_plain => k_is)
    (case i_Call_plain => k_is)
    (case meq_Call => k_is)
    (case minit_Call => k_is)
    (case l_Call_init => k_is)
    (case c_Call_init => k_is)
    (case k_Call_init => k_is)
    (case i_Call_init => k_is)
    (case m_Reader_here => k_is)
    (case l_Reader_here => k_is)
    (case c_Reader_here => k_is)
    (case k_Reader_here => k_is)
    (case i_Reader_here => k_is)
    (case m_Reader_took => k_is)
    (case l_Reader_took => k_is)
    (case c_Reader_took => k_is)
    (case k_Reader_took => k_is)
    (case i_Reader_took => k_is)
    (case m_Reader_need => k_is)
    (case l_Reader_need => k_is)
    (case c_Reader_need => k_is)
    (case k_Reader_need => k_is)
    (case i_Reader_need => k_is)
    (case m_Reader_need_number => k_is)
    (case l_Reader_need_number => k_is)
    (case c_Reader_need_number => k_is)
    (case k_Reader_need_number => k_is)
    (case i_Reader_need_number => k_is)
    (case m_Reader_need_open => k_is)
    (case l_Reader_need_open => k_is)
    (case c_Reader_need_open => k_is)
    (case k_Reader_need_open => k_is)
    (case i_Reader_need_open => k_is)
    (case m_Reader_need_close => k_is)
    (case l_Reader_need_close => k_is)
    (case c_Reader_need_close => k_is)
    (case k_Reader_need_close => k_is)
    (case i_Reader_need_close => k_is)
    (case m_Reader_whole => k_is)
    (case l_Reader_whole => k_is)
    (case c_Reader_whole => k_is)
    (case k_Reader_whole => k_is)
    (case i_Reader_whole => k_is)
    (case m_Reader_product => k_is)
    (case l_Reader_product => k_is)
    (case c_Reader_product => k_is)
    (case k_Reader_product => k_is)
    (case i_Reader_product => k_is)
    (case m_Reader_tight => k_is)
    (case l_Reader_tight => k_is)
    (case c_Reader_tight => k_is)
    (case k_Reader_tight => k_is)
    (case i_Reader_tight => k_is)
    (case m_Reader_step => k_is)
    (case l_Reader_step => k_is)
    (case c_Reader_step => k_is)
    (case k_Reader_step => k_is)
    (case i_Reader_step => k_is)
    (case m_Reader_plain => k_is)
    (case l_Reader_plain => k_is)
    (case c_Reader_plain => k_is)
    (case k_Reader_plain => k_is)
    (case i_Reader_plain => k_is)
    (case m_Reader_called => k_is)
    (case l_Reader_called => k_is)
    (case c_Reader_called => k_is)
    (case k_Reader_called => k_is)
    (case i_Reader_called => k_is)
    (case m_Reader_enclosed => k_is)
    (case l_Reader_enclosed => k_is)
    (case c_Reader_enclosed => k_is)
    (case k_Reader_enclosed => k_is)
    (case i_Reader_enclosed => k_is)
    (case m_Reader_chosen => k_is)
    (case l_Reader_chosen => k_is)
    (case c_Reader_chosen => k_is)
    (case k_Reader_chosen => k_is)
    (case i_Reader_chosen => k_is)
    (case m_Reader_init => k_is)
    (case l_Reader_init => k_is)
    (case c_Reader_init => k_is)
    (case k_Reader_init => k_is)
    (case i_Reader_init => k_is)
    (case m_InvalidText_init => k_is)
    (case l_InvalidText_init => k_is)
    (case c_InvalidText_init => k_is)
    (case k_InvalidText_init => k_is)
    (case y_InvalidText_init => k_is)
    (case pg_Number => k_is)
    (case hd_Number => k_is)
    (case po_Number => k_is)
    (case sa_Number => k_is)
    (case mk_Number => k_is)
    (case kc_Number => k_is)
    (case n_Number_value => k_is)
    (case pg_Name => k_is)
    (case hd_Name => k_is)
    (case po_Name => k_is)
    (case sa_Name => k_is)
    (case mk_Name => k_is)
    (case kc_Name => k_is)
    (case n_Name_name => k_is)
    (case pg_Add => k_is)
    (case hd_Add => k_is)
    (case po_Add => k_is)
    (case sa_Add => k_is)
    (case mk_Add => k_is)
    (case kc_Add => k_is)
    (case n_Add_one => k_is)
    (case n_Add_other => k_is)
    (case pg_Subtract => k_is)
    (case hd_Subtract => k_is)
    (case po_Subtract => k_is)
    (case sa_Subtract => k_is)
    (case mk_Subtract => k_is)
    (case kc_Subtract => k_is)
    (case n_Subtract_one => k_is)
    (case n_Subtract_other => k_is)
    (case pg_Multiply => k_is)
    (case hd_Multiply => k_is)
    (case po_Multiply => k_is)
    (case sa_Multiply => k_is)
    (case mk_Multiply => k_is)
    (case kc_Multiply => k_is)
    (case n_Multiply_one => k_is)
    (case n_Multiply_other => k_is)
    (case pg_Half => k_is)
    (case hd_Half => k_is)
    (case po_Half => k_is)
    (case sa_Half => k_is)
    (case mk_Half => k_is)
    (case kc_Half => k_is)
    (case n_Half_inner => k_is)
    (case pg_Over => k_is)
    (case hd_Over => k_is)
    (case po_Over => k_is)
    (case sa_Over => k_is)
    (case mk_Over => k_is)
    (case kc_Over => k_is)
    (case n_Over_top => k_is)
    (case n_Over_bottom => k_is)
    (case pg_Power => k_is)
    (case hd_Power => k_is)
    (case po_Power => k_is)
    (case sa_Power => k_is)
    (case mk_Power => k_is)
    (case kc_Power => k_is)
    (case n_Power_base => k_is)
    (case n_Power_times => k_is)
    (case pg_Raised => k_is)
    (case hd_Raised => k_is)
    (case po_Raised => k_is)
    (case sa_Raised => k_is)
    (case mk_Raised => k_is)
    (case kc_Raised => k_is)
    (case n_Raised_base => k_is)
    (case n_Raised_exponent => k_is)
    (case pg_Choose => k_is)
    (case hd_Choose => k_is)
    (case po_Choose => k_is)
    (case sa_Choose => k_is)
    (case mk_Choose => k_is)
    (case kc_Choose => k_is)
    (case n_Choose_tested => k_is)
    (case n_Choose_modulus => k_is)
    (case n_Choose_rest => k_is)
    (case n_Choose_yes => k_is)
    (case n_Choose_no => k_is)
    (case pg_Call => k_is)
    (case hd_Call => k_is)
    (case po_Call => k_is)
    (case sa_Call => k_is)
    (case mk_Call => k_is)
    (case kc_Call => k_is)
    (case n_Call_name => k_is)
    (case n_Call_arguments => k_is)
    (case pg_Reader => k_is)
    (case hd_Reader => k_is)
    (case po_Reader => k_is)
    (case sa_Reader => k_is)
    (case mk_Reader => k_is)
    (case kc_Reader => k_is)
    (case n_Reader_words => k_is)
    (case n_Reader_at => k_is)
    (case n_Reader_depth => k_is)
    (case ca_Number => k_is)
    (case cm_Number => k_is)
    (case ty_Number => k_is)
    (case rd_Number => k_is)
    (case fc_Number => k_is)
    (case lk_Number => k_is)
    (case nz_Number => exact rfl)
    (case ne_Number => k_is)
    (case sb_Number => k_is)
    (case ca_Name => k_is)
    (case cm_Name => k_is)
    (case ty_Name => k_is)
    (case rd_Name => k_is)
    (case fc_Name => k_is)
    (case lk_Name => k_is)
    (case nz_Name => exact rfl)
    (case ne_Name => k_is)
    (case sb_Name => k_is)
    (case ca_Add => k_is)
    (case cm_Add => k_is)
    (case ty_Add => k_is)
    (case rd_Add => k_is)
    (case fc_Add => k_is)
    (case lk_Add => k_is)
    (case nz_Add => exact rfl)
    (case ne_Add => k_is)
    (case sb_Add => k_is)
    (case ca_Subtract => k_is)
    (case cm_Subtract => k_is)
    (case ty_Subtract => k_is)
    (case rd_Subtract => k_is)
    (case fc_Subtract => k_is)
    (case lk_Subtract => k_is)
    (case nz_Subtract => exact rfl)
    (case ne_Subtract => k_is)
    (case sb_Subtract => k_is)
    (case ca_Multiply => k_is)
    (case cm_Multiply => k_is)
    (case ty_Multiply => k_is)
    (case rd_Multiply => k_is)
    (case fc_Multiply => k_is)
    (case lk_Multiply => k_is)
    (case nz_Multiply => exact rfl)
    (case ne_Multiply => k_is)
    (case sb_Multiply => k_is)
    (case ca_Half => k_is)
    (case cm_Half => k_is)
    (case ty_Half => k_is)
    (case rd_Half => k_is)
    (case fc_Half => k_is)
    (case lk_Half => k_is)
    (case nz_Half => exact rfl)
    (case ne_Half => k_is)
    (case sb_Half => k_is)
    (case ca_Over => k_is)
    (case cm_Over => k_is)
    (case ty_Over => k_is)
    (case rd_Over => k_is)
    (case fc_Over => k_is)
    (case lk_Over => k_is)
    (case nz_Over => exact rfl)
    (case ne_Over => k_is)
    (case sb_Over => k_is)
    (case ca_Power => k_is)
    (case cm_Power => k_is)
    (case ty_Power => k_is)
    (case rd_Power => k_is)
    (case fc_Power => k_is)
    (case lk_Power => k_is)
    (case nz_Power => exact rfl)
    (case ne_Power => k_is)
    (case sb_Power => k_is)
    (case ca_Raised => k_is)
    (case cm_Raised => k_is)
    (case ty_Raised => k_is)
    (case rd_Raised => k_is)
    (case fc_Raised => k_is)
    (case lk_Raised => k_is)
    (case nz_Raised => exact rfl)
    (case ne_Raised => k_is)
    (case sb_Raised => k_is)
    (case ca_Choose => k_is)
    (case cm_Choose => k_is)
    (case ty_Choose => k_is)
    (case rd_Choose => k_is)
    (case fc_Choose => k_is)
    (case lk_Choose => k_is)
    (case nz_Choose => exact rfl)
    (case ne_Choose => k_is)
    (case sb_Choose => k_is)
    (case ca_Call => k_is)
    (case cm_Call => k_is)
    (case ty_Call => k_is)
    (case rd_Call => k_is)
    (case fc_Call => k_is)
    (case lk_Call => k_is)
    (case nz_Call => exact rfl)
    (case ne_Call => k_is)
    (case sb_Call => k_is)
    (case ss_Number_Name => k_is)
    (case ss_Number_Add => k_is)
    (case ss_Number_Subtract => k_is)
    (case ss_Number_Multiply => k_is)
    (case ss_Number_Half => k_is)
    (case ss_Number_Over => k_is)
    (case ss_Number_Power => k_is)
    (case ss_Number_Raised => k_is)
    (case ss_Number_Choose => k_is)
    (case ss_Number_Call => k_is)
    (case ss_Name_Number => k_is)
    (case ss_Name_Add => k_is)
    (case ss_Name_Subtract => k_is)
    (case ss_Name_Multiply => k_is)
    (case ss_Name_Half => k_is)
    (case ss_Name_Over => k_is)
    (case ss_Name_Power => k_is)
    (case ss_Name_Raised => k_is)
    (case ss_Name_Choose => k_is)
    (case ss_Name_Call => k_is)
    (case ss_Add_Number => k_is)
    (case ss_Add_Name => k_is)
    (case ss_Add_Subtract => k_is)
    (case ss_Add_Multiply => k_is)
    (case ss_Add_Half => k_is)
    (case ss_Add_Over => k_is)
    (case ss_Add_Power => k_is)
    (case ss_Add_Raised => k_is)
    (case ss_Add_Choose => k_is)
    (case ss_Add_Call => k_is)
    (case ss_Subtract_Number => k_is)
    (case ss_Subtract_Name => k_is)
    (case ss_Subtract_Add => k_is)
    (case ss_Subtract_Multiply => k_is)
    (case ss_Subtract_Half => k_is)
    (case ss_Subtract_Over => k_is)
    (case ss_Subtract_Power => k_is)
    (case ss_Subtract_Raised => k_is)
    (case ss_Subtract_Choose => k_is)
    (case ss_Subtract_Call => k_is)
    (case ss_Multiply_Number => k_is)
    (case ss_Multiply_Name => k_is)
    (case ss_Multiply_Add => k_is)
    (case ss_Multiply_Subtract => k_is)
    (case ss_Multiply_Half => k_is)
    (case ss_Multiply_Over => k_is)
    (case ss_Multiply_Power => k_is)
    (case ss_Multiply_Raised => k_is)
    (case ss_Multiply_Choose => k_is)
    (case ss_Multiply_Call => k_is)
    (case ss_Half_Number => k_is)
    (case ss_Half_Name => k_is)
    (case ss_Half_Add => k_is)
    (case ss_Half_Subtract => k_is)
    (case ss_Half_Multiply => k_is)
    (case ss_Half_Over => k_is)
    (case ss_Half_Power => k_is)
    (case ss_Half_Raised => k_is)
    (case ss_Half_Choose => k_is)
    (case ss_Half_Call => k_is)
    (case ss_Over_Number => k_is)
    (case ss_Over_Name => k_is)
    (case ss_Over_Add => k_is)
    (case ss_Over_Subtract => k_is)
    (case ss_Over_Multiply => k_is)
    (case ss_Over_Half => k_is)
    (case ss_Over_Power => k_is)
    (case ss_Over_Raised => k_is)
    (case ss_Over_Choose => k_is)
    (case ss_Over_Call => k_is)
    (case ss_Power_Number => k_is)
    (case ss_Power_Name => k_is)
    (case ss_Power_Add => k_is)
    (case ss_Power_Subtract => k_is)
    (case ss_Power_Multiply => k_is)
    (case ss_Power_Half => k_is)
    (case ss_Power_Over => k_is)
    (case ss_Power_Raised => k_is)
    (case ss_Power_Choose => k_is)
    (case ss_Power_Call => k_is)
    (case ss_Raised_Number => k_is)
    (case ss_Raised_Name => k_is)
    (case ss_Raised_Add => k_is)
    (case ss_Raised_Subtract => k_is)
    (case ss_Raised_Multiply => k_is)
    (case ss_Raised_Half => k_is)
    (case ss_Raised_Over => k_is)
    (case ss_Raised_Power => k_is)
    (case ss_Raised_Choose => k_is)
    (case ss_Raised_Call => k_is)
    (case ss_Choose_Number => k_is)
    (case ss_Choose_Name => k_is)
    (case ss_Choose_Add => k_is)
    (case ss_Choose_Subtract => k_is)
    (case ss_Choose_Multiply => k_is)
    (case ss_Choose_Half => k_is)
    (case ss_Choose_Over => k_is)
    (case ss_Choose_Power => k_is)
    (case ss_Choose_Raised => k_is)
    (case ss_Choose_Call => k_is)
    (case ss_Call_Number => k_is)
    (case ss_Call_Name => k_is)
    (case ss_Call_Add => k_is)
    (case ss_Call_Subtract => k_is)
    (case ss_Call_Multiply => k_is)
    (case ss_Call_Half => k_is)
    (case ss_Call_Over => k_is)
    (case ss_Call_Power => k_is)
    (case ss_Call_Raised => k_is)
    (case ss_Call_Choose => k_is)
    (case cn => k_is)
    (case ct => k_is)
    (case cls_Node => k_is)
    (case ty_Node => k_is)
    (case xLT => k_is)
    (case saT => k_is)
    (case gT => k_is)
    (case hT => k_is)
    (case dT => k_is)
    (case caT => k_is)
    (case cmT => k_is)
    (case sTT => k_is)
    (case kT => k_is)
    (case bT => k_is)
    (case tT => k_is)
    (case naT => k_is)
    (case gl_LIMIT => k_is)
    (case gl_LONG => k_is)
    (case gl_TIMES => k_is)
    (case gl_DIGITS => k_is)
    (case gl_OPEN => k_is)
    (case gl_WORDS => k_is)
    (case gl_MODULI => k_is)
    (case lW => k_is)
    (case lM => k_is)
    (case sW => kernel_rfl)
    (case sM => kernel_rfl)
    (case zW => kernel_rfl)
    (case zM => kernel_rfl)
    (case z_len => k_is)
    (case z_max => k_is)
    (case z_list => k_is)
    (case z_tuple => k_is)
    (case z_reversed => k_is)
    (case z_range => k_is)
    (case z_int => k_is)
    (case z_str => k_is)
    (case z_bool => k_is)
    (case z_isinstance => k_is)
    (case z_all => k_is)
    (case z_enumerate => k_is)
    (case z_zip => k_is)
