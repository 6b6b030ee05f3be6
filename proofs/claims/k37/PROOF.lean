import PyProof.Rows.All
import Wide.All
import OpenK.AllK
import Wide.FinOn
import PyProof.ReprRoads
import PyProof.ReprReads
import PyProof.CallFns
import HandS.ForMost
import HandS.Ends
import HandS.Rev
import HandS.Wide
import PySem.Challenge.RW_lowsure_k37_points_that_are_enough
import HandS.WideBits
import HandS.Walk
import HandS.More
import KE.GoesMore
import KE.GoesEnum
import KE.GoesZip
import HandS.IsInst
import HandS.RevRange
import HandS.Conv
import HandS.OwnEq
import HandS.TupAny
import HandS.Defaults
import HandS.Style
import HandS.Star
import HandS.Dict
import HandS.WordsDict
import HandS.Text
import HandS.Deep
set_option Elab.async false
set_option linter.all false
set_option maxRecDepth 100000
set_option maxHeartbeats 1000000
namespace MyR
open PySem PySem.Spec PyProof.Rows L2
/-! ### promises kept where no repr is on its way -/
section
variable {P : Program} {w : World} {K : PySem.W.Frag} {mg : Str → Option Value} {base : Heap} {CX : CXT} {k : Nat} {f : Addr} {fd : FuncData} {ps : List Str} {sp : Sp}
structure FnOkG (P : Program) (w : World) (K : PySem.W.Frag) (mg : Str → Option Value) (base : Heap) (CX : CXT) (k : Nat) (f : Addr) (fd : FuncData) (ps : List Str) (sp : Sp) : Prop where
  len : ∀ vs H Q E, sp vs H Q E → vs.length = ps.length
  run : ∀ (A : Around), A.guards = some [] → ∀ (outer : List Env) (s : Shared) (H : Hp) (args : Args) (us : List Value) (vs : List V) (Q : VK) (E : XK), Room k A → Env0 P w K mg base A outer s H → BindsTo s fd args (ps.zip us) → Vals vs us → sp vs H Q E →
    codeAny (model P w) A (.call (.ref f) args) (CR CX outer P w H s Q E) s
theorem FnOkG.of (F : FnOk P w K mg base CX k f fd ps sp) : FnOkG P w K mg base CX k f fd ps sp := ⟨F.len, fun A _ => F.run A⟩
theorem deeper_guards {A : Around} {env : Env} (h : A.guards = some []) : (A.deeper env).guards = some [] := h
/-- a def by its body, as Fun.ok; the body knows that no repr is on its way -/
theorem okG {x qual : Str} {st : Stmt} {N : List Str} (F : Fun K x qual st f fd) (S : FnScope N ps (defScope st)) (len : ∀ vs H Q E, sp vs H Q E → vs.length = ps.length)
    (body : ∀ (cdv : Value) (A : Around), A.guards = some [] → ∀ (outer : List Env) (s : Shared) (H : Hp) (vs : List V) (Q : VK) (E : XK), Room k (A.deeper (envOfC qual (defScope st) s.heap.objs.size f cdv)) → sp vs H Q E →
      ∃ t, PSs (cxOf CX0 P w K mg base N qual (defScope st) f cdv A outer s H E).nox (defBody st) t ∧ t { nx := fun _ H' => Q .non H', rt := Q } (start N vs) H) : FnOkG P w K mg base CX0 (k + 1) f fd ps sp where
  len := len
  run A hg outer s H args us vs Q E room env bind vals want := by
    obtain ⟨oc, od, kV, doc, pm, an, cdv, ct, osl, rfl, at_, code⟩ := F.ex
    obtain ⟨t, derived, reading⟩ := body cdv A hg outer s H vs Q E (room.deeper _) want
    have held : ∀ b o, base.get? b = some o → s.heap.get? b = some o := fun b o e => (env.bs b o e).1
    have written : K.In s.heap := env.mod.kin.keeps held
    have local_ : ∀ y ∈ ps.zip us, (defScope st).names.lookup y.1 = some .local ∨ ((defScope st).names.lookup y.1 = some .cell ∧ ((cellsFrom (s.heap.objs.size + 1) (defScope st).names []).lookup y.1).isSome = true) := by
      rintro ⟨n, v⟩ hy
      exact (S.par n (List.of_mem_zip hy).1).imp id fun q => ⟨q, PySem.W.cellsFrom_some _ _ _ (.inl q)⟩
    refine codeAny_call_function room.depth (written _ _ at_) rfl S.co S.gen rfl (PySem.W.codeRec_of written code) (bind _ _ _ _ ?_)
    refine wpAny_newFunctionEnv_cells S.kind local_ fun e he s1 entered => ?_
    subst he
    refine ⟨(env.mod.nolimit.keeps held).keeps entered.toInCall.keep, codeAny_func ?_⟩
    refine wpAny_mono (derived.nox.run [] s1 (start N vs) H _ (inv_start S room.hd env (len _ _ _ _ want) vals entered) reading) (fun fl s' hs => ?_) fun e s' hs => hs
    cases fl with
    | brk => exact (let ⟨_, _, _, z⟩ := hs; z).elim
    | cont => exact (let ⟨_, _, _, z⟩ := hs; z).elim
    | ret u =>
      obtain ⟨v, _, H', J, rv, q⟩ := hs
      exact ⟨v, H', J.os, J.bare, J.base, J.hok, rv, q⟩
    | next =>
      obtain ⟨_, H', J, q⟩ := hs
      exact ⟨.non, H', J.os, J.bare, J.base, J.hok, rfl, q⟩
end
section
variable {X : Cx} {CX : CXT} {k : Nat} {f : Addr} {fd : FuncData} {ps : List Str} {sp : Sp} {ds : List Value} {dvs : List V} {E : XK} {x : Str} {p pos : Pos} {e : Expr} {es : List Expr} {t : TA}
/-- f(e, ..) of such a def -/
theorem pe_callG (F : FnOkG X.prog X.w X.K X.mg X.base CX k f fd ps sp) (hgd : X.A.guards = some []) (hr : Room k X.A) (hg : Gl X x) (hm : X.mg x = some (.ref f)) (hk : PySem.W.keepIn X.K (.ref f) = true) (hb : Binds X.K fd ps ds) (hd : Vals dvs ds) (hx : Passes CX X E)
    (ha : PA X (e :: es) t) (hdb : (x == ("__debug__" : Str)) = false := by decide) (he : starEach (e :: es) X.env = (false, eval e X.env) :: starEach es X.env := by rfl) (hpl : (backTo pos (starEach es X.env)).any (·.1) = false := by rfl) :
    PE X (.Call (.Name x p) (e :: es) [] pos) (tCall sp dvs E t) where
  run pins s σ H Q I h := by
    refine wpAny_Call_Name_kw (ld_glob I hg hm (PySem.W.callWith_K (h₀ := X.base) I.ok.mod.kin hk (thn (ha.run pos pins s σ H _ I h) fun us s1 got => ?_) he hpl) hdb)
    obtain ⟨vs, H1, I1, r, q⟩ := got
    refine ⟨I1.kIn, wpAny_call ?_⟩
    have long : (us ++ ds).length = ps.length := by rw [← (r.append hd).length]; exact F.len _ _ _ _ q
    refine codeAny_mono (F.run X.A hgd X.stack s1 H1 ⟨us, []⟩ (us ++ ds) (vs ++ dvs) Q E hr I1.env0 (hb s1 us I1.kIn long) (r.append hd) q) fun res s' hq => ?_
    match res, hq with
    | .error e, hq => exact hx pins σ H1 s1 e s' I1 hq
    | .ok (.ret u), hq => exact I1.after hq
/-- repr of None, and of lists and tuples of data at any depth -/
def rReprD (K : PySem.W.Frag) : List V → Hp → VK → Prop := fun xs H Q => (xs = [.non] ∧ Q (.str "None") H) ∨
  ∃ (a : Addr) (d : PyData), xs = [.ref a] ∧ Dp K H (.ref a) d ∧ d.showable = true ∧ d.hasDict = false ∧ d.depth ≤ 60 ∧ d.shown.length ≤ sizeLine ∧ Q (.str d.shown) H
theorem call_reprD (hgd : X.A.guards = some []) (hu : X.A.units + 64 < cLine) : CallR X (.builtin "repr") (rReprD X.K) := by
  intro pins s σ H xs us Q I r h
  rcases h with ⟨rfl, q⟩ | ⟨a, d, rfl, hd, sh, nd, deep, long, q⟩
  · obtain ⟨u, rfl, ru⟩ := vals1 r
    obtain rfl : u = Value.none := ru
    exact PySem.P.repr_of_none ⟨.str "None", H, I.tok _, ⟨_, rfl⟩, q⟩
  · obtain ⟨u, rfl, ru⟩ := vals1 r
    obtain rfl : u = Value.ref a := ru
    obtain ⟨as, rd⟩ := Dp.reads I d _ _ hd rfl
    exact repr_of_reads' rd sh (fun e => by rw [nd] at e; cases e) hgd (by omega) (fun _ _ e => e) (fun h' u tk keep => ⟨.str d.shown, H, I.kept (t' := tk) keep, ⟨u, rfl⟩, q⟩) long
end
end MyR

set_option Elab.async false
set_option linter.all false
set_option maxRecDepth 100000
set_option maxHeartbeats 1000000
namespace MyR
open PySem PySem.Spec PyProof.Rows L2
/-! ### the end of a law whose def knows that no repr is on its way -/
section
variable {P : Program} {w : World} {K : PySem.W.Frag} {mg mb : Str → Option Value} {a : Addr} {s : Shared} {vs : List Value} {ns : List Int}
/-- the heap that the law begins with: the script alone, or nothing where the script is the module's own -/
theorem first_heap (written : K.In s.heap) (script : s.heap.get? a = some { cls := .type "list", data := .seq vs.toArray }) (whole : IntsAre vs ns) (fits : ns.length ≤ sizeLine) :
    ∃ H : Hp, Only H ∧ SqL K H a (ns.map V.int) ∧ HOk P w H s.heap ∧ ∀ b u, H b = some u → b = a ∧ K.lookup a = none ∧ u = .frz { cls := .type "list", data := .seq vs.toArray } (.lst (ns.map V.int)) := by
  have rv := vals_ints whole
  cases found : K.lookup a with
  | some o =>
    have same := written a o found
    rw [script] at same
    obtain rfl := Option.some.inj same
    refine ⟨fun _ => none, fun _ => .inl rfl, .inr ⟨_, vs.toArray, _, found, rfl, rfl, rfl, by rw [List.size_toArray, whole.length]; exact fits, by simpa using rv⟩, fun b u e => ?_, fun b u e => ?_⟩
    · exact absurd (show (none : Option HO) = some u from e) (by simp)
    · exact absurd (show (none : Option HO) = some u from e) (by simp)
  | none =>
    let o : Obj := { cls := .type "list", data := .seq vs.toArray }
    let one : HO := .frz o (.lst (ns.map V.int))
    have only : ∀ b u, (if b = a then some one else none : Option HO) = some u → b = a ∧ u = one := fun b u e => by
      split at e
      · exact ⟨by assumption, (Option.some.inj e).symm⟩
      · cases e
    refine ⟨fun b => if b = a then some one else none, fun b => ?_, .inl (.inr ⟨o, if_pos rfl⟩), fun b u e => ?_, fun b u e => ⟨(only b u e).1, rfl, (only b u e).2⟩⟩
    · by_cases hb : b = a
      · exact .inr ⟨_, _, if_pos hb⟩
      · exact .inl (if_neg hb)
    · obtain ⟨rfl, rfl⟩ := only b u e
      exact ⟨script, by rw [List.length_map]; exact fits, vs, _, rv, script⟩
variable {CX : CXT} {k : Nat} {fa : Addr} {fd : FuncData} {x : Str} {sp : Sp}
theorem law_callG (written : K.In s.heap) (names : s.heap.Ns mainGlobals mg) (blt : s.heap.Ns builtinsNs mb) (bltIs : ∀ x : Str, x ≠ "__name__" → mb x = bootBuiltins x) (free : s.heap.NoLimit) (noGens : s.gens = #[])
    (script : s.heap.get? a = some { cls := .type "list", data := .seq vs.toArray }) (whole : IntsAre vs ns) (fits : ns.length ≤ sizeLine) (room : Room k callerA)
    (F : ∀ base : Heap, K.In base → base.Ns mainGlobals mg → FnOkG P w K mg base CX k fa fd [x] sp) (bind : ∀ (s : Shared) (u : Value), BindsTo s fd ⟨[u], []⟩ [(x, u)])
    (want : ∀ H : Hp, Only H → SqL K H a (ns.map V.int) → sp [.ref a] H (fun v _ => v = .bl true) fun _ _ _ => False) (quiet : ∀ H e s', CX [] H s (fun _ _ _ => False) e s' → False) :
    codeAny (model P w) callerA (.call (.ref fa) ⟨[.ref a], []⟩) (fun r s' => r = .ok (.ret (.bool true)) ∧ OldK s.heap s'.heap ∧ s'.os = s.os ∧ AllBare s'.gens) s := by
  obtain ⟨H, only, sq, hok, known⟩ := first_heap (P := P) (w := w) written script whole fits
  -- what is no dict's or the written part's stands with the script hidden
  have hid : ∀ {b : Addr} {o : Obj}, s.heap.get? b = some o → (b = a → False) → (hidT s.heap H).get? b = some o := fun {b o} e nb => hidT_get e (by
    cases q : H b with
    | none => rfl
    | some u => exact (nb (known b u q).1).elim)
  have dicts : ∀ {b : Addr} {m : Str → Option Value}, s.heap.Ns b m → (hidT s.heap H).Ns b m := fun {b m} n => by
    obtain ⟨o, es, ep, e, d, r⟩ := n
    refine ⟨o, es, ep, hid e (fun z => ?_), d, r⟩
    subst z
    rw [script] at e
    obtain rfl := Option.some.inj e
    exact absurd (show Data.seq vs.toArray _ = Data.dict es ep from d) (by simp)
  have kin : K.In (hidT s.heap H) := fun b o e => hidT_get (written b o e) (by
    cases q : H b with
    | none => rfl
    | some u =>
      obtain ⟨rfl, no, _⟩ := known b u q
      rw [no] at e
      cases e)
  have mod : Mod K mg (hidT s.heap H) := ⟨kin, dicts names, ⟨mb, dicts blt, bltIs⟩, let ⟨mc, h1, h2⟩ := free; ⟨mc, dicts h1, h2⟩⟩
  have env : Env0 P w K mg (hidT s.heap H) callerA [] s H := ⟨rfl, mod, fun b o e => of_hidT e, Nat.le_of_eq (hidT_size _ _), trivial, fun b hb => (List.not_mem_nil (show b ∈ ([] : List Addr) from hb)).elim, hok, .of_eq noGens⟩
  refine codeAny_mono ((F _ kin (dicts names)).run callerA rfl [] s H ⟨[.ref a], []⟩ [.ref a] [.ref a] _ _ room env (bind s (.ref a)) (.cons rfl .nil) (want H only sq)) fun r s' h => ?_
  match r, h with
  | .error e, h => exact (quiet H e s' h).elim
  | .ok (.ret u), h =>
    obtain ⟨v, H', os, bare, un, hok', r', q⟩ := h
    obtain rfl : v = .bl true := q
    obtain rfl : u = Value.bool true := r'
    refine ⟨rfl, OldK.of_keep fun b o e => ?_, os, bare⟩
    cases q : H b with
    | none => exact un.keep b o e q (fun z => nomatch z) (by simp)
    | some u =>
      obtain ⟨rfl, _, rfl⟩ := known b u q
      have e2 := (hok' _ _ (un.frzs _ _ _ q)).1
      rw [script] at e
      rw [← Option.some.inj e]
      exact e2
end
theorem walk_ofG {l : PySem.W.OpenLaw} {n k : Nat} {q : Program} {loose : List Str} {XP : (Str → Option Value) → Heap → Prop} {YP : World → Heap → Prop} {d : DefRec} {K : Params → PySem.W.Frag} {CX : World → CXT} {sp : World → Sp} {x : Str}
    (most : l.most = some n) (line : n ≤ sizeLine) (plain : d.params.defaults = []) (room : Room k callerA) (top : ∀ (w : World) (h : Heap), YP w h → (K w.params).In h)
    (F : ∀ (w : World) (mg : Str → Option Value) (fa : Addr) (h : Heap), (K w.params).In h → h.Ns mainGlobals mg → mg d.name = some (.ref fa) →
      ∃ fd : FuncData, (∀ (s : Shared) (u : Value), BindsTo s fd ⟨[u], []⟩ [(x, u)]) ∧ ∀ base : Heap, (K w.params).In base → base.Ns mainGlobals mg → FnOkG l.prog w (K w.params) mg base (CX w) k fa fd [x] (sp w))
    (want : ∀ (w : World) (H : Hp) (a : Addr) (ns : List Int), ns.length ≤ n → Only H → SqL (K w.params) H a (ns.map V.int) → sp w [.ref a] H (fun v _ => v = .bl true) fun _ _ _ => False)
    (quiet : ∀ (w : World) (H : Hp) (s : Shared) (e : Value) (s' : Shared), CX w [] H s (fun _ _ _ => False) e s' → False) : PySem.W.WalkO q loose XP YP l.row.toRowW d [] (fun f vs => PySem.call f vs) :=
  Att.attach_call most plain fun w s₀ s₁ mg mb fa o pm cd doc a vs ns G Y _ _ _ hmg hobj hints hlen hgen => by
    obtain ⟨fd, bind, hF⟩ := F w mg fa _ (top w _ Y) G.T.g hmg
    exact law_callG (top w _ Y) G.T.g G.T.b G.T.builtins G.T.nolimit hgen hobj hints (Nat.le_trans hlen line) room hF bind (fun H only sq => want w H a ns hlen only sq) fun H e s' => quiet w H s₁ e s'
end MyR

set_option Elab.async false
set_option linter.all false
set_option maxRecDepth 100000
set_option maxHeartbeats 1000000
namespace MyR
open PySem PySem.Spec PyProof.Rows L2 RT
section
variable {prog : Program} {w : World} {A : Around} {E : Value → Shared → Prop} {s : Shared}
theorem extend_rev {R : Result → Shared → Prop} {S it l : Addr} {items : Array Value} {res : Value} {c0 : Nat} (hh : A.handled = none) (hit : s.heap.IsRevIter it l ((items.size : Int) - 1)) (hl : s.heap.IsList l items) (hne : l ≠ it) (hSi : S ≠ it) (hSl : S ≠ l) (hn : items.size ≤ sizeLine)
    (hS : s.heap.get? S = some { cls := .type "list", data := .seq #[] c0 })
    (hR : ∀ (s' : Shared) (acc : Array Value) (c' : Nat), (∀ b o, b ≠ it → b ≠ S → s.heap.get? b = some o → s'.heap.get? b = some o) → s' = { s with heap := s'.heap, toks := s'.toks } → s'.heap.get? S = some { cls := .type "list", dict := none, data := .seq acc c', slots := #[] } →
      ItemsOf (fun i v => items[items.size - 1 - i]? = some v) acc items.size → R (.ok (.ret res)) s') :
    wpAny (model prog w) A.in1 (Builtin.List.listExtendWith (.ref S) (.ref it) res)
      (fun fin s' => match fin with | .done f => R (.ok f) s' | .again c' => c'.quiet = true ∧ codeAny (model prog w) A c' R s') (fun e s' => R (.error e) s') s := by
  have W := (Walks.listRev (prog := prog) (w := w) (A := A.in1) hh it l hne items).toS
  have hSf : S ∉ [it, l] := by simp only [List.mem_cons, List.not_mem_nil, or_false, not_or]; exact ⟨hSi, hSl⟩
  have hT : s.TypeIs (.ref it) "list_reverseiterator" := hit.typeIs
  have h1 : Builtin.List.listSameRef (.ref S) (.ref it) = false := by simp [Builtin.List.listSameRef, hSi]
  unfold Builtin.List.listExtendWith
  refine wpAny_bind (wpAny_typeOf hT ?_)
  rw [if_neg (by rw [h1]; decide)]
  refine wpAny_bind (wpAny_pyIter_revIter hit ?_)
  refine wpAny_bind (wpAny_holding ?_)
  unfold Builtin.List.listLengthHint
  refine wpAny_bind (wpAny_specialOf hT nolen_lri ?_)
  show wpAny _ A.in1 (specialOf (Value.ref it) (Str.ofString "__length_hint__") >>= _) _ _ _
  refine wpAny_bind (wpAny_specialOf hT hint_lri ?_)
  generalize hid : ("list_reverseiterator.__length_hint__" : String) = id0
  wp_delta
  rw [show splitId id0 = some ("list_reverseiterator", "__length_hint__") from by subst hid; decide +kernel]
  subst hid
  refine wpAny_bind (wpAny_isInstance (b := true) hT (by rw [isSubtype_type]; kernel_rfl) ?_)
  refine wpAny_pure ?_
  rw [if_neg (by decide)]
  have e0 : ((items.size : Nat) : Int) - 1 - ((0 : Nat) : Int) = (items.size : Int) - 1 := by omega
  refine wpAny_pure ⟨plainId_quiet F.plain_extend_loop _, codeAny_extend_loopS W hn _ hSf _ items.size 0 _ _ _ rfl (Nat.zero_le _) ⟨Nat.zero_le _, by rw [e0]; exact hit, hl⟩ hS (ItemsOf.nil _) fun s' acc' c' hm hS' hacc => ?_⟩
  refine hR s' acc' c' (fun b o hb hb2 e => hm.heap b o (fun hmem => ?_) e) (Moved.eq_with hm) hS' hacc
  rcases List.mem_cons.mp hmem with e' | hmem
  · exact hb2 e'
  · exact hb (List.mem_singleton.mp hmem)
theorem list_init_rev {R : Result → Shared → Prop} {S it l : Addr} {items : Array Value} (hh : A.handled = none) (hit : s.heap.IsRevIter it l ((items.size : Int) - 1)) (hl : s.heap.IsList l items) (hne : l ≠ it) (hSi : S ≠ it) (hSl : S ≠ l) (hn : items.size ≤ sizeLine)
    (hS : s.heap.get? S = some { cls := .type "list", data := .seq #[] })
    (hR : ∀ (s' : Shared) (acc : Array Value) (c' : Nat), (∀ b o, b ≠ it → b ≠ S → s.heap.get? b = some o → s'.heap.get? b = some o) → s' = { s with heap := s'.heap, toks := s'.toks } → s'.heap.get? S = some { cls := .type "list", dict := none, data := .seq acc c', slots := #[] } →
      ItemsOf (fun i v => items[items.size - 1 - i]? = some v) acc items.size → R (.ok (.ret .none)) s') :
    wpAny (model prog w) A.in1 (Builtin.«list.__init__» ⟨[.ref S, .ref it], []⟩)
      (fun fin s' => match fin with | .done f => R (.ok f) s' | .again c' => c'.quiet = true ∧ codeAny (model prog w) A c' R s') (fun e s' => R (.error e) s') s := by
  show wpAny _ A.in1 (do let old ← Builtin.List.listItems (.ref S); Builtin.List.listUpdate (.ref S) (fun _ => #[]); letGo old.toList.reverse; Builtin.List.listExtendWith (.ref S) (.ref it) .none) _ _ s
  refine wpAny_bind ?_
  unfold Builtin.List.listItems
  refine wpAny_bind (wpAny_seqItems hS rfl (wpAny_pure ?_))
  show wpAny _ A.in1 (updateSeq S (fun _ => #[]) >>= fun _ => letGo (#[] : Array Value).toList.reverse >>= fun _ => Builtin.List.listExtendWith (.ref S) (.ref it) .none) _ _ s
  refine wpAny_bind (wpAny_updateSeq hS rfl ?_)
  have hS2 := Heap.get?_update_self (Obj.mapSeq (fun _ => (#[] : Array Value))) hS rfl
  have oth : ∀ b o, b ≠ S → s.heap.get? b = some o → (s.heap.update S (Obj.mapSeq (fun _ => (#[] : Array Value)))).get? b = some o :=
    fun b o hb e => (Heap.get?_update_other _ _ (Ne.symm hb)).trans e
  refine wpAny_bind (wpAny_letGo ?_)
  refine extend_rev hh (hit.at fun o e => oth it o (Ne.symm hSi) e) (hl.at fun o e => oth l o (Ne.symm hSl) e) hne hSi hSl hn hS2 fun s' acc c' hk hs hS' hi => ?_
  refine hR s' acc c' (fun b o h1 h2 e => hk b o h1 h2 (oth b o h2 e)) ?_ hS' hi
  exact hs
theorem call_list_rev {it l : Addr} {items : Array Value} {Q : Value → Shared → Prop} (hh : A.handled = none) (hit : s.heap.IsRevIter it l ((items.size : Int) - 1)) (hl : s.heap.IsList l items) (hne : l ≠ it) (hn : items.size ≤ sizeLine)
    (hQ : ∀ (s' : Shared) (acc : Array Value) (c' : Nat), (∀ b o, b ≠ it → s.heap.get? b = some o → s'.heap.get? b = some o) → s' = { s with heap := s'.heap, toks := s'.toks } → s'.heap.get? s.heap.objs.size = some { cls := .type "list", dict := none, data := .seq acc c', slots := #[] } →
      ItemsOf (fun i v => items[items.size - 1 - i]? = some v) acc items.size → Q (.ref s.heap.objs.size) s') :
    wpAny (model prog w) A (call (.type "list") [.ref it]) Q E s := by
  obtain ⟨oi, hoi, _⟩ := id hit
  obtain ⟨ol, hol, _⟩ := id hl
  have hSi : s.heap.objs.size ≠ it := Nat.ne_of_gt (Heap.lt_size hoi)
  have hSl : s.heap.objs.size ≠ l := Nat.ne_of_gt (Heap.lt_size hol)
  refine callType_codes (Q₁ := fun obj s₁ => obj = .ref s.heap.objs.size ∧ s₁ = { s with heap := s.heap.push { cls := .type "list", data := .seq #[] } }) F.called_list (F.typeCall_list_1 _) F.entry_list_init
    (code_list_new _ ⟨rfl, rfl⟩) fun obj s₁ h₁ => ?_
  obtain ⟨rfl, rfl⟩ := h₁
  have hS : (s.heap.push { cls := .type "list", data := .seq #[] }).get? s.heap.objs.size = some { cls := .type "list", data := .seq #[] } := Heap.get?_push_size _ rfl
  refine ⟨⟨_, hS, rfl⟩, F.args_list_init_2 _ _, list_init_rev (A := A.in1) hh (hit.at fun o e => Heap.get?_push_of_some _ e) (hl.push _) hne hSi hSl hn hS fun s' acc c' hk hs hS' hi => ?_⟩
  exact ⟨rfl, hQ s' acc c' (fun b o hb e => hk b o hb (Nat.ne_of_lt (Heap.lt_size e)) (Heap.get?_push_of_some _ e)) hs hS' hi⟩
end
/-- list(reversed(x)), x a list: a new list -/
def tLstRev (K : PySem.W.Frag) (te : TE) : TE := fun σ H Q => te σ H fun v H1 => ∃ (a : Addr) (xs : List V), v = .ref a ∧ SqL K H1 a xs ∧ ∀ q, H1 q = none → Q (.ref q) (upd H1 q (.lst xs.reverse))
section
variable {X : Cx}
theorem pe_lstRev {e : Expr} {te : TE} {p p2 pos pos2 : Pos} (hc : X.calm = true) (hg : Gl X "list") (hm : X.mg "list" = none) (hg2 : Gl X "reversed") (hm2 : X.mg "reversed" = none) (he : PE X e te)
    (hs : starEach [e] X.env = (false, eval e X.env) :: starEach [] X.env := by rfl)
    (hs2 : starEach [.Call (.Name "reversed" p2) [e] [] pos2] X.env = (false, eval (.Call (.Name "reversed" p2) [e] [] pos2) X.env) :: starEach [] X.env := by rfl) :
    PE X (.Call (.Name "list" p) [.Call (.Name "reversed" p2) [e] [] pos2] [] pos) (tLstRev X.K te) := by
  refine ⟨fun pins s σ H Q I h => ?_⟩
  refine Call_ (ld_blt I hg hm (show bootBuiltins "list" = some (.type "list") by decide +kernel) (PyProof.Rows.callWith_type1 (args_cons (Call_ (ld_blt I hg2 hm2 PyProof.Rows.boot_reversed (PyProof.Rows.callWith_type1 (args_cons (thn (he.run pins s σ H _ I h) fun u s1 ⟨v, H1, I1, r1, q1⟩ => args_nil ?_) hs) hs rfl))) hs2) hs2 rfl))
  obtain ⟨a, xs, ev, hq, q⟩ := q1
  subst ev
  obtain rfl : u = Value.ref a := r1
  obtain ⟨its, rv, p', hz⟩ := I1.list hq
  refine call_reversed_list p'.isList (args_nil ?_)
  have k0 : ∀ b o, s1.heap.get? b = some o → (s1.heap.push (revObj a ((its.toArray.size : Int) - 1))).get? b = some o := fun b o e => Heap.get?_push_of_some _ e
  have hl := p'.isList
  obtain ⟨ol, hol, _⟩ := id hl
  have hne : a ≠ s1.heap.objs.size := Nat.ne_of_lt (Heap.lt_size hol)
  have hn : its.toArray.size ≤ sizeLine := by rw [List.size_toArray, ← rv.length]; exact hz
  refine call_list_rev (s := { s1 with heap := s1.heap.push (revObj a ((its.toArray.size : Int) - 1)) }) (I1.ok.hd hc) ⟨_, Heap.get?_push_size _ rfl, rfl, rfl⟩ (hl.push _) hne hn fun s' acc c' hk hs' hS' hi => ?_
  have kk : ∀ b o, s1.heap.get? b = some o → s'.heap.get? b = some o := fun b o e => hk b o (Nat.ne_of_lt (Heap.lt_size e)) (k0 b o e)
  have hsz : s1.heap.objs.size ≤ (s1.heap.push (revObj a ((its.toArray.size : Int) - 1))).objs.size := by rw [Heap.size_push]; exact Nat.le_succ _
  have J := I1.laid (a := (s1.heap.push (revObj a ((its.toArray.size : Int) - 1))).objs.size) (o := .lst xs.reverse) (h' := s'.heap) (t' := s'.toks) kk hsz
    (show ObjOk X.prog X.w _ _ _ (.lst xs.reverse) from ⟨by rw [List.length_reverse]; exact hz, acc.toList, c', vals_rev rv hi, by rw [Array.toArray_toList]; exact hS'⟩)
  rw [hs']
  exact ⟨.ref _, _, J, rfl, q _ (I1.hok.fresh hsz)⟩
end
end MyR

set_option Elab.async false
set_option linter.all false
set_option maxRecDepth 100000
set_option maxHeartbeats 1000000
namespace My
open PySem L2 MyR
def top (i : Nat) : Stmt := PySem.Challenge.pw_lowsure_k37_points_that_are_enough.main.body.getD i (.Pass ⟨0, 0, 0, 0⟩)
/-- what the module's names hold -/
structure Glob (mg : Str → Option Value) : Prop where
  g_len : mg "len" = none
  g_max : mg "max" = none
  g_list : mg "list" = none
  g_tuple : mg "tuple" = none
  g_reversed : mg "reversed" = none
  g_range : mg "range" = none
  g_int : mg "int" = none
  g_str : mg "str" = none
  g_bool : mg "bool" = none
  g_isinstance : mg "isinstance" = none
  g_all : mg "all" = none
  g_enumerate : mg "enumerate" = none
  g_zip : mg "zip" = none
/-! ### the source of draws -/
def dKV (s n : Int) (l : Addr) : List (Key × V) := [(.inr "seed", .int s), (.inr "number", .int n), (.inr "left", .ref l)]
theorem k_sn : ¬ ((.inr "seed" : Key) = .inr "number") := fun h => absurd (Sum.inr.inj h) (by decide +kernel)
theorem k_sl : ¬ ((.inr "seed" : Key) = .inr "left") := fun h => absurd (Sum.inr.inj h) (by decide +kernel)
theorem k_nl : ¬ ((.inr "number" : Key) = .inr "left") := fun h => absurd (Sum.inr.inj h) (by decide +kernel)
theorem d_seed {s n : Int} {l : Addr} : valV (dKV s n l) (.inr "seed") = some (.int s) := valV_pos rfl
theorem d_number {s n : Int} {l : Addr} : valV (dKV s n l) (.inr "number") = some (.int n) := by
  unfold dKV; rw [valV_neg k_sn, valV_pos rfl]
theorem d_left {s n : Int} {l : Addr} : valV (dKV s n l) (.inr "left") = some (.ref l) := by
  unfold dKV; rw [valV_neg k_sl, valV_neg k_nl, valV_pos rfl]
theorem d_put_seed {s n z : Int} {l : Addr} : putK (dKV s n l) (.inr "seed") (.int z) = dKV z n l := by
  unfold putK
  rw [valV_any, d_seed]
  rw [if_pos (show (some (V.int s)).isSome = true from rfl)]
  unfold dKV
  simp only [List.map_cons, List.map_nil, if_true, if_neg (Ne.symm k_sn), if_neg (Ne.symm k_sl)]
theorem d_put_number {s n z : Int} {l : Addr} : putK (dKV s n l) (.inr "number") (.int z) = dKV s z l := by
  unfold putK
  rw [valV_any, d_number]
  rw [if_pos (show (some (V.int n)).isSome = true from rfl)]
  unfold dKV
  simp only [List.map_cons, List.map_nil, if_true, if_neg k_sn, if_neg (Ne.symm k_nl)]
theorem d_merge {s n : Int} {l : Addr} : mergeK [] (dKV s n l) = dKV s n l := by
  unfold mergeK dKV
  simp only [List.foldl_cons, List.foldl_nil]
  have e1 : putK ([] : List (Key × V)) (.inr "seed") (.int s) = [(.inr "seed", .int s)] := putK_new _ valV_nil
  have e2 : putK ([(.inr "seed", .int s)] : List (Key × V)) (.inr "number") (.int n) = [(.inr "seed", .int s), (.inr "number", .int n)] := putK_new _ (by rw [valV_neg k_sn]; rfl)
  have e3 : putK ([(.inr "seed", .int s), (.inr "number", .int n)] : List (Key × V)) (.inr "left") (.ref l) = [(.inr "seed", .int s), (.inr "number", .int n), (.inr "left", .ref l)] := putK_new _ (by rw [valV_neg k_sl, valV_neg k_nl]; rfl)
  rw [e1, e2, e3]
theorem g_seed {H : Hp} {d l : Addr} {s n : Int} (h : H d = some (.dK (dKV s n l))) : DGet H d (.str "seed") (some (.int s)) := by
  have q := DGet.k (k := .inr "seed") h
  rw [d_seed] at q
  exact q
theorem g_number {H : Hp} {d l : Addr} {s n : Int} (h : H d = some (.dK (dKV s n l))) : DGet H d (.str "number") (some (.int n)) := by
  have q := DGet.k (k := .inr "number") h
  rw [d_number] at q
  exact q
theorem g_left {H : Hp} {d l : Addr} {s n : Int} (h : H d = some (.dK (dKV s n l))) : DGet H d (.str "left") (some (.ref l)) := by
  have q := DGet.k (k := .inr "left") h
  rw [d_left] at q
  exact q
theorem p_seed {H : Hp} {d l : Addr} {s n z : Int} (h : H d = some (.dK (dKV s n l))) : DPut H d (.str "seed") (.int z) (upd H d (.dK (dKV z n l))) := by
  have q := DPut.k (k := .inr "seed") (v := .int z) h (by show 3 < sizeLine; decide)
  rw [d_put_seed] at q
  exact q
theorem p_number {H : Hp} {d l : Addr} {s n z : Int} (h : H d = some (.dK (dKV s n l))) : DPut H d (.str "number") (.int z) (upd H d (.dK (dKV s z l))) := by
  have q := DPut.k (k := .inr "number") (v := .int z) h (by show 3 < sizeLine; decide)
  rw [d_put_number] at q
  exact q
/-- what holds between a statement and the rest -/
theorem seq_by {t u : TS} {D : Ends} {σ : St} {H : Hp} (Pv : St → Hp → Prop) (h1 : ∀ D' : Ends, (∀ σ H, Pv σ H → D'.nx σ H) → t D' σ H) (h2 : ∀ σ H, Pv σ H → u D σ H) : tSeq t u D σ H := h1 { D with nx := u D } h2
structure Deal (H : Hp) (d l : Addr) : Prop where
  ex : ∃ (s n : Int) (ns : List Int), H d = some (.dK (dKV s n l)) ∧ H l = some (.lst (ns.map V.int)) ∧ 0 ≤ s ∧ s < 2147483648
/-- what stood but at d and l stands as it was -/
def Kept (d l : Addr) (H H' : Hp) : Prop := ∀ b o, H b = some o → b ≠ d → b ≠ l → H' b = some o
theorem Kept.refl {d l : Addr} {H : Hp} : Kept d l H H := fun _ _ e _ _ => e
theorem Kept.trans {d l : Addr} {H H1 H2 : Hp} (a : Kept d l H H1) (b : Kept d l H1 H2) : Kept d l H H2 := fun c o e h1 h2 => b c o (a c o e h1 h2) h1 h2
theorem Kept.d {d l : Addr} {H H1 : Hp} {o : HO} (a : Kept d l H H1) : Kept d l H (upd H1 d o) := fun c o e h1 h2 => by rw [upd_ne h1]; exact a c o e h1 h2
theorem Kept.l {d l : Addr} {H H1 : Hp} {o : HO} (a : Kept d l H H1) : Kept d l H (upd H1 l o) := fun c o e h1 h2 => by rw [upd_ne h2]; exact a c o e h1 h2
def spDraw : Sp := fun vs H Q _ => ∃ (d l : Addr) (m : Int), vs = [.ref d, .int m] ∧ Deal H d l ∧ 0 < m ∧ m.natAbs < 2 ^ 110 ∧
  ∀ (r : Int) (H' : Hp), 0 ≤ r → r < m → Deal H' d l → Kept d l H H' → Q (.int r) H'
section
variable {P : Program} {w : World} {K : PySem.W.Frag} {mg : Str → Option Value} {base : Heap}
abbrev s_law_draw : Stmt := top 19
abbrev N_law_draw : List Str := ["_law_deal_here", "_law_many", "_law_number", "_law_one", "_law_other"]
theorem sc_law_draw : FnScope N_law_draw ["_law_deal_here", "_law_many"] (defScope s_law_draw) := ⟨rfl, rfl, rfl, by decide +kernel, rfl, by decide +kernel, by decide +kernel⟩
theorem ok_law_draw {f : Addr} {fd : FuncData} (F : Fun K "_law_draw" "_law_draw" s_law_draw f fd) (T : Glob mg) : FnOk P w K mg base CX0 1 f fd ["_law_deal_here", "_law_many"] spDraw := by
  refine F.ok sc_law_draw (fun vs H Q E h => ?_) (fun cdv A outer s H vs Q E hr h => ?_)
  · obtain ⟨d, l, m, rfl, _⟩ := h
    rfl
  · obtain ⟨d, l, m, rfl, D, hm, hb, k⟩ := h
    have hu := hu_of hr
    have nd := sc_law_draw.nd
    refine ⟨_, (pss_cons (ps_while PassesOwn.never (PW.pt (pw_and (pt_cmpR op_eq (pe_dget hu (pv 0) pe_str (fun _ _ => rfl)) pe_int (nomark _)) (pw_and1 (pt_cmpR op_gt (pe_callB call_len_seq (by rfl) T.g_len PySem.boot_len (pa_cons (pe_dget hu (pv 0) pe_str (fun _ _ => rfl)) pa_nil)) pe_int (nomark _)))))
      (pss_one (ps_dput hu (pv 0) pe_str (pe_bm0 PySem.F.plainAttrs_list PySem.F.slot_list_pop PySem.F.type_list_pop mt_pop (pe_dget hu (pv 0) pe_str (fun _ _ => rfl))) rfl)))
    (pss_cons (ps_set (i := 2) nd rfl (Or.inl rfl) (pe_dget hu (pv 0) pe_str (fun _ _ => rfl)))
    (pss_cons (ps_if (pt_cmpR op_gt (pv 2) pe_int (nomark _))
    (pss_cons (ps_dput hu (pv 0) pe_str (pe_op op_fdivW (pv 2) (pv 1)) rfl)
    (pss_one (ps_ret (pe_op op_mod (pv 2) (pv 1)))))
    pss_nil)
    (pss_cons (ps_set (i := 3) nd rfl (Or.inl rfl) (pe_op op_mod (pe_op op_add (pe_op op_mul (pe_dget hu (pv 0) pe_str (fun _ _ => rfl)) pe_int) pe_int) pe_int))
    (pss_cons (ps_dput hu (pv 0) pe_str (pe_op op_mod (pe_op op_add (pe_op op_mul (pv 3) pe_int) pe_int) pe_int) rfl)
    (pss_cons (ps_set (i := 4) nd rfl (Or.inl rfl) (pe_op op_mod (pe_op op_mul (pe_dget hu (pv 0) pe_str (fun _ _ => rfl)) (pe_dget hu (pv 0) pe_str (fun _ _ => rfl))) pe_int))
    (pss_one (ps_ret (pe_op op_mod (pe_op op_add (pe_op op_mul (pe_op op_mod (pe_op op_mul (pv 3) (pv 3)) pe_int) pe_int) (pv 4)) (pv 1)))))))))), ?_⟩
    refine seq_by (fun σ H1 => σ = [some (.ref d), some (.int m), none, none, none] ∧ Deal H1 d l ∧ Kept d l H H1) (fun D' hD' => ?_) ?_
    · refine while_by (fun σ H1 => σ = [some (.ref d), some (.int m), none, none, none] ∧ Deal H1 d l ∧ Kept d l H H1)
        (fun _ H1 => match H1 l with | some (.lst xs) => xs.length | _ => 0) ⟨rfl, D, Kept.refl⟩ ?_ ?_
      · rintro σ H1 ⟨rfl, D1, kp⟩
        obtain ⟨s0, n, ns, hd, hl, hs0, hs1⟩ := id D1
        have ndl : d ≠ l := ne_of hd hl (by intro z; cases z)
        refine ⟨_, rfl, d, _, rfl, g_number hd, rfl, _, rfl, ?_⟩
        refine ite2 (fun hz => ?_) (fun hz => ?_)
        · refine ⟨_, rfl, d, _, rfl, g_left hd, l, _, rfl, .inl (SqL.of hl), _, _, rfl, rfl, _, rfl, ?_⟩
          refine ite2 (fun hz2 => ?_) (fun hz2 => ?_)
          · have hp : 0 < ns.length := by
              have := of_decide_eq_true hz2
              rw [List.length_map] at this
              omega
            have hg : (ns.map V.int)[(ns.map V.int).length - 1]? = some (.int (ns[ns.length - 1])) := by
              rw [List.length_map, List.getElem?_map, List.getElem?_eq_getElem (by omega)]
              rfl
            refine ⟨_, rfl, d, _, rfl, g_left hd, .inl ⟨rfl, _, SqL.of hl⟩, l, _, _, rfl, rfl, hl, hg, _, rfl, d, _, rfl, p_number (by rw [upd_ne ndl]; exact hd), ?_⟩
            have e2 : (ns.map V.int).dropLast = ns.dropLast.map V.int := by rw [List.map_dropLast]
            refine ⟨⟨rfl, ⟨⟨s0, _, ns.dropLast, upd_same, by rw [upd_ne ndl.symm, upd_same, e2], hs0, hs1⟩⟩, kp.l.d⟩, ?_⟩
            rw [upd_ne ndl.symm, upd_same, hl]
            show (ns.map V.int).dropLast.length < (ns.map V.int).length
            rw [List.length_dropLast, List.length_map]
            omega
          · exact hD' _ _ ⟨rfl, D1, kp⟩
        · refine iteF ?_
          exact hD' _ _ ⟨rfl, D1, kp⟩
      · intro σ H1 Q1 Q2 hq hc
        obtain ⟨x, e1, a, v, e2, hg, sc, b1, eb, hc⟩ := hc
        refine ⟨x, e1, a, v, e2, hg, sc, b1, eb, ?_⟩
        revert hc
        cases b1 with
        | false => exact fun hc => hq _ _ hc
        | true =>
          intro hc
          obtain ⟨x2, e3, a2, v2, e4, hg2, p, ys, e5, sq, i1, j1, e6, e7, k1, e8, hc⟩ := hc
          exact ⟨x2, e3, a2, v2, e4, hg2, p, ys, e5, sq, i1, j1, e6, e7, k1, e8, hq _ _ hc⟩
    · rintro σ H1 ⟨rfl, D1, kp⟩
      obtain ⟨s0, n, ns, hd, hl, hs0, hs1⟩ := id D1
      have ndl : d ≠ l := ne_of hd hl (by intro z; cases z)
      refine ⟨_, rfl, d, _, rfl, g_number hd, _, rfl, _, _, rfl, rfl, _, rfl, ?_⟩
      refine ite2 (fun hz => ?_) (fun hz => ?_)
      · have h63 : 0 < m := hm
        refine ⟨_, rfl, _, rfl, _, _, rfl, rfl, wide_div hm hb (by decide) (by decide), _, rfl, d, _, rfl, p_number hd, ?_⟩
        refine ⟨_, rfl, _, rfl, _, _, rfl, rfl, hm, ?_⟩
        exact k _ _ (Int.emod_nonneg _ (by omega)) (Int.emod_lt_of_pos _ hm) ⟨⟨s0, _, ns, upd_same, by rw [upd_ne ndl.symm]; exact hl, hs0, hs1⟩⟩ kp.d
      · -- the seed turns
        have r1 : ∀ (x y : Int), 0 < y → 0 ≤ x % y ∧ x % y < y := fun x y hy => ⟨Int.emod_nonneg _ (by omega), Int.emod_lt_of_pos _ hy⟩
        have ha1 := r1 (s0 * 48271 + 7919) 2147483647 (by decide)
        have hb1 := r1 ((s0 * 48271 + 7919) % 2147483647 * 40692 + 104729) 2147483399 (by decide)
        have q := r1 ((s0 * 48271 + 7919) % 2147483647 * ((s0 * 48271 + 7919) % 2147483647)) 2147483629 (by decide)
        refine ⟨_, rfl, d, _, rfl, g_seed hd, _, _, rfl, rfl, .inl ⟨by omega, by omega⟩, _, _, rfl, rfl, _, _, rfl, rfl, (by show (0 : Int) < 2147483647; decide), ?_⟩
        refine ⟨_, rfl, _, _, rfl, rfl, .inl ⟨by omega, by omega⟩, _, _, rfl, rfl, _, _, rfl, rfl, (by show (0 : Int) < 2147483399; decide), ?_⟩
        refine ⟨_, rfl, d, _, rfl, p_seed hd, ?_⟩
        refine ⟨_, rfl, d, _, rfl, g_seed upd_same, _, rfl, d, _, rfl, g_seed upd_same, _, _, rfl, rfl, .inl ⟨by omega, by omega⟩, _, _, rfl, rfl, (by show (0 : Int) < 2147483563; decide), ?_⟩
        refine ⟨_, rfl, _, rfl, _, _, rfl, rfl, .inl ⟨by omega, by omega⟩, _, _, rfl, rfl, (by show (0 : Int) < 2147483629; decide), _, _, rfl, rfl, .inl ⟨by omega, by omega⟩, _, rfl, _, _, rfl, rfl, _, rfl, _, _, rfl, rfl, hm, ?_⟩
        exact k _ _ (Int.emod_nonneg _ (by omega)) (Int.emod_lt_of_pos _ hm) ⟨⟨_, n, ns, upd_same, by rw [upd_ne ndl.symm]; exact hl, hb1.1, by omega⟩⟩ kp.d
end
end My

set_option Elab.async false
set_option linter.all false
set_option maxRecDepth 100000
set_option maxHeartbeats 1000000
namespace My
/-! ### the twos in n!, and how many numbers have fewer than b -/
def twF : Nat → Nat → Nat
  | 0, _ => 0
  | k + 1, n => if n = 0 then 0 else n / 2 + twF k (n / 2)
def tw (n : Nat) : Nat := twF n n
theorem twF_more : ∀ (k l n : Nat), n ≤ k → n ≤ l → twF k n = twF l n
  | 0, l, n, h, _ => by
    have : n = 0 := by omega
    subst this
    cases l with
    | zero => rfl
    | succ l => show 0 = if (0 : Nat) = 0 then 0 else _; rw [if_pos rfl]
  | k + 1, 0, n, _, h => by
    have : n = 0 := by omega
    subst this
    show (if (0 : Nat) = 0 then 0 else _) = 0
    rw [if_pos rfl]
  | k + 1, l + 1, n, h, g => by
    show (if n = 0 then 0 else n / 2 + twF k (n / 2)) = if n = 0 then 0 else n / 2 + twF l (n / 2)
    split
    · rfl
    · rw [twF_more k l (n / 2) (by omega) (by omega)]
theorem tw_zero : tw 0 = 0 := rfl
theorem tw_pos {n : Nat} (h : n ≠ 0) : tw n = n / 2 + tw (n / 2) := by
  obtain ⟨k, rfl⟩ : ∃ k, n = k + 1 := ⟨n - 1, by omega⟩
  show (if k + 1 = 0 then 0 else (k + 1) / 2 + twF k ((k + 1) / 2)) = (k + 1) / 2 + twF ((k + 1) / 2) ((k + 1) / 2)
  rw [if_neg h, twF_more k ((k + 1) / 2) _ (by omega) (Nat.le_refl _)]
theorem tw_half (n : Nat) : n / 2 ≤ tw n := by
  by_cases h : n = 0
  · subst h
    exact Nat.le_refl _
  · rw [tw_pos h]
    omega
theorem tw_le : ∀ (n : Nat), tw n ≤ n := by
  intro n
  induction n using Nat.strongRecOn with
  | ind n ih =>
    by_cases h : n = 0
    · subst h
      exact Nat.le_refl _
    · rw [tw_pos h]
      have := ih (n / 2) (by omega)
      omega
theorem tw_mono : ∀ (b a : Nat), a ≤ b → tw a ≤ tw b := by
  intro b
  induction b using Nat.strongRecOn with
  | ind b ih =>
    intro a h
    by_cases hb : b = 0
    · have : a = 0 := by omega
      rw [this, hb]
      exact Nat.le_refl _
    · by_cases ha : a = 0
      · rw [ha]
        exact Nat.zero_le _
      · rw [tw_pos ha, tw_pos hb]
        have := ih (b / 2) (by omega) (a / 2) (by omega)
        omega
theorem filter_down (p : Nat → Bool) (hp : ∀ i j, i ≤ j → p j = true → p i = true) : ∀ n, (List.range n).filter p = List.range ((List.range n).filter p).length
  | 0 => rfl
  | n + 1 => by
    have ih := filter_down p hp n
    rw [List.range_succ, List.filter_append]
    by_cases h : p n = true
    · have h1 : (List.range n).filter p = List.range n := List.filter_eq_self.mpr fun i hi => hp i n (Nat.le_of_lt (List.mem_range.mp hi)) h
      have h2 : [n].filter p = [n] := by rw [List.filter_cons, if_pos h]; rfl
      rw [h1, h2, List.length_append, List.length_range]
      show _ = List.range (n + 1)
      rw [List.range_succ]
    · have h2 : [n].filter p = [] := by rw [List.filter_cons, if_neg h]; rfl
      rw [h2, List.append_nil]
      exact ih
/-- how many numbers have fewer than b twos -/
def W (b : Nat) : Nat := ((List.range (2 * b + 2)).filter fun j => decide (tw j < b)).length
theorem W_filter (b : Nat) : ((List.range (2 * b + 2)).filter fun j => decide (tw j < b)) = List.range (W b) :=
  filter_down _ (fun i j h hj => decide_eq_true (Nat.lt_of_le_of_lt (tw_mono j i h) (of_decide_eq_true hj))) _
theorem W_iff {b j : Nat} : tw j < b ↔ j < W b := by
  constructor
  · intro h
    have h1 := tw_half j
    have : j ∈ (List.range (2 * b + 2)).filter fun j => decide (tw j < b) := List.mem_filter.mpr ⟨List.mem_range.mpr (by omega), decide_eq_true h⟩
    rw [W_filter] at this
    exact List.mem_range.mp this
  · intro h
    have : j ∈ (List.range (2 * b + 2)).filter fun j => decide (tw j < b) := by rw [W_filter]; exact List.mem_range.mpr h
    exact of_decide_eq_true (List.mem_filter.mp this).2
theorem W_le (b : Nat) : W b ≤ 2 * b + 2 := by
  have := List.length_filter_le (fun j => decide (tw j < b)) (List.range (2 * b + 2))
  rw [List.length_range] at this
  exact this
theorem W_pos {b : Nat} (h : 1 ≤ b) : 1 ≤ W b := W_iff.mp (show tw 0 < b from h)
theorem W_two {b : Nat} (h : 1 ≤ b) : 2 ≤ W b := W_iff.mp (show tw 1 < b from h)
theorem W_mono {a b : Nat} (h : a ≤ b) : W a ≤ W b := by
  by_cases hz : W a = 0
  · omega
  · have h1 : tw (W a - 1) < a := W_iff.mpr (by omega)
    have h2 : W a - 1 < W b := W_iff.mp (by omega)
    omega
theorem W_66 {b : Nat} (h : b ≤ 64) : W b ≤ 66 := by
  have h1 := W_mono h
  have h2 : ¬ (66 < W 64) := fun z => absurd (W_iff.mpr z) (by decide)
  omega
theorem W_end (b : Nat) : ¬ tw (W b) < b := fun h => Nat.lt_irrefl _ (W_iff.mp h)
theorem W_zero : W 0 = 0 := by decide
/-- vectors of numbers with together fewer than b twos -/
def vecs : Nat → Nat → List (List Nat)
  | 0, _ => [[]]
  | m + 1, b => (List.range (W b)).flatMap fun j => (vecs m (b - tw j)).map (j :: ·)
/-! ### sums -/
def smN : Nat → (Nat → Nat) → Nat
  | 0, _ => 0
  | n + 1, f => smN n f + f n
theorem smN_congr : ∀ {n : Nat} {f g : Nat → Nat}, (∀ i, i < n → f i = g i) → smN n f = smN n g
  | 0, _, _, _ => rfl
  | n + 1, f, g, h => by
    show smN n f + f n = smN n g + g n
    rw [smN_congr fun i hi => h i (by omega), h n (by omega)]
theorem smN_add (n : Nat) (f g : Nat → Nat) : smN n (fun i => f i + g i) = smN n f + smN n g := by
  induction n with
  | zero => rfl
  | succ n ih =>
    show smN n (fun i => f i + g i) + (f n + g n) = smN n f + f n + (smN n g + g n)
    omega
theorem smN_zero (n : Nat) : smN n (fun _ => 0) = 0 := by
  induction n with
  | zero => rfl
  | succ n ih =>
    show smN n (fun _ => 0) + 0 = 0
    omega
theorem smN_swap (n m : Nat) (f : Nat → Nat → Nat) : smN n (fun i => smN m fun j => f i j) = smN m fun j => smN n fun i => f i j := by
  induction n with
  | zero =>
    show 0 = smN m fun _ => 0
    rw [smN_zero]
  | succ n ih =>
    show smN n (fun i => smN m fun j => f i j) + smN m (fun j => f n j) = smN m fun j => smN n (fun i => f i j) + f n j
    rw [ih, smN_add]
theorem smN_cut {n m : Nat} (f : Nat → Nat) (h : n ≤ m) (hz : ∀ i, n ≤ i → i < m → f i = 0) : smN m f = smN n f := by
  induction m with
  | zero =>
    have : n = 0 := by omega
    rw [this]
  | succ m ih =>
    by_cases e : n = m + 1
    · rw [e]
    · show smN m f + f m = _
      rw [ih (by omega) (fun i a b => hz i a (by omega)), hz m (by omega) (by omega)]
      rfl
/-- moved up by t, below b -/
theorem smN_shift (t : Nat) (g : Nat → Nat) : ∀ b, smN b (fun u => if t ≤ u then g (u - t) else 0) = smN (b - t) g
  | 0 => by rw [show 0 - t = 0 from Nat.zero_sub t]; rfl
  | b + 1 => by
    have ih := smN_shift t g b
    show smN b (fun u => if t ≤ u then g (u - t) else 0) + (if t ≤ b then g (b - t) else 0) = _
    rw [ih]
    by_cases h : t ≤ b
    · rw [if_pos h, show b + 1 - t = (b - t) + 1 by omega]
      rfl
    · rw [if_neg h, show b + 1 - t = b - t by omega]
      rfl
/-- vectors by their twos -/
def cn (b : Nat) : Nat → Nat → Nat
  | 0, u => if u = 0 then 1 else 0
  | c + 1, u => smN (W b) fun j => if tw j ≤ u then cn b c (u - tw j) else 0
theorem flat_len {α β : Type} (f : α → List β) (xs : List α) : (xs.flatMap f).length = (xs.map fun x => (f x).length).sum := by
  induction xs with
  | nil => rfl
  | cons x xs ih => simp [List.flatMap_cons, ih]
theorem sum_range (g : Nat → Nat) : ∀ n, ((List.range n).map g).sum = smN n g
  | 0 => rfl
  | n + 1 => by
    rw [List.range_succ, List.map_append, List.sum_append, sum_range g n]
    show smN n g + (g n + 0) = smN n g + g n
    omega
theorem vecs_len (m b : Nat) : (vecs (m + 1) b).length = smN (W b) fun j => (vecs m (b - tw j)).length := by
  show ((List.range (W b)).flatMap fun j => (vecs m (b - tw j)).map (j :: ·)).length = _
  rw [flat_len, sum_range]
  exact smN_congr fun j _ => List.length_map ..
theorem cn_sum (b : Nat) : ∀ (c b' : Nat), 1 ≤ b' → b' ≤ b → smN b' (cn b c) = (vecs c b').length
  | 0, b', h1, h2 => by
    show _ = 1
    have : smN b' (cn b 0) = smN 1 (cn b 0) := smN_cut _ h1 fun i a _ => by
      show (if i = 0 then 1 else 0) = 0
      rw [if_neg (by omega)]
    rw [this]
    rfl
  | c + 1, b', h1, h2 => by
    rw [vecs_len]
    show smN b' (fun u => smN (W b) fun j => if tw j ≤ u then cn b c (u - tw j) else 0) = _
    rw [smN_swap]
    have e : smN (W b) (fun j => smN b' fun u => if tw j ≤ u then cn b c (u - tw j) else 0) = smN (W b) fun j => smN (b' - tw j) (cn b c) := smN_congr fun j _ => smN_shift (tw j) (cn b c) b'
    rw [e, smN_cut (fun j => smN (b' - tw j) (cn b c)) (W_mono h2) (fun j a _ => by
      have : ¬ tw j < b' := fun z => by have := W_iff.mp z; omega
      rw [show b' - tw j = 0 by omega]
      rfl)]
    refine smN_congr fun j hj => ?_
    have : tw j < b' := W_iff.mpr hj
    exact cn_sum b c (b' - tw j) (by omega) (by omega)
end My

set_option Elab.async false
set_option linter.all false
set_option maxRecDepth 100000
set_option maxHeartbeats 1000000
namespace My
/-! ### binomials and falling products -/
def fall (z : Int) : Nat → Int
  | 0 => 1
  | k + 1 => fall z k * (z - (k : Int))
def fac : Nat → Int
  | 0 => 1
  | k + 1 => ((k : Int) + 1) * fac k
def bn (z : Int) : Nat → Int
  | 0 => 1
  | k + 1 => bn z k * (z - (k : Int)) / ((k : Int) + 1)
theorem fac_pos : ∀ k, 0 < fac k
  | 0 => by decide
  | k + 1 => Int.mul_pos (by omega) (fac_pos k)
theorem fall_shift (z : Int) : ∀ k, fall (z + 1) (k + 1) = (z + 1) * fall z k
  | 0 => by
    show 1 * (z + 1 - ((0 : Nat) : Int)) = (z + 1) * 1
    omega
  | k + 1 => by
    show fall (z + 1) (k + 1) * (z + 1 - ((k + 1 : Nat) : Int)) = (z + 1) * (fall z k * (z - (k : Int)))
    rw [fall_shift z k, show z + 1 - ((k + 1 : Nat) : Int) = z - (k : Int) by omega, Int.mul_assoc]
theorem fall_step (z : Int) (k : Nat) : fall (z + 1) (k + 1) = fall z (k + 1) + ((k : Int) + 1) * fall z k := by
  rw [fall_shift]
  show (z + 1) * fall z k = fall z k * (z - (k : Int)) + ((k : Int) + 1) * fall z k
  rw [Int.mul_comm (fall z k), ← Int.add_mul]
  congr 1
  omega
theorem fall_zero : ∀ k, fall 0 (k + 1) = 0
  | 0 => rfl
  | k + 1 => by
    show fall 0 (k + 1) * _ = 0
    rw [fall_zero k, Int.zero_mul]
theorem fac_dvd : ∀ (k : Nat) (z : Int), fac k ∣ fall z k
  | 0, z => ⟨fall z 0, by rw [show fac 0 = 1 from rfl, Int.one_mul]⟩
  | k + 1, z => by
    have st : ∀ z : Int, fac (k + 1) ∣ ((k : Int) + 1) * fall z k := fun z => by
      obtain ⟨q, e⟩ := fac_dvd k z
      exact ⟨q, by rw [e, ← Int.mul_assoc]; rfl⟩
    have up : ∀ n : Nat, fac (k + 1) ∣ fall (n : Int) (k + 1) := by
      intro n
      induction n with
      | zero => exact ⟨0, by rw [Int.mul_zero]; exact fall_zero k⟩
      | succ n ih =>
        rw [show ((n + 1 : Nat) : Int) = (n : Int) + 1 from rfl, fall_step]
        exact Int.dvd_add ih (st _)
    have down : ∀ n : Nat, fac (k + 1) ∣ fall (-(n : Int)) (k + 1) := by
      intro n
      induction n with
      | zero => exact up 0
      | succ n ih =>
        have e := fall_step (-((n + 1 : Nat) : Int)) k
        rw [show -((n + 1 : Nat) : Int) + 1 = -(n : Int) by omega] at e
        have h := Int.dvd_sub ih (st (-((n + 1 : Nat) : Int)))
        rw [e, Int.add_sub_cancel] at h
        exact h
    by_cases hz : 0 ≤ z
    · have := up z.toNat
      rwa [Int.toNat_of_nonneg hz] at this
    · have := down (-z).toNat
      rwa [Int.toNat_of_nonneg (by omega), Int.neg_neg] at this
theorem fac_bn : ∀ (k : Nat) (z : Int), fac k * bn z k = fall z k
  | 0, _ => rfl
  | k + 1, z => by
    have ih := fac_bn k z
    obtain ⟨q, e⟩ := fac_dvd (k + 1) z
    have h1 : fac k * (bn z k * (z - (k : Int))) = fac k * (((k : Int) + 1) * q) := by
      rw [← Int.mul_assoc, ih]
      show fall z (k + 1) = _
      rw [e]
      show ((k : Int) + 1) * fac k * q = _
      rw [Int.mul_comm ((k : Int) + 1), Int.mul_assoc]
    have h2 : bn z k * (z - (k : Int)) = ((k : Int) + 1) * q := Int.eq_of_mul_eq_mul_left (by have := fac_pos k; omega) h1
    have h3 : bn z (k + 1) = q := by
      show bn z k * (z - (k : Int)) / ((k : Int) + 1) = q
      rw [h2]
      exact Int.mul_ediv_cancel_left _ (by omega)
    rw [h3, e]
theorem bn_pascal (z : Int) (k : Nat) : bn (z + 1) (k + 1) = bn z (k + 1) + bn z k := by
  have h1 := fac_bn (k + 1) (z + 1)
  have h2 := fac_bn (k + 1) z
  have h3 := fac_bn k z
  refine Int.eq_of_mul_eq_mul_left (a := fac (k + 1)) (by have := fac_pos (k + 1); omega) ?_
  rw [h1, fall_step, Int.mul_add, h2]
  show _ = _ + ((k : Int) + 1) * fac k * bn z k
  rw [Int.mul_assoc, h3]
theorem bn_zero : ∀ k, bn 0 (k + 1) = 0
  | 0 => by decide
  | k + 1 => by
    show bn 0 (k + 1) * _ / _ = 0
    rw [bn_zero k, Int.zero_mul, Int.zero_ediv]
/-! ### Newton's form -/
def nw (e : Nat → Int) : Nat → Int
  | 0 => e 0
  | j + 1 => nw e j + nw (fun q => e (q + 1)) j
theorem nw_add (e f : Nat → Int) : ∀ j, nw (fun q => e q + f q) j = nw e j + nw f j := by
  intro j
  induction j generalizing e f with
  | zero => rfl
  | succ j ih =>
    show nw (fun q => e q + f q) j + nw (fun q => e (q + 1) + f (q + 1)) j = (nw e j + nw (fun q => e (q + 1)) j) + (nw f j + nw (fun q => f (q + 1)) j)
    rw [ih, ih]
    omega
theorem nw_congr : ∀ (j : Nat) {e f : Nat → Int}, (∀ q, q ≤ j → e q = f q) → nw e j = nw f j
  | 0, e, f, h => h 0 (Nat.le_refl _)
  | j + 1, e, f, h => by
    show nw e j + nw (fun q => e (q + 1)) j = nw f j + nw (fun q => f (q + 1)) j
    rw [nw_congr j fun q hq => h q (by omega), nw_congr j fun q hq => h (q + 1) (by omega)]
theorem nw_zero : ∀ j, nw (fun _ => 0) j = 0
  | 0 => rfl
  | j + 1 => by
    show nw (fun _ => 0) j + nw (fun _ => 0) j = 0
    rw [nw_zero j]
    rfl
/-- two axes in either order -/
theorem nw_swap : ∀ (i : Nat) (c : Nat → Nat → Int) (j : Nat), nw (fun p => nw (c p) j) i = nw (fun q => nw (fun p => c p q) i) j
  | 0, c, j => rfl
  | i + 1, c, j => by
    show nw (fun p => nw (c p) j) i + nw (fun p => nw (c (p + 1)) j) i = nw (fun q => nw (fun p => c p q) i + nw (fun p => c (p + 1) q) i) j
    rw [nw_add, nw_swap i c j, nw_swap i (fun p => c (p + 1)) j]
def smI : Nat → (Nat → Int) → Int
  | 0, _ => 0
  | n + 1, f => smI n f + f n
theorem smI_congr : ∀ {n : Nat} {f g : Nat → Int}, (∀ i, i < n → f i = g i) → smI n f = smI n g
  | 0, _, _, _ => rfl
  | n + 1, f, g, h => by
    show smI n f + f n = smI n g + g n
    rw [smI_congr fun i hi => h i (by omega), h n (by omega)]
theorem smI_add (n : Nat) (f g : Nat → Int) : smI n (fun i => f i + g i) = smI n f + smI n g := by
  induction n with
  | zero => rfl
  | succ n ih =>
    show smI n (fun i => f i + g i) + (f n + g n) = smI n f + f n + (smI n g + g n)
    omega
theorem smI_front (n : Nat) (f : Nat → Int) : smI (n + 1) f = f 0 + smI n fun i => f (i + 1) := by
  induction n with
  | zero =>
    show 0 + f 0 = f 0 + 0
    omega
  | succ n ih =>
    show smI (n + 1) f + f (n + 1) = f 0 + (smI n (fun i => f (i + 1)) + f (n + 1))
    rw [ih]
    omega
theorem smI_zero (n : Nat) : smI n (fun _ => 0) = 0 := by
  induction n with
  | zero => rfl
  | succ n ih =>
    show smI n (fun _ => 0) + 0 = 0
    omega
/-- the sum over binomials is Newton's form -/
theorem smI_nw : ∀ (j n : Nat) (c : Nat → Int), (∀ k, n ≤ k → c k = 0) → smI n (fun k => c k * bn (j : Int) k) = nw c j
  | j, 0, c, h => by
    have : nw c j = nw (fun _ => 0) j := nw_congr j fun q _ => h q (Nat.zero_le _)
    rw [this, nw_zero]
    rfl
  | 0, n + 1, c, h => by
    rw [smI_front]
    have : smI n (fun i => c (i + 1) * bn ((0 : Nat) : Int) (i + 1)) = smI n fun _ => 0 := smI_congr fun i _ => by
      show c (i + 1) * bn 0 (i + 1) = 0
      rw [bn_zero, Int.mul_zero]
    rw [this, smI_zero]
    show c 0 * 1 + 0 = c 0
    omega
  | j + 1, n + 1, c, h => by
    show _ = nw c j + nw (fun q => c (q + 1)) j
    rw [← smI_nw j (n + 1) c h, ← smI_nw j n (fun q => c (q + 1)) (fun k hk => h (k + 1) (by omega)), smI_front, smI_front]
    have e : smI n (fun i => c (i + 1) * bn ((j + 1 : Nat) : Int) (i + 1)) = smI n (fun i => c (i + 1) * bn (j : Int) (i + 1) + c (i + 1) * bn (j : Int) i) := smI_congr fun i _ => by
      rw [show ((j + 1 : Nat) : Int) = (j : Int) + 1 from rfl, bn_pascal, Int.mul_add]
    rw [e, smI_add]
    show c 0 * 1 + _ = c 0 * 1 + _ + _
    omega
/-! ### differences -/
def dfs (M : Int) : List Int → List Int
  | [] => []
  | [_] => []
  | a :: b :: r => (b - a) % M :: dfs M (b :: r)
theorem dfs_len (M : Int) : ∀ xs : List Int, (dfs M xs).length = xs.length - 1
  | [] => rfl
  | [_] => rfl
  | a :: b :: r => by
    show (dfs M (b :: r)).length + 1 = _
    rw [dfs_len M (b :: r)]
    show r.length + 1 - 1 + 1 = r.length + 1 + 1 - 1
    omega
/-- what `differences` gives -/
def diff (M : Int) : Nat → List Int → List Int
  | 0, _ => []
  | _ + 1, [] => []
  | k + 1, a :: r => a :: diff M k (dfs M (a :: r))
theorem mod_sub (a b M : Int) : (a % M - b % M) % M = (a - b) % M := by rw [← Int.sub_emod]
theorem dfs_nw (M : Int) (e : Nat → Int) : ∀ n s, dfs M ((List.range n).map fun j => nw e (s + j) % M) = (List.range (n - 1)).map fun j => nw (fun q => e (q + 1)) (s + j) % M
  | 0, _ => rfl
  | 1, _ => rfl
  | n + 2, s => by
    have ih := dfs_nw M e (n + 1) (s + 1)
    have e1 : ∀ (m : Nat) (f : Nat → Int), (List.range (m + 1)).map f = f 0 :: (List.range m).map fun j => f (j + 1) := fun m f => by
      rw [List.range_succ_eq_map, List.map_cons, List.map_map]
      rfl
    rw [e1 (n + 1), e1 n]
    show (nw e (s + (0 + 1)) % M - nw e (s + 0) % M) % M :: dfs M _ = _
    rw [show n + 2 - 1 = n + 1 from rfl, e1 n, mod_sub]
    have h0 : nw e (s + (0 + 1)) - nw e (s + 0) = nw (fun q => e (q + 1)) (s + 0) := by
      show nw e (s + 0) + nw (fun q => e (q + 1)) (s + 0) - nw e (s + 0) = _
      omega
    rw [h0]
    congr 1
    rw [← e1 n fun j => nw e (s + (j + 1)) % M]
    have h1 : (fun j => nw e (s + 1 + j) % M) = fun j => nw e (s + (j + 1)) % M := funext fun j => by rw [show s + 1 + j = s + (j + 1) by omega]
    rw [h1] at ih
    rw [ih, show n + 1 - 1 = n from rfl]
    refine List.map_congr_left fun j _ => ?_
    rw [show s + 1 + j = s + (j + 1) by omega]
theorem diff_nw (M : Int) : ∀ (n : Nat) (e : Nat → Int), diff M n ((List.range n).map fun j => nw e j % M) = (List.range n).map fun q => e q % M
  | 0, _ => rfl
  | n + 1, e => by
    have e1 : ∀ (m : Nat) (f : Nat → Int), (List.range (m + 1)).map f = f 0 :: (List.range m).map fun j => f (j + 1) := fun m f => by
      rw [List.range_succ_eq_map, List.map_cons, List.map_map]
      rfl
    have d := dfs_nw M e (n + 1) 0
    simp only [Nat.zero_add] at d
    rw [show n + 1 - 1 = n from rfl] at d
    have key : diff M (n + 1) ((List.range (n + 1)).map fun j => nw e j % M) = nw e 0 % M :: diff M n (dfs M ((List.range (n + 1)).map fun j => nw e j % M)) := by
      rw [e1 n]
      rfl
    rw [key, d, diff_nw M n fun q => e (q + 1), e1 n]
    rfl
end My

set_option Elab.async false
set_option linter.all false
set_option maxRecDepth 100000
set_option maxHeartbeats 1000000
namespace My
open PySem L2 MyR
/-! ### binomials modulo 2 (Lucas), for any top -/
/-- each bit of n is one of z -/
def lu (z : Int) (n : Nat) : Bool := if n = 0 then true else (decide (n % 2 = 0) || decide (z % 2 = 1)) && lu (z / 2) (n / 2)
termination_by n
decreasing_by omega
theorem lu_zero (z : Int) : lu z 0 = true := by rw [lu]; rfl
theorem lu_even (z : Int) (n : Nat) : lu z (2 * n) = lu (z / 2) n := by
  by_cases e : n = 0
  · subst e
    rw [Nat.mul_zero, lu_zero, lu_zero]
  · rw [lu, if_neg (by omega), show 2 * n % 2 = 0 from by omega, show 2 * n / 2 = n from by omega]
    simp
theorem lu_odd (z : Int) (n : Nat) : lu z (2 * n + 1) = (decide (z % 2 = 1) && lu (z / 2) n) := by
  rw [lu, if_neg (by omega), show (2 * n + 1) % 2 = 1 from by omega, show (2 * n + 1) / 2 = n from by omega]
  simp
theorem lu_pascal : ∀ (n : Nat) (z : Int), lu (z + 1) (n + 1) = xor (lu z (n + 1)) (lu z n) := by
  intro n
  induction n using Nat.strongRecOn with
  | ind n ih =>
    intro z
    have hz : z % 2 = 0 ∨ z % 2 = 1 := by omega
    have hn : n % 2 = 0 ∨ n % 2 = 1 := by omega
    rcases hn with hn | hn
    · obtain ⟨k, rfl⟩ : ∃ k, n = 2 * k := ⟨n / 2, by omega⟩
      rw [lu_odd, lu_odd, lu_even]
      rcases hz with hz | hz
      · rw [show (z + 1) % 2 = 1 from by omega, show (z + 1) / 2 = z / 2 from by omega, hz]
        simp
      · rw [show (z + 1) % 2 = 0 from by omega, hz]
        simp
    · obtain ⟨k, rfl⟩ : ∃ k, n = 2 * k + 1 := ⟨n / 2, by omega⟩
      rw [show 2 * k + 1 + 1 = 2 * (k + 1) from by omega, lu_even, lu_even, lu_odd]
      rcases hz with hz | hz
      · rw [show (z + 1) / 2 = z / 2 from by omega, hz]
        simp
      · rw [show (z + 1) / 2 = z / 2 + 1 from by omega, hz, ih k (by omega)]
        simp
theorem lu_zero_top : ∀ n : Nat, lu 0 (n + 1) = false := by
  intro n
  induction n using Nat.strongRecOn with
  | ind n ih =>
    have hn : n % 2 = 0 ∨ n % 2 = 1 := by omega
    rcases hn with hn | hn
    · obtain ⟨k, rfl⟩ : ∃ k, n = 2 * k := ⟨n / 2, by omega⟩
      rw [lu_odd]
      simp
    · obtain ⟨k, rfl⟩ : ∃ k, n = 2 * k + 1 := ⟨n / 2, by omega⟩
      rw [show 2 * k + 1 + 1 = 2 * (k + 1) from by omega, lu_even]
      exact ih k (by omega)
theorem bn_lu : ∀ (n : Nat) (z : Int), bn z n % 2 = if lu z n = true then 1 else 0 := by
  intro n
  induction n with
  | zero =>
    intro z
    rw [lu_zero]
    rfl
  | succ n ih =>
    have step : ∀ z : Int, (bn z (n + 1) % 2 = if lu z (n + 1) = true then 1 else 0) ↔ (bn (z + 1) (n + 1) % 2 = if lu (z + 1) (n + 1) = true then 1 else 0) := fun z => by
      have h1 := bn_pascal z n
      have h2 := ih z
      rw [lu_pascal, h1]
      cases e1 : lu z (n + 1) <;> cases e2 : lu z n <;> rw [e2] at h2 <;> simp at h2 ⊢ <;> omega
    have up : ∀ k : Nat, bn (k : Int) (n + 1) % 2 = if lu (k : Int) (n + 1) = true then 1 else 0 := fun k => by
      induction k with
      | zero =>
        show bn 0 (n + 1) % 2 = if lu 0 (n + 1) = true then 1 else 0
        rw [bn_zero, lu_zero_top]
        rfl
      | succ k ihk => exact (step (k : Int)).mp ihk
    have dn : ∀ k : Nat, bn (-(k : Int)) (n + 1) % 2 = if lu (-(k : Int)) (n + 1) = true then 1 else 0 := fun k => by
      induction k with
      | zero => exact up 0
      | succ k ihk =>
        refine (step (-((k + 1 : Nat) : Int))).mpr ?_
        rw [show -((k + 1 : Nat) : Int) + 1 = -(k : Int) from by omega]
        exact ihk
    intro z
    by_cases h : 0 ≤ z
    · obtain ⟨k, rfl⟩ : ∃ k : Nat, z = (k : Int) := ⟨z.toNat, by omega⟩
      exact up k
    · obtain ⟨k, rfl⟩ : ∃ k : Nat, z = -(k : Int) := ⟨(-z).toNat, by omega⟩
      exact dn k
end My

set_option Elab.async false
set_option linter.all false
set_option maxRecDepth 100000
set_option maxHeartbeats 1000000
namespace My
open PySem L2 MyR
/-! ### the program's test for it: number & ~z is 0 -/
theorem and_half (a b : Nat) : a &&& b = 2 * (a / 2 &&& b / 2) + (a % 2) * (b % 2) := by
  have h1 : (a &&& b) / 2 = a / 2 &&& b / 2 := Nat.and_div_two
  have h2 : (a &&& b) % 2 = (a % 2) * (b % 2) := by
    have h3 := Nat.and_mod_two_pow (a := a) (b := b) (n := 1)
    rw [Nat.pow_one] at h3
    rw [h3]
    rcases Nat.mod_two_eq_zero_or_one a with ha | ha <;> rcases Nat.mod_two_eq_zero_or_one b with hb | hb <;> rw [ha, hb] <;> rfl
  omega
theorem lu_pos : ∀ n m : Nat, (n &&& m = n) ↔ lu (m : Int) n = true := by
  intro n
  induction n using Nat.strongRecOn with
  | ind n ih =>
    intro m
    by_cases e : n = 0
    · subst e
      rw [lu_zero, Nat.zero_and]
      simp
    · have hi := ih (n / 2) (by omega) (m / 2)
      have hm : ((m / 2 : Nat) : Int) = (m : Int) / 2 := by omega
      rw [hm] at hi
      have hh := and_half n m
      rcases Nat.mod_two_eq_zero_or_one n with hn | hn
      · obtain ⟨k, rfl⟩ : ∃ k, n = 2 * k := ⟨n / 2, by omega⟩
        rw [show 2 * k / 2 = k from by omega] at hi hh
        rw [lu_even, ← hi, hh, hn]
        omega
      · obtain ⟨k, rfl⟩ : ∃ k, n = 2 * k + 1 := ⟨n / 2, by omega⟩
        rw [show (2 * k + 1) / 2 = k from by omega] at hi hh
        rw [lu_odd, hh, hn, Bool.and_eq_true, ← hi]
        rcases Nat.mod_two_eq_zero_or_one m with h | h
        · rw [h, decide_eq_true_eq]
          omega
        · rw [h, decide_eq_true_eq]
          omega
theorem lu_neg : ∀ n m : Nat, (n &&& m = 0) ↔ lu (-(m : Int) - 1) n = true := by
  intro n
  induction n using Nat.strongRecOn with
  | ind n ih =>
    intro m
    by_cases e : n = 0
    · subst e
      rw [lu_zero, Nat.zero_and]
      simp
    · have hi := ih (n / 2) (by omega) (m / 2)
      have hm : (-((m / 2 : Nat) : Int) - 1) = (-(m : Int) - 1) / 2 := by omega
      rw [hm] at hi
      have hh := and_half n m
      rcases Nat.mod_two_eq_zero_or_one n with hn | hn
      · obtain ⟨k, rfl⟩ : ∃ k, n = 2 * k := ⟨n / 2, by omega⟩
        rw [show 2 * k / 2 = k from by omega] at hi hh
        rw [lu_even, ← hi, hh, hn]
        omega
      · obtain ⟨k, rfl⟩ : ∃ k, n = 2 * k + 1 := ⟨n / 2, by omega⟩
        rw [show (2 * k + 1) / 2 = k from by omega] at hi hh
        rw [lu_odd, hh, hn, Bool.and_eq_true, ← hi]
        rcases Nat.mod_two_eq_zero_or_one m with h | h
        · rw [h, decide_eq_true_eq]
          omega
        · rw [h, decide_eq_true_eq]
          omega
theorem lu_test (n : Nat) (z : Int) : Builtin.bitAnd (n : Int) (Builtin.bitNot z) = 0 ↔ lu z n = true := by
  rw [PyProof.Rows.bitAnd_not]
  by_cases hz : 0 ≤ z
  · obtain ⟨m, rfl⟩ : ∃ m : Nat, z = (m : Int) := ⟨z.toNat, by omega⟩
    rw [PyProof.Rows.bitAnd_pp (by omega) hz, ← lu_pos, Int.toNat_natCast, Int.toNat_natCast]
    omega
  · obtain ⟨m, rfl⟩ : ∃ m : Nat, z = -(m : Int) - 1 := ⟨(-z - 1).toNat, by omega⟩
    rw [PyProof.Rows.bitAnd_pn (by omega) hz, ← lu_neg]
    have e : (Builtin.bitNot (-(m : Int) - 1)).toNat = m := by unfold Builtin.bitNot; omega
    rw [e, Int.toNat_natCast]
    omega
end My

set_option Elab.async false
set_option linter.all false
set_option maxRecDepth 100000
set_option maxHeartbeats 1000000
namespace My
open PySem L2 MyR
/-! ### elimination over two elements: rows told by their highest bit -/
def dotB : Nat → (Nat → Bool) → (Nat → Bool) → Bool
  | 0, _, _ => false
  | m + 1, a, x => xor (dotB m a x) (a m && x m)
theorem dotB_congr (a b x y : Nat → Bool) : ∀ m, (∀ i, i < m → (a i && x i) = (b i && y i)) → dotB m a x = dotB m b y
  | 0, _ => rfl
  | m + 1, h => by
    show xor (dotB m a x) (a m && x m) = xor (dotB m b y) (b m && y m)
    rw [dotB_congr a b x y m (fun i hi => h i (by omega)), h m (by omega)]
theorem dotB_zero (a x : Nat → Bool) : ∀ m, (∀ i, i < m → (a i && x i) = false) → dotB m a x = false
  | 0, _ => rfl
  | m + 1, h => by
    show xor (dotB m a x) (a m && x m) = false
    rw [dotB_zero a x m (fun i hi => h i (by omega)), h m (by omega)]
    rfl
theorem dotB_xor (a b x : Nat → Bool) : ∀ m, dotB m (fun i => xor (a i) (b i)) x = xor (dotB m a x) (dotB m b x)
  | 0 => rfl
  | m + 1 => by
    show xor (dotB m (fun i => xor (a i) (b i)) x) (xor (a m) (b m) && x m) = xor (xor (dotB m a x) (a m && x m)) (xor (dotB m b x) (b m && x m))
    rw [dotB_xor a b x m]
    cases dotB m a x <;> cases dotB m b x <;> cases a m <;> cases b m <;> cases x m <;> rfl
/-- one place more in x -/
theorem dotB_flip (a x : Nat → Bool) (n : Nat) : ∀ m, dotB m a (fun i => xor (x i) (decide (i = n))) = xor (dotB m a x) (decide (n < m) && a n)
  | 0 => by
    show false = xor false (decide (n < 0) && a n)
    simp
  | m + 1 => by
    show xor (dotB m a (fun i => xor (x i) (decide (i = n)))) (a m && xor (x m) (decide (m = n))) = xor (xor (dotB m a x) (a m && x m)) (decide (n < m + 1) && a n)
    rw [dotB_flip a x n m]
    by_cases e : m = n
    · subst e
      rw [decide_eq_true (rfl : m = m), decide_eq_false (by omega : ¬ m < m), decide_eq_true (by omega : m < m + 1)]
      cases dotB m a x <;> cases a m <;> cases x m <;> rfl
    · rw [decide_eq_false e, show decide (n < m + 1) = decide (n < m) from by rw [decide_eq_decide]; omega]
      cases dotB m a x <;> cases a m <;> cases x m <;> cases decide (n < m) <;> cases a n <;> rfl
/-- each row is kept at its highest bit -/
def Ech (E : Nat → Option Nat) : Prop := ∀ h r, E h = some r → r.testBit h = true ∧ r < 2 ^ (h + 1)
def InKer (m : Nat) (E : Nat → Option Nat) (x : Nat → Bool) : Prop := ∀ k r, k < m → E k = some r → dotB m r.testBit x = false
theorem bit_above {r k i : Nat} (h : r < 2 ^ (k + 1)) (hi : k < i) : r.testBit i = false :=
  Nat.testBit_lt_two_pow (Nat.lt_of_lt_of_le h (Nat.pow_le_pow_right (by decide) (by omega)))
theorem ker_grow (m : Nat) {E : Nat → Option Nat} (hE : Ech E) {h : Nat} (hm : h < m) (e : E h = none) : ∀ n, n ≤ m → ∃ x : Nat → Bool, x h = true ∧ (∀ i, i < h → x i = false) ∧ ∀ k r, k < n → E k = some r → dotB m r.testBit x = false
  | 0, _ => ⟨fun i => decide (i = h), by simp, fun i hi => by simp; omega, fun k r hk => by omega⟩
  | n + 1, hn => by
    obtain ⟨x, x1, x2, x3⟩ := ker_grow m hE hm e n (by omega)
    rcases Option.eq_none_or_eq_some (E n) with e1 | ⟨r, e1⟩
    · refine ⟨x, x1, x2, fun k r hk hr => ?_⟩
      by_cases ek : k = n
      · rw [ek, e1] at hr
        exact absurd hr (by simp)
      · exact x3 k r (by omega) hr
    · have hnh : n ≠ h := fun hh => by rw [hh, e] at e1; exact absurd e1 (by simp)
      obtain ⟨r1, r2⟩ := hE n r e1
      by_cases lo : n < h
      · refine ⟨x, x1, x2, fun k s hk hs => ?_⟩
        by_cases ek : k = n
        · subst ek
          rw [e1] at hs
          injection hs with hs
          subst hs
          refine dotB_zero _ _ _ fun i hi => ?_
          by_cases ih : i < h
          · rw [x2 i ih, Bool.and_false]
          · rw [bit_above r2 (by omega), Bool.false_and]
        · exact x3 k s (by omega) hs
      · cases d : dotB m r.testBit x
        · refine ⟨x, x1, x2, fun k s hk hs => ?_⟩
          by_cases ek : k = n
          · subst ek
            rw [e1] at hs
            injection hs with hs
            subst hs
            exact d
          · exact x3 k s (by omega) hs
        · refine ⟨fun i => xor (x i) (decide (i = n)), ?_, fun i hi => ?_, fun k s hk hs => ?_⟩
          · show xor (x h) (decide (h = n)) = true
            rw [x1, decide_eq_false (by omega)]
            rfl
          · show xor (x i) (decide (i = n)) = false
            rw [x2 i hi, decide_eq_false (by omega)]
            rfl
          · rw [dotB_flip]
            by_cases ek : k = n
            · subst ek
              rw [e1] at hs
              injection hs with hs
              subst hs
              rw [d, r1, decide_eq_true (by omega)]
              rfl
            · rw [x3 k s (by omega) hs, bit_above (hE k s hs).2 (by omega), Bool.and_false]
              rfl
/-- where a place has no row, something of the kernel begins there -/
theorem ker_free (m : Nat) {E : Nat → Option Nat} (hE : Ech E) {h : Nat} (hm : h < m) (e : E h = none) : ∃ x : Nat → Bool, x h = true ∧ (∀ i, i < h → x i = false) ∧ InKer m E x :=
  ker_grow m hE hm e m (Nat.le_refl m)
/-- such a thing tells a vector whose highest bit is there -/
theorem dot_top {m h v : Nat} {x : Nat → Bool} (x1 : x h = true) (x2 : ∀ i, i < h → x i = false) (v1 : v.testBit h = true) (v2 : v < 2 ^ (h + 1)) : ∀ n, dotB n v.testBit x = decide (h < n)
  | 0 => by
    show false = decide (h < 0)
    simp
  | n + 1 => by
    show xor (dotB n v.testBit x) (v.testBit n && x n) = decide (h < n + 1)
    rw [dot_top (m := m) x1 x2 v1 v2 n]
    by_cases e : n = h
    · subst e
      rw [v1, x1, decide_eq_false (by omega), decide_eq_true (by omega)]
      rfl
    · rw [show decide (h < n + 1) = decide (h < n) from by rw [decide_eq_decide]; omega]
      by_cases lo : n < h
      · rw [x2 n lo]
        simp
      · rw [bit_above v2 (by omega)]
        simp
/-- with a row at each place only nothing is left -/
theorem ker_full (m : Nat) {E : Nat → Option Nat} (hE : Ech E) (full : ∀ h, h < m → (E h).isSome = true) {x : Nat → Bool} (hx : InKer m E x) : ∀ i, i < m → x i = false := by
  intro i
  induction i using Nat.strongRecOn with
  | ind i ih =>
    intro hi
    obtain ⟨r, er⟩ := Option.isSome_iff_exists.mp (full i hi)
    cases ex : x i
    · rfl
    · have h1 := dot_top (m := m) ex (fun j hj => ih j hj (by omega)) (hE i r er).1 (hE i r er).2 m
      rw [hx i r hi er, decide_eq_true hi] at h1
      exact h1.symm
/-! what is left of a vector -/
def redE (E : Nat → Option Nat) : Nat → Nat → Nat
  | 0, v => v
  | n + 1, v => if v = 0 then 0 else match E v.log2 with
    | none => v
    | some r => redE E n (v ^^^ r)
theorem bit_log2 {v : Nat} (h : v ≠ 0) : v.testBit v.log2 = true := by
  have h1 := (Nat.log2_eq_iff (k := v.log2) h).mp rfl
  rw [Nat.testBit_eq_decide_div_mod_eq, decide_eq_true_eq]
  have h2 : v / 2 ^ v.log2 = 1 := by
    rw [Nat.div_eq_iff (Nat.two_pow_pos _)]
    rw [Nat.pow_succ] at h1
    omega
  rw [h2]
theorem xor_less {v r h : Nat} (v1 : v.testBit h = true) (v2 : v < 2 ^ (h + 1)) (r1 : r.testBit h = true) (r2 : r < 2 ^ (h + 1)) : v ^^^ r < 2 ^ h := by
  refine Nat.lt_pow_two_of_testBit _ fun i hi => ?_
  rw [Nat.testBit_xor]
  by_cases e : i = h
  · subst e
    rw [v1, r1]
    rfl
  · rw [bit_above v2 (by omega), bit_above r2 (by omega)]
    rfl
theorem red_ok {E : Nat → Option Nat} (hE : Ech E) (m : Nat) (x : Nat → Bool) (hx : InKer m E x) : ∀ n v, v < 2 ^ n → n ≤ m → redE E n v < 2 ^ n ∧ (redE E n v = 0 ∨ E (redE E n v).log2 = none) ∧ dotB m (redE E n v).testBit x = dotB m v.testBit x
  | 0, v, h, _ => ⟨h, Or.inl (by have : v = 0 := by omega
                                 exact this), rfl⟩
  | n + 1, v, h, hm => by
    unfold redE
    by_cases e : v = 0
    · rw [if_pos e, e]
      exact ⟨Nat.two_pow_pos _, Or.inl rfl, rfl⟩
    · rw [if_neg e]
      have hv := (Nat.log2_eq_iff (k := v.log2) e).mp rfl
      have hl : v.log2 < n + 1 := (Nat.log2_lt e).mpr h
      rcases Option.eq_none_or_eq_some (E v.log2) with e1 | ⟨r, e1⟩
      · rw [e1]
        exact ⟨h, Or.inr e1, rfl⟩
      · rw [e1]
        obtain ⟨r1, r2⟩ := hE _ _ e1
        have hs := xor_less (bit_log2 e) hv.2 r1 r2
        have hp : 2 ^ v.log2 ≤ 2 ^ n := Nat.pow_le_pow_right (by decide) (by omega)
        have hp2 : 2 ^ n ≤ 2 ^ (n + 1) := Nat.pow_le_pow_right (by decide) (by omega)
        obtain ⟨a, b, c⟩ := red_ok hE m x hx n (v ^^^ r) (by omega) (by omega)
        refine ⟨Nat.lt_of_lt_of_le a hp2, b, c.trans ?_⟩
        rw [dotB_congr (v ^^^ r).testBit (fun i => xor (v.testBit i) (r.testBit i)) x x m (fun i _ => by rw [Nat.testBit_xor]), dotB_xor, hx _ _ (by omega) e1, Bool.xor_false]
end My

set_option Elab.async false
set_option linter.all false
set_option maxRecDepth 100000
set_option maxHeartbeats 1000000
namespace My
open PySem L2 MyR
/-! ### class by class -/
abbrev Eqs := Nat → Nat → Option Nat
def at37 (P : Nat) (x : Nat → Bool) (c : Nat) : Nat → Bool := fun p => x (c * P + p)
def GKer (C P : Nat) (E : Eqs) (x : Nat → Bool) : Prop := ∀ c, c < C → InKer P (E c) (at37 P x c)
def putE (E : Eqs) (c r : Nat) : Eqs := fun c' h => if c' = c ∧ h = r.log2 then some r else E c' h
def EchAll (E : Eqs) : Prop := ∀ c, Ech (E c)
theorem putE_same (E : Eqs) (c r : Nat) : putE E c r c r.log2 = some r := if_pos ⟨rfl, rfl⟩
theorem putE_other {E : Eqs} {c r c' h : Nat} (n : ¬ (c' = c ∧ h = r.log2)) : putE E c r c' h = E c' h := if_neg n
theorem putE_ech {E : Eqs} {c r : Nat} (hE : EchAll E) (hr : r ≠ 0) : EchAll (putE E c r) := fun c' h s hs => by
  by_cases e : c' = c ∧ h = r.log2
  · obtain ⟨rfl, rfl⟩ := e
    rw [putE_same] at hs
    injection hs with hs
    subst hs
    exact ⟨bit_log2 hr, ((Nat.log2_eq_iff hr).mp rfl).2⟩
  · rw [putE_other e] at hs
    exact hE c' h s hs
/-- a vector of which nothing is left says nothing new -/
theorem ge_none {C P : Nat} {E : Eqs} {c v : Nat} {x : Nat → Bool} (hE : EchAll E) (hc : c < C) (hv : v < 2 ^ P) (hr : redE (E c) P v = 0) (hx : GKer C P E x) : dotB P v.testBit (at37 P x c) = false := by
  have h1 := (red_ok (hE c) P _ (hx c hc) P v hv (Nat.le_refl P)).2.2
  rw [hr] at h1
  rw [← h1]
  exact dotB_zero _ _ _ fun i _ => by rw [Nat.zero_testBit, Bool.false_and]
/-- what is left has no row at its highest bit (with the zero function in the kernel) -/
theorem red_top {P : Nat} {E : Nat → Option Nat} {v : Nat} (hE : Ech E) (hv : v < 2 ^ P) (hr : redE E P v ≠ 0) : redE E P v < 2 ^ P ∧ E (redE E P v).log2 = none ∧ (redE E P v).log2 < P := by
  have h1 := red_ok hE P (fun _ => false) (fun k r _ _ => dotB_zero _ _ _ fun i _ => Bool.and_false _) P v hv (Nat.le_refl P)
  exact ⟨h1.1, h1.2.1.resolve_left hr, (Nat.log2_lt hr).mpr h1.1⟩
theorem ge_some {C P : Nat} {E : Eqs} {c v : Nat} (hE : EchAll E) (hc : c < C) (hv : v < 2 ^ P) (hr : redE (E c) P v ≠ 0) (x : Nat → Bool) : GKer C P (putE E c (redE (E c) P v)) x ↔ GKer C P E x ∧ dotB P v.testBit (at37 P x c) = false := by
  obtain ⟨t1, t2, t3⟩ := red_top (hE c) hv hr
  constructor
  · intro h
    have h1 : GKer C P E x := fun c' hc' k r hk er => by
      by_cases e : c' = c ∧ k = (redE (E c) P v).log2
      · obtain ⟨rfl, rfl⟩ := e
        rw [t2] at er
        exact absurd er (by simp)
      · exact h c' hc' k r hk (by rw [putE_other e]; exact er)
    refine ⟨h1, ?_⟩
    rw [← (red_ok (hE c) P _ (h1 c hc) P v hv (Nat.le_refl P)).2.2]
    exact h c hc _ _ t3 (putE_same _ _ _)
  · rintro ⟨h1, h2⟩ c' hc' k r hk er
    by_cases e : c' = c ∧ k = (redE (E c) P v).log2
    · obtain ⟨rfl, rfl⟩ := e
      rw [putE_same] at er
      injection er with er
      rw [← er, (red_ok (hE c') P _ (h1 c' hc') P v hv (Nat.le_refl P)).2.2]
      exact h2
    · rw [putE_other e] at er
      exact h1 c' hc' k r hk er
/-- a thing that lies in one class only -/
def only37 (P c : Nat) (y : Nat → Bool) : Nat → Bool := fun i => decide (i / P = c) && y (i % P)
theorem only_same {P c p : Nat} (hp : p < P) (y : Nat → Bool) : at37 P (only37 P c y) c p = y p := by
  have h1 : (c * P + p) / P = c := by
    rw [Nat.mul_comm, Nat.mul_add_div (by omega), Nat.div_eq_of_lt hp]
    rfl
  have h2 : (c * P + p) % P = p := by
    rw [Nat.mul_comm, Nat.mul_add_mod, Nat.mod_eq_of_lt hp]
  show (decide ((c * P + p) / P = c) && y ((c * P + p) % P)) = y p
  rw [h1, h2, decide_eq_true rfl, Bool.true_and]
theorem only_other {P c c' p : Nat} (hp : p < P) (n : c' ≠ c) (y : Nat → Bool) : at37 P (only37 P c y) c' p = false := by
  have h1 : (c' * P + p) / P = c' := by
    rw [Nat.mul_comm, Nat.mul_add_div (by omega), Nat.div_eq_of_lt hp]
    rfl
  show (decide ((c' * P + p) / P = c) && y ((c' * P + p) % P)) = false
  rw [h1, decide_eq_false n, Bool.false_and]
theorem only_ker {C P c : Nat} {E : Eqs} {y : Nat → Bool} (hy : InKer P (E c) y) : GKer C P E (only37 P c y) := fun c' _ k r hk er => by
  by_cases e : c' = c
  · subst e
    rw [dotB_congr r.testBit r.testBit _ y P fun i hi => by rw [only_same hi]]
    exact hy k r hk er
  · exact dotB_zero _ _ _ fun i hi => by rw [only_other hi e, Bool.and_false]
/-- a vector of which something is left takes something away -/
theorem ge_gone {C P : Nat} {E : Eqs} {c v : Nat} (hE : EchAll E) (hc : c < C) (hv : v < 2 ^ P) (hr : redE (E c) P v ≠ 0) : ∃ x, GKer C P E x ∧ dotB P v.testBit (at37 P x c) = true := by
  obtain ⟨t1, t2, t3⟩ := red_top (hE c) hv hr
  obtain ⟨y, y1, y2, y3⟩ := ker_free P (hE c) t3 t2
  refine ⟨only37 P c y, only_ker y3, ?_⟩
  rw [dotB_congr v.testBit v.testBit _ y P fun i hi => by rw [only_same hi], ← (red_ok (hE c) P _ y3 P v hv (Nat.le_refl P)).2.2,
    dot_top (m := P) y1 y2 (bit_log2 hr) ((Nat.log2_eq_iff hr).mp rfl).2 P]
  exact decide_eq_true t3
theorem ge_full {C P : Nat} {E : Eqs} (hE : EchAll E) (full : ∀ c h, c < C → h < P → (E c h).isSome = true) {x : Nat → Bool} (hx : GKer C P E x) : ∀ i, i < C * P → x i = false := fun i hi => by
  have hP : 0 < P := Nat.pos_of_ne_zero fun h => by rw [h] at hi; omega
  have hc : i / P < C := (Nat.div_lt_iff_lt_mul hP).mpr hi
  have h1 := ker_full P (hE (i / P)) (fun h hh => full _ h hc hh) (hx _ hc) (i % P) (Nat.mod_lt _ hP)
  have h2 : i / P * P + i % P = i := by rw [Nat.mul_comm]; exact Nat.div_add_mod i P
  unfold at37 at h1
  rw [h2] at h1
  exact h1
theorem ge_free {C P : Nat} {E : Eqs} (hE : EchAll E) {c h : Nat} (hc : c < C) (hh : h < P) (e : E c h = none) : ∃ x, GKer C P E x ∧ ∃ i, i < C * P ∧ x i = true := by
  obtain ⟨y, y1, y2, y3⟩ := ker_free P (hE c) hh e
  refine ⟨only37 P c y, only_ker y3, c * P + h, ?_, (only_same hh y).trans y1⟩
  have : (c + 1) * P ≤ C * P := Nat.mul_le_mul_right P hc
  rw [Nat.succ_mul] at this
  omega
theorem ge_nil (C P : Nat) (x : Nat → Bool) : GKer C P (fun _ _ => none) x := fun c _ k r _ h => absurd h (by simp)
theorem ge_zero (C P : Nat) (E : Eqs) : GKer C P E (fun _ => false) := fun c _ k r _ _ => dotB_zero _ _ _ fun i _ => Bool.and_false _
/-! the law's row over all classes speaks of its own class only -/
theorem dotB_add (a x : Nat → Bool) (m : Nat) : ∀ n, dotB (m + n) a x = xor (dotB m a x) (dotB n (fun i => a (m + i)) (fun i => x (m + i)))
  | 0 => by
    show dotB m a x = xor (dotB m a x) false
    rw [Bool.xor_false]
  | n + 1 => by
    show xor (dotB (m + n) a x) (a (m + n) && x (m + n)) = xor (dotB m a x) (xor (dotB n (fun i => a (m + i)) (fun i => x (m + i))) (a (m + n) && x (m + n)))
    rw [dotB_add a x m n, Bool.xor_assoc]
theorem dot_class (P c : Nat) (o x : Nat → Bool) : ∀ C, dotB (C * P) (only37 P c o) x = (decide (c < C) && dotB P o (at37 P x c))
  | 0 => by
    rw [Nat.zero_mul, decide_eq_false (by omega)]
    rfl
  | C + 1 => by
    rw [Nat.succ_mul, dotB_add, dot_class P c o x C]
    by_cases e : C = c
    · subst e
      rw [decide_eq_false (by omega), decide_eq_true (by omega), Bool.false_and, Bool.true_and, Bool.false_xor]
      exact dotB_congr _ _ _ _ P fun i hi => by
        have h1 : only37 P C o (C * P + i) = o i := only_same hi o
        rw [h1]
        rfl
    · rw [dotB_zero (fun i => only37 P c o (C * P + i)) _ P fun i hi => by
        have h1 : only37 P c o (C * P + i) = false := only_other hi e o
        rw [h1, Bool.false_and], Bool.xor_false, show decide (c < C + 1) = decide (c < C) from by rw [decide_eq_decide]; omega]
end My

set_option Elab.async false
set_option linter.all false
set_option maxRecDepth 100000
set_option maxHeartbeats 1000000
namespace My
open PySem L2 MyR
/-! ### the law's functions: each factor 0 or t -/
def fnF (t : Int) (n : Nat) (x : Nat → Bool) : List Int := (List.range n).map fun i => if x i = true then t else 0
def allF (t : Int) : Nat → List (List Int)
  | 0 => [[]]
  | n + 1 => (allF t n).map (· ++ [0]) ++ (allF t n).map (· ++ [t])
theorem fnF_succ (t : Int) (n : Nat) (x : Nat → Bool) : fnF t (n + 1) x = fnF t n x ++ [if x n = true then t else 0] := by
  unfold fnF
  rw [List.range_succ, List.map_append]
  rfl
theorem fnF_congr (t : Int) (n : Nat) (x y : Nat → Bool) (h : ∀ i, i < n → x i = y i) : fnF t n x = fnF t n y :=
  List.map_congr_left fun i hi => by rw [h i (List.mem_range.mp hi)]
theorem fnF_inj {t : Int} (ht : t ≠ 0) {n : Nat} {x y : Nat → Bool} (h : fnF t n x = fnF t n y) : ∀ i, i < n → x i = y i := fun i hi => by
  have h1 : (fnF t n x)[i]? = (fnF t n y)[i]? := by rw [h]
  unfold fnF at h1
  rw [List.getElem?_map, List.getElem?_map, List.getElem?_range hi] at h1
  simp only [Option.map_some, Option.some.injEq] at h1
  cases e1 : x i <;> cases e2 : y i <;> rw [e1, e2] at h1 <;> simp at h1 <;> first | rfl | exact absurd h1 ht | exact absurd h1.symm ht
theorem allF_mem (t : Int) : ∀ (n : Nat) (l : List Int), l ∈ allF t n ↔ ∃ x, l = fnF t n x
  | 0, l => by
    show l ∈ [[]] ↔ ∃ x, l = []
    simp
  | n + 1, l => by
    show l ∈ (allF t n).map (· ++ [0]) ++ (allF t n).map (· ++ [t]) ↔ _
    rw [List.mem_append, List.mem_map, List.mem_map]
    constructor
    · rintro (⟨k, hk, rfl⟩ | ⟨k, hk, rfl⟩)
      · obtain ⟨x, rfl⟩ := (allF_mem t n k).mp hk
        refine ⟨fun i => decide (i < n) && x i, ?_⟩
        rw [fnF_succ, fnF_congr t n (fun i => decide (i < n) && x i) x fun i hi => by rw [decide_eq_true hi, Bool.true_and]]
        simp
      · obtain ⟨x, rfl⟩ := (allF_mem t n k).mp hk
        refine ⟨fun i => !decide (i < n) || x i, ?_⟩
        rw [fnF_succ, fnF_congr t n (fun i => !decide (i < n) || x i) x fun i hi => by rw [decide_eq_true hi]; rfl]
        simp
    · rintro ⟨x, rfl⟩
      rw [fnF_succ]
      cases e : x n
      · exact Or.inl ⟨_, (allF_mem t n _).mpr ⟨x, rfl⟩, rfl⟩
      · exact Or.inr ⟨_, (allF_mem t n _).mpr ⟨x, rfl⟩, rfl⟩
theorem allF_nodup {t : Int} (ht : t ≠ 0) : ∀ n, (allF t n).Nodup
  | 0 => by
    show [([] : List Int)].Nodup
    simp
  | n + 1 => by
    show ((allF t n).map (· ++ [0]) ++ (allF t n).map (· ++ [t])).Nodup
    have hm : ∀ z : Int, ((allF t n).map (· ++ [z])).Nodup := fun z =>
      List.Pairwise.map _ (fun a b hab h => hab (List.append_cancel_right h)) (allF_nodup ht n)
    rw [List.nodup_append]
    refine ⟨hm 0, hm t, fun a ha b hb hab => ?_⟩
    obtain ⟨k, _, rfl⟩ := List.mem_map.mp ha
    obtain ⟨j, _, rfl⟩ := List.mem_map.mp hb
    have h1 := congrArg List.getLast? hab
    rw [List.getLast?_append, List.getLast?_append] at h1
    simp at h1
    exact ht h1.symm
/-! the value of such a function at a point -/
def dotI : List Int → List Int → Int
  | a :: as, b :: bs => a * b + dotI as bs
  | _, _ => 0
theorem dotI_snoc (a b : Int) : ∀ (as bs : List Int), as.length = bs.length → dotI (as ++ [a]) (bs ++ [b]) = dotI as bs + a * b
  | [], [], _ => by
    show a * b + 0 = 0 + a * b
    omega
  | c :: as, d :: bs, h => by
    show c * d + dotI (as ++ [a]) (bs ++ [b]) = c * d + dotI as bs + a * b
    rw [dotI_snoc a b as bs (Nat.succ.inj h)]
    omega
/-- the sum of the weights where x holds -/
def onI : Nat → (Nat → Int) → (Nat → Bool) → Int
  | 0, _, _ => 0
  | n + 1, w, x => onI n w x + if x n = true then w n else 0
theorem dotI_fn (t : Int) (w : Nat → Int) (x : Nat → Bool) : ∀ n, dotI (fnF t n x) ((List.range n).map w) = t * onI n w x
  | 0 => by
    show (0 : Int) = t * 0
    omega
  | n + 1 => by
    rw [fnF_succ, List.range_succ, List.map_append]
    show dotI (fnF t n x ++ [_]) ((List.range n).map w ++ [w n]) = t * (onI n w x + _)
    rw [dotI_snoc _ _ _ _ (by unfold fnF; rw [List.length_map, List.length_map]), dotI_fn t w x n, Int.mul_add]
    cases e : x n
    · simp
    · simp
theorem onI_par (w : Nat → Int) (x : Nat → Bool) : ∀ n, onI n w x % 2 = if dotB n (fun i => decide (w i % 2 = 1)) x = true then 1 else 0
  | 0 => rfl
  | n + 1 => by
    have h := onI_par w x n
    show (onI n w x + if x n = true then w n else 0) % 2 = if xor (dotB n _ x) (decide (w n % 2 = 1) && x n) = true then 1 else 0
    generalize onI n w x = o at h ⊢
    generalize dotB n (fun i => decide (w i % 2 = 1)) x = d at h ⊢
    generalize w n = u
    have hw : u % 2 = 0 ∨ u % 2 = 1 := by omega
    rcases hw with hw | hw <;> rw [hw] <;> cases d <;> cases x n <;> simp only [Bool.false_eq_true, if_true, if_false] at h ⊢ <;> simp <;> omega
theorem val_zero (b n : Nat) (w : Nat → Int) (x : Nat → Bool) : dotI (fnF (2 ^ b) n x) ((List.range n).map w) % 2 ^ (b + 1) = 0 ↔ dotB n (fun i => decide (w i % 2 = 1)) x = false := by
  have h := onI_par w x n
  rw [dotI_fn, Int.pow_succ, Int.mul_emod_mul_of_pos _ _ (Int.pow_pos (by decide : (0 : Int) < 2)), h]
  have hp : (2 : Int) ^ b ≠ 0 := Int.ne_of_gt (Int.pow_pos (by decide))
  cases dotB n (fun i => decide (w i % 2 = 1)) x
  · simp
  · simp [hp]
end My

set_option Elab.async false
set_option linter.all false
set_option maxRecDepth 100000
set_option maxHeartbeats 1000000
namespace My
open PySem L2 MyR
/-! ### the functions that are left, against the rows that are kept -/
def Left37 (C P : Nat) (t : Int) (E : Eqs) (left : List (List Int)) : Prop := left.Nodup ∧ ∀ l, l ∈ left ↔ ∃ x, l = fnF t (C * P) x ∧ GKer C P E x
theorem left_all (C P : Nat) {t : Int} (ht : t ≠ 0) : Left37 C P t (fun _ _ => none) (allF t (C * P)) :=
  ⟨allF_nodup ht _, fun l => (allF_mem t _ l).trans ⟨fun ⟨x, h⟩ => ⟨x, h, ge_nil C P x⟩, fun ⟨x, h, _⟩ => ⟨x, h⟩⟩⟩
/-- the law's test for one function at one point -/
def told37 (b : Nat) (ws l : List Int) : Bool := decide (dotI l ws % 2 ^ (b + 1) = 0)
theorem told_fn {C P b c v : Nat} {w : Nat → Int} {x : Nat → Bool} (hc : c < C) (hw : ∀ i, i < C * P → decide (w i % 2 = 1) = only37 P c v.testBit i) : told37 b ((List.range (C * P)).map w) (fnF (2 ^ b) (C * P) x) = !dotB P v.testBit (at37 P x c) := by
  have h1 : dotB (C * P) (fun i => decide (w i % 2 = 1)) x = dotB P v.testBit (at37 P x c) := by
    rw [dotB_congr _ (only37 P c v.testBit) x x _ fun i hi => by rw [hw i hi], dot_class, decide_eq_true hc, Bool.true_and]
  unfold told37
  rw [Bool.eq_iff_iff, decide_eq_true_eq, val_zero, h1]
  simp
theorem left_same {C P b c v : Nat} {E : Eqs} {w : Nat → Int} {left : List (List Int)} (hE : EchAll E) (hc : c < C) (hv : v < 2 ^ P) (hw : ∀ i, i < C * P → decide (w i % 2 = 1) = only37 P c v.testBit i)
    (hL : Left37 C P (2 ^ b) E left) (hr : redE (E c) P v = 0) : left.filter (told37 b ((List.range (C * P)).map w)) = left := by
  rw [List.filter_eq_self]
  intro l hl
  obtain ⟨x, rfl, hx⟩ := (hL.2 l).mp hl
  rw [told_fn hc hw, ge_none hE hc hv hr hx]
  rfl
theorem left_less {C P b c v : Nat} {E : Eqs} {w : Nat → Int} {left : List (List Int)} (hE : EchAll E) (hc : c < C) (hv : v < 2 ^ P) (hw : ∀ i, i < C * P → decide (w i % 2 = 1) = only37 P c v.testBit i)
    (hL : Left37 C P (2 ^ b) E left) (hr : redE (E c) P v ≠ 0) : (left.filter (told37 b ((List.range (C * P)).map w))).length < left.length := by
  obtain ⟨x, hx, hd⟩ := ge_gone hE hc hv hr
  rw [List.length_filter_lt_length_iff_exists]
  refine ⟨_, (hL.2 _).mpr ⟨x, rfl, hx⟩, ?_⟩
  rw [told_fn hc hw, hd]
  decide
theorem left_put {C P b c v : Nat} {E : Eqs} {w : Nat → Int} {left : List (List Int)} (hE : EchAll E) (hc : c < C) (hv : v < 2 ^ P) (hw : ∀ i, i < C * P → decide (w i % 2 = 1) = only37 P c v.testBit i)
    (hL : Left37 C P (2 ^ b) E left) (hr : redE (E c) P v ≠ 0) : Left37 C P (2 ^ b) (putE E c (redE (E c) P v)) (left.filter (told37 b ((List.range (C * P)).map w))) := by
  refine ⟨hL.1.filter _, fun l => ?_⟩
  rw [List.mem_filter]
  constructor
  · rintro ⟨h1, h2⟩
    obtain ⟨x, rfl, hx⟩ := (hL.2 l).mp h1
    rw [told_fn hc hw] at h2
    exact ⟨x, rfl, (ge_some hE hc hv hr x).mpr ⟨hx, by simpa using h2⟩⟩
  · rintro ⟨x, rfl, hx⟩
    obtain ⟨h1, h2⟩ := (ge_some hE hc hv hr x).mp hx
    refine ⟨(hL.2 _).mpr ⟨x, rfl, h1⟩, ?_⟩
    rw [told_fn hc hw, h2]
    rfl
/-- one function is left just if each class has a row at each place -/
theorem left_one {C P : Nat} {t : Int} {E : Eqs} {left : List (List Int)} (ht : t ≠ 0) (hE : EchAll E) (hL : Left37 C P t E left) : left.length = 1 ↔ ∀ c h, c < C → h < P → (E c h).isSome = true := by
  have hz : fnF t (C * P) (fun _ => false) ∈ left := (hL.2 _).mpr ⟨_, rfl, ge_zero C P E⟩
  constructor
  · intro h1 c h hc hh
    rcases Option.eq_none_or_eq_some (E c h) with e | ⟨r, e⟩
    · obtain ⟨x, hx, i, hi, xi⟩ := ge_free hE hc hh e
      have hm : fnF t (C * P) x ∈ left := (hL.2 _).mpr ⟨x, rfl, hx⟩
      obtain ⟨a, ha⟩ := List.length_eq_one_iff.mp h1
      rw [ha, List.mem_singleton] at hz hm
      have := fnF_inj ht (hm.trans hz.symm) i hi
      rw [xi] at this
      exact absurd this (by decide)
    · rw [e]
      rfl
  · intro full
    have hall : ∀ l, l ∈ left → l = fnF t (C * P) (fun _ => false) := fun l hl => by
      obtain ⟨x, rfl, hx⟩ := (hL.2 l).mp hl
      exact fnF_congr t _ _ _ (ge_full hE full hx)
    match left, hz, hall, hL.1 with
    | [a], _, _, _ => rfl
    | a :: b :: rest, _, hall, hn =>
      have h1 := hall a (List.mem_cons_self ..)
      have h2 := hall b (List.mem_cons_of_mem _ (List.mem_cons_self ..))
      rw [List.nodup_cons] at hn
      exact absurd (by rw [h1, h2]; exact List.mem_cons_self ..) hn.1
/-! ### a row for each place: the number of rows tells it -/
def rows37 (P : Nat) (E : Nat → Option Nat) : Nat := ((List.range P).filter fun h => (E h).isSome).length
theorem rows_full (P : Nat) (E : Nat → Option Nat) : rows37 P E = P ↔ ∀ h, h < P → (E h).isSome = true := by
  unfold rows37
  constructor
  · intro h k hk
    have h1 : ((List.range P).filter fun h => (E h).isSome).length = (List.range P).length := by rw [h, List.length_range]
    exact (List.length_filter_eq_length_iff.mp h1) k (List.mem_range.mpr hk)
  · intro h
    rw [List.filter_eq_self.mpr fun k hk => h k (List.mem_range.mp hk), List.length_range]
theorem rows_le (P : Nat) (E : Nat → Option Nat) : rows37 P E ≤ P := by
  have := List.length_filter_le (fun h => (E h).isSome) (List.range P)
  rw [List.length_range] at this
  exact this
end My

set_option Elab.async false
set_option linter.all false
set_option maxRecDepth 100000
set_option maxHeartbeats 1000000
namespace My
open PySem L2 MyR
/-! ### a run over points: each one a class and a vector -/
def endK (P : Nat) : Eqs → List (Nat × Nat) → Eqs
  | E, [] => E
  | E, (c, v) :: rest => if redE (E c) P v = 0 then endK P E rest else endK P (putE E c (redE (E c) P v)) rest
def keptK (P : Nat) : Eqs → Nat → List (Nat × Nat) → List Nat
  | _, _, [] => []
  | E, a, (c, v) :: rest => if redE (E c) P v = 0 then keptK P E (a + 1) rest else a :: keptK P (putE E c (redE (E c) P v)) (a + 1) rest
def fewK (P : Nat) : Eqs → List (Nat × Nat) → List (Nat × Nat)
  | _, [] => []
  | E, (c, v) :: rest => if redE (E c) P v = 0 then fewK P E rest else (c, v) :: fewK P (putE E c (redE (E c) P v)) rest
theorem kept_len (P : Nat) : ∀ (vs : List (Nat × Nat)) (E : Eqs) (a : Nat), (keptK P E a vs).length = (fewK P E vs).length
  | [], _, _ => rfl
  | (c, v) :: rest, E, a => by
    unfold keptK fewK
    by_cases h : redE (E c) P v = 0
    · rw [if_pos h, if_pos h]
      exact kept_len P rest E (a + 1)
    · rw [if_neg h, if_neg h]
      exact congrArg (· + 1) (kept_len P rest _ (a + 1))
theorem kept_ge (P : Nat) : ∀ (vs : List (Nat × Nat)) (E : Eqs) (a k : Nat), k ∈ keptK P E a vs → a ≤ k ∧ k < a + vs.length
  | [], _, _, _, h => absurd h (by unfold keptK; simp)
  | (c, v) :: rest, E, a, k, h => by
    unfold keptK at h
    rw [List.length_cons]
    by_cases e : redE (E c) P v = 0
    · rw [if_pos e] at h
      have := kept_ge P rest E (a + 1) k h
      omega
    · rw [if_neg e, List.mem_cons] at h
      rcases h with h | h
      · omega
      · have := kept_ge P rest _ (a + 1) k h
        omega
/-- the points kept, by their numbers, of any list of the same length -/
theorem kept_few (P : Nat) {α : Type} (f : α → Nat × Nat) (d : α) : ∀ (xs : List α) (E : Eqs) (a : Nat), ((keptK P E a (xs.map f)).map fun k => f (xs.getD (k - a) d)) = fewK P E (xs.map f)
  | [], _, _ => rfl
  | x :: rest, E, a => by
    have tail : ∀ E', ((keptK P E' (a + 1) (rest.map f)).map fun k => f ((x :: rest).getD (k - a) d)) = fewK P E' (rest.map f) := fun E' => by
      rw [← kept_few P f d rest E' (a + 1)]
      refine List.map_congr_left fun k hk => ?_
      have h1 := kept_ge P _ _ _ _ hk
      rw [show k - a = (k - (a + 1)) + 1 from by omega, List.getD_cons_succ]
    rw [List.map_cons]
    show List.map _ (keptK P E a (((f x).1, (f x).2) :: rest.map f)) = fewK P E (((f x).1, (f x).2) :: rest.map f)
    unfold keptK fewK
    by_cases h : redE (E (f x).1) P (f x).2 = 0
    · rw [if_pos h, if_pos h]
      exact tail E
    · rw [if_neg h, if_neg h, List.map_cons, tail]
      rw [Nat.sub_self, List.getD_cons_zero]
/-- a run over the points kept keeps them all and ends alike -/
theorem few_end (P : Nat) : ∀ (vs : List (Nat × Nat)) (E : Eqs), endK P E (fewK P E vs) = endK P E vs
  | [], _ => rfl
  | (c, v) :: rest, E => by
    unfold fewK
    by_cases h : redE (E c) P v = 0
    · rw [if_pos h, few_end P rest E]
      show _ = if _ then _ else _
      rw [if_pos h]
    · rw [if_neg h]
      show (if _ then _ else _) = if _ then _ else _
      rw [if_neg h, if_neg h, few_end P rest _]
theorem few_kept (P : Nat) : ∀ (vs : List (Nat × Nat)) (E : Eqs) (a : Nat), keptK P E a (fewK P E vs) = List.range' a (fewK P E vs).length
  | [], _, _ => rfl
  | (c, v) :: rest, E, a => by
    unfold fewK
    by_cases h : redE (E c) P v = 0
    · rw [if_pos h]
      exact few_kept P rest E a
    · rw [if_neg h]
      show (if _ then _ else _) = _
      rw [if_neg h, List.length_cons, List.range'_succ, few_kept P rest _ (a + 1)]
/-! the rows of all classes -/
def rowsAll (P : Nat) : Nat → Eqs → Nat
  | 0, _ => 0
  | C + 1, E => rowsAll P C E + rows37 P (E C)
theorem rowsAll_le (P : Nat) (E : Eqs) : ∀ C, rowsAll P C E ≤ C * P
  | 0 => Nat.zero_le _
  | C + 1 => by
    have h1 := rowsAll_le P E C
    have h2 := rows_le P (E C)
    rw [Nat.succ_mul]
    show rowsAll P C E + rows37 P (E C) ≤ _
    omega
theorem rowsAll_full (P : Nat) (E : Eqs) : ∀ C, rowsAll P C E = C * P ↔ ∀ c h, c < C → h < P → (E c h).isSome = true
  | 0 => by
    show 0 = 0 * P ↔ _
    rw [Nat.zero_mul]
    exact ⟨fun _ c h hc => by omega, fun _ => rfl⟩
  | C + 1 => by
    have h1 := rowsAll_le P E C
    have h2 := rows_le P (E C)
    have h3 := rowsAll_full P E C
    have h4 := rows_full P (E C)
    show rowsAll P C E + rows37 P (E C) = (C + 1) * P ↔ _
    rw [Nat.succ_mul]
    constructor
    · intro h c k hc hk
      by_cases e : c = C
      · subst e
        exact h4.mp (by omega) k hk
      · exact h3.mp (by omega) c k (by omega) hk
    · intro h
      have a := h3.mpr fun c k hc hk => h c k (by omega) hk
      have b := h4.mpr fun k hk => h C k (by omega) hk
      omega
theorem rows_put {P : Nat} {E : Eqs} {c r : Nat} (e : E c r.log2 = none) (hr : r.log2 < P) : rows37 P (putE E c r c) = rows37 P (E c) + 1 := by
  unfold rows37
  have gen : ∀ n, ((List.range n).filter fun h => (putE E c r c h).isSome).length = ((List.range n).filter fun h => (E c h).isSome).length + if r.log2 < n then 1 else 0 := fun n => by
    induction n with
    | zero => rfl
    | succ n ih =>
      rw [List.range_succ, List.filter_append, List.filter_append, List.length_append, List.length_append, ih]
      by_cases h : n = r.log2
      · subst h
        rw [List.filter_cons, List.filter_cons, putE_same, e]
        simp
      · rw [List.filter_cons, List.filter_cons, putE_other (fun hh => h hh.2)]
        have hh : (r.log2 < n + 1) = (r.log2 < n) := propext (by omega)
        simp only [hh, List.filter_nil]
        omega
  rw [gen P, if_pos hr]
theorem rowsAll_put {P : Nat} {E : Eqs} {c r : Nat} (e : E c r.log2 = none) (hr : r.log2 < P) : ∀ C, rowsAll P C (putE E c r) = rowsAll P C E + if c < C then 1 else 0
  | 0 => rfl
  | C + 1 => by
    show rowsAll P C (putE E c r) + rows37 P (putE E c r C) = rowsAll P C E + rows37 P (E C) + _
    rw [rowsAll_put e hr C]
    by_cases h : c = C
    · subst h
      rw [rows_put e hr, if_neg (by omega), if_pos (by omega)]
      omega
    · have h1 : putE E c r C = E C := funext fun k => putE_other fun hh => h hh.1.symm
      rw [h1]
      by_cases g : c < C
      · rw [if_pos g, if_pos (by omega)]
        omega
      · rw [if_neg g, if_neg (by omega)]
        omega
theorem end_ech (P : Nat) : ∀ (vs : List (Nat × Nat)) (E : Eqs), EchAll E → EchAll (endK P E vs)
  | [], _, h => h
  | (c, v) :: rest, E, h => by
    unfold endK
    by_cases e : redE (E c) P v = 0
    · rw [if_pos e]
      exact end_ech P rest E h
    · rw [if_neg e]
      exact end_ech P rest _ (putE_ech h e)
/-- as many rows more as points kept -/
theorem end_rows (C P : Nat) : ∀ (vs : List (Nat × Nat)) (E : Eqs), EchAll E → (∀ z ∈ vs, z.1 < C ∧ z.2 < 2 ^ P) → rowsAll P C (endK P E vs) = rowsAll P C E + (fewK P E vs).length
  | [], _, _, _ => rfl
  | (c, v) :: rest, E, h, hv => by
    have h1 := hv (c, v) (List.mem_cons_self ..)
    have h2 : ∀ z ∈ rest, z.1 < C ∧ z.2 < 2 ^ P := fun z hz => hv z (List.mem_cons_of_mem _ hz)
    unfold endK fewK
    by_cases e : redE (E c) P v = 0
    · rw [if_pos e, if_pos e]
      exact end_rows C P rest E h h2
    · rw [if_neg e, if_neg e, end_rows C P rest _ (putE_ech h e) h2]
      obtain ⟨_, t2, t3⟩ := red_top (h c) h1.2 e
      rw [rowsAll_put t2 t3, if_pos h1.1, List.length_cons]
      omega
theorem few_le (P : Nat) : ∀ (vs : List (Nat × Nat)) (E : Eqs), (fewK P E vs).length ≤ vs.length
  | [], _ => Nat.le_refl _
  | (c, v) :: rest, E => by
    unfold fewK
    by_cases e : redE (E c) P v = 0
    · rw [if_pos e]
      exact Nat.le_succ_of_le (few_le P rest E)
    · rw [if_neg e]
      exact Nat.succ_le_succ (few_le P rest _)
end My

set_option Elab.async false
set_option linter.all false
set_option maxRecDepth 100000
set_option maxHeartbeats 1000000
namespace My
open PySem L2 MyR
/-! ### masks of places -/
def maskN : Nat → (Nat → Bool) → Nat
  | 0, _ => 0
  | n + 1, f => maskN n f + if f n = true then 2 ^ n else 0
theorem mask_lt (f : Nat → Bool) : ∀ n, maskN n f < 2 ^ n
  | 0 => Nat.one_pos
  | n + 1 => by
    have := mask_lt f n
    rw [Nat.pow_succ]
    show maskN n f + (if f n = true then 2 ^ n else 0) < _
    cases f n <;> simp <;> omega
theorem mask_bit (f : Nat → Bool) : ∀ n i, (maskN n f).testBit i = (decide (i < n) && f i)
  | 0, i => by
    show (0 : Nat).testBit i = _
    rw [Nat.zero_testBit, decide_eq_false (by omega), Bool.false_and]
  | n + 1, i => by
    have hl := mask_lt f n
    have ih := mask_bit f n i
    show (maskN n f + if f n = true then 2 ^ n else 0).testBit i = _
    by_cases e : i = n
    · subst e
      rw [decide_eq_true (by omega), Bool.true_and]
      cases h : f i
      · rw [if_neg (by decide), Nat.add_zero, Nat.testBit_lt_two_pow hl]
      · rw [if_pos rfl, Nat.add_comm, Nat.testBit_two_pow_add_eq, Nat.testBit_lt_two_pow hl]
        rfl
    · rw [show decide (i < n + 1) = decide (i < n) from by rw [decide_eq_decide]; omega, ← ih]
      cases h : f n
      · rw [if_neg (by decide), Nat.add_zero]
      · rw [if_pos rfl, Nat.add_comm]
        by_cases lo : i < n
        · rw [Nat.testBit_two_pow_add_gt lo]
        · have h1 : 2 ^ n + maskN n f < 2 ^ (n + 1) := by rw [Nat.pow_succ]; omega
          have h2 : 2 ^ (n + 1) ≤ 2 ^ i := Nat.pow_le_pow_right (by decide) (by omega)
          rw [Nat.testBit_lt_two_pow (by omega), Nat.testBit_lt_two_pow (by omega)]
theorem mask_and (n : Nat) (f g : Nat → Bool) : maskN n f &&& maskN n g = maskN n fun i => f i && g i :=
  Nat.eq_of_testBit_eq fun i => by
    rw [Nat.testBit_and, mask_bit, mask_bit, mask_bit]
    cases decide (i < n) <;> cases f i <;> cases g i <;> rfl
theorem mask_all (n : Nat) : maskN n (fun _ => true) = 2 ^ n - 1 :=
  Nat.eq_of_testBit_eq fun i => by rw [mask_bit, Nat.testBit_two_pow_sub_one, Bool.and_true]
theorem mask_none (n : Nat) : maskN n (fun _ => false) = 0 :=
  Nat.eq_of_testBit_eq fun i => by rw [mask_bit, Bool.and_false, Nat.zero_testBit]
theorem mask_congr (f g : Nat → Bool) : ∀ n, (∀ i, i < n → f i = g i) → maskN n f = maskN n g
  | 0, _ => rfl
  | n + 1, h => by
    show maskN n f + _ = maskN n g + _
    rw [mask_congr f g n fun i hi => h i (by omega), h n (by omega)]
theorem mask_or (f g : Nat → Bool) : ∀ n, (∀ i, i < n → (f i && g i) = false) → maskN n f + maskN n g = maskN n fun i => f i || g i
  | 0, _ => rfl
  | n + 1, h => by
    have ih := mask_or f g n fun i hi => h i (by omega)
    have h1 := h n (by omega)
    show maskN n f + (if f n = true then 2 ^ n else 0) + (maskN n g + if g n = true then 2 ^ n else 0) = maskN n (fun i => f i || g i) + if (f n || g n) = true then 2 ^ n else 0
    rw [← ih]
    cases ef : f n <;> cases eg : g n <;> rw [ef, eg] at h1 <;> simp at h1 ⊢ <;> omega
/-! the masks of some numbers, added: each place in the mask of its own number -/
theorem mask_sum (n : Nat) (num : Nat → Nat) : ∀ ks : List Nat, ks.Nodup → (ks.map fun k => maskN n fun i => decide (num i = k)).foldr (· + ·) 0 = maskN n fun i => decide (num i ∈ ks)
  | [], _ => by
    show 0 = maskN n _
    rw [← mask_none n]
    exact mask_congr _ _ n fun i _ => by simp
  | k :: ks, h => by
    rw [List.nodup_cons] at h
    rw [List.map_cons, List.foldr_cons, mask_sum n num ks h.2, mask_or]
    · exact mask_congr _ _ n fun i _ => by
        rw [Bool.eq_iff_iff]
        simp
    · intro i _
      by_cases e : num i = k
      · rw [decide_eq_true e, decide_eq_false (by rw [e]; exact h.1)]
        rfl
      · rw [decide_eq_false e, Bool.false_and]
/-- the masks of all numbers that occur and that a test takes -/
theorem mask_test (n : Nat) (num : Nat → Nat) (p : Nat → Bool) (ks : List Nat) (hk : ks.Nodup) (all : ∀ i, i < n → num i ∈ ks) :
    ((ks.filter p).map fun k => maskN n fun i => decide (num i = k)).foldr (· + ·) 0 = maskN n fun i => p (num i) := by
  rw [mask_sum n num _ (hk.filter _)]
  exact mask_congr _ _ n fun i hi => by
    rw [Bool.eq_iff_iff, decide_eq_true_eq, List.mem_filter]
    exact ⟨fun h => h.2, fun h => ⟨all i hi, h⟩⟩
end My

set_option Elab.async false
set_option linter.all false
set_option maxRecDepth 100000
set_option maxHeartbeats 1000000
namespace My
open PySem L2 MyR
/-! ### the law's weights modulo 2 -/
def luAll : List Int → List Nat → Bool
  | z :: zs, u :: us => lu z u && luAll zs us
  | _, _ => true
def wtF : Int → List Int → List Nat → Int
  | o, z :: zs, u :: us => wtF (o * bn z u) zs us
  | o, _, _ => o
theorem odd_mul (a b : Int) : decide (a * b % 2 = 1) = (decide (a % 2 = 1) && decide (b % 2 = 1)) := by
  have ha : a % 2 = 0 ∨ a % 2 = 1 := by omega
  have hb : b % 2 = 0 ∨ b % 2 = 1 := by omega
  rw [Int.mul_emod]
  rcases ha with ha | ha <;> rcases hb with hb | hb <;> rw [ha, hb] <;> rfl
theorem bn_odd (z : Int) (u : Nat) : decide (bn z u % 2 = 1) = lu z u := by
  rw [bn_lu]
  cases lu z u <;> rfl
theorem wtF_odd : ∀ (zs : List Int) (us : List Nat) (o : Int), decide (wtF o zs us % 2 = 1) = (decide (o % 2 = 1) && luAll zs us)
  | [], _, o => by
    show decide (o % 2 = 1) = (decide (o % 2 = 1) && true)
    rw [Bool.and_true]
  | z :: zs, [], o => by
    show decide (o % 2 = 1) = (decide (o % 2 = 1) && true)
    rw [Bool.and_true]
  | z :: zs, u :: us, o => by
    show decide (wtF (o * bn z u) zs us % 2 = 1) = (decide (o % 2 = 1) && (lu z u && luAll zs us))
    rw [wtF_odd zs us, odd_mul, bn_odd, Bool.and_assoc]
/-- a list over classes and places, as one range -/
theorem class_range {α : Type} (P : Nat) (g : Nat → Nat → α) : ∀ C, (List.range C).flatMap (fun c => (List.range P).map (g c)) = (List.range (C * P)).map fun i => g (i / P) (i % P)
  | 0 => by
    rw [Nat.zero_mul]
    rfl
  | C + 1 => by
    rw [List.range_succ, List.flatMap_append, class_range P g C, Nat.succ_mul, List.range_add, List.map_append, List.map_map]
    congr 1
    show List.flatMap _ [C] = _
    rw [List.flatMap_cons, List.flatMap_nil, List.append_nil]
    refine List.map_congr_left fun i hi => ?_
    have hi := List.mem_range.mp hi
    have h1 : (C * P + i) / P = C := by
      rw [Nat.mul_comm, Nat.mul_add_div (by omega), Nat.div_eq_of_lt hi]
      rfl
    have h2 : (C * P + i) % P = i := by
      rw [Nat.mul_comm, Nat.mul_add_mod, Nat.mod_eq_of_lt hi]
    show g C i = g ((C * P + i) / P) ((C * P + i) % P)
    rw [h1, h2]
/-- the mask of a point: the places all of whose numbers have only bits of the point's -/
def oddM (P : Nat) (places : Nat → List Nat) (z : List Int) : Nat := maskN P fun p => luAll z (places p)
theorem oddM_lt (P : Nat) (places : Nat → List Nat) (z : List Int) : oddM P places z < 2 ^ P := mask_lt _ _
/-- the law's row is odd just where the program's mask of its class is -/
theorem wt_mask {C P c : Nat} (places : Nat → List Nat) (z : List Int) (i : Nat) (hi : i < C * P) :
    decide (wtF (if i / P = c then 1 else 0) z (places (i % P)) % 2 = 1) = only37 P c (oddM P places z).testBit i := by
  have hP : 0 < P := Nat.pos_of_ne_zero fun h => by rw [h] at hi; omega
  show _ = (decide (i / P = c) && (oddM P places z).testBit (i % P))
  unfold oddM
  rw [wtF_odd, mask_bit, decide_eq_true (Nat.mod_lt i hP), Bool.true_and]
  by_cases e : i / P = c
  · rw [if_pos e, decide_eq_true e]
    rfl
  · rw [if_neg e, decide_eq_false e]
    rfl
/-! the program's `&` over the coordinates -/
def foldM (P : Nat) (num : Nat → Nat → Nat) (z : Nat → Int) : Nat → Nat
  | 0 => 2 ^ P - 1
  | k + 1 => foldM P num z k &&& maskN P fun p => lu (z k) (num p k)
theorem foldM_eq (P : Nat) (num : Nat → Nat → Nat) (z : Nat → Int) : ∀ k, foldM P num z k = maskN P fun p => luAll ((List.range k).map z) ((List.range k).map (num p))
  | 0 => (mask_all P).symm
  | k + 1 => by
    have snoc : ∀ (zs : List Int) (us : List Nat) (a : Int) (b : Nat), zs.length = us.length → luAll (zs ++ [a]) (us ++ [b]) = (luAll zs us && lu a b) := by
      intro zs
      induction zs with
      | nil =>
        intro us a b h
        match us, h with
        | [], _ =>
          show (lu a b && true) = (true && lu a b)
          rw [Bool.and_true, Bool.true_and]
      | cons z zs ih =>
        intro us a b h
        match us, h with
        | u :: us, h =>
          show (lu z u && luAll (zs ++ [a]) (us ++ [b])) = ((lu z u && luAll zs us) && lu a b)
          rw [ih us a b (Nat.succ.inj h), Bool.and_assoc]
    show foldM P num z k &&& _ = _
    rw [foldM_eq P num z k, mask_and]
    refine mask_congr _ _ P fun p _ => ?_
    rw [List.range_succ, List.map_append, List.map_append]
    exact (snoc _ _ _ _ (by rw [List.length_map, List.length_map])).symm
end My

set_option Elab.async false
set_option linter.all false
set_option maxRecDepth 100000
set_option maxHeartbeats 1000000
namespace My
/-! ### numbers modulo 2 to the bits -/
theorem em_mul {M a a' b b' : Int} (h : a % M = a' % M) (g : b % M = b' % M) : (a * b) % M = (a' * b') % M := by rw [Int.mul_emod, h, g, ← Int.mul_emod]
theorem em_add {M a a' b b' : Int} (h : a % M = a' % M) (g : b % M = b' % M) : (a + b) % M = (a' + b') % M := by rw [Int.add_emod, h, g, ← Int.add_emod]
theorem em_sub {M a a' b b' : Int} (h : a % M = a' % M) (g : b % M = b' % M) : (a - b) % M = (a' - b') % M := by rw [Int.sub_emod, h, g, ← Int.sub_emod]
theorem em_self {M a : Int} : (a % M) % M = a % M := Int.emod_emod_of_dvd a (Int.dvd_refl M)
theorem p2_pos (b : Nat) : (0 : Int) < 2 ^ b := Int.pow_pos (by decide)
theorem p2_dvd {a b : Nat} (h : a ≤ b) : (2 : Int) ^ a ∣ 2 ^ b := ⟨2 ^ (b - a), by rw [← Int.pow_add, show a + (b - a) = b by omega]⟩
/-! ### the inverse of an odd number -/
theorem inv_step {o f : Int} {s b : Nat} (h : (2 : Int) ^ s ∣ o * f - 1) (hs : s ≤ b) (t : Nat) (ht1 : t ≤ 2 * s) (ht2 : t ≤ b) : (2 : Int) ^ t ∣ o * (f * (2 - o * f) % 2 ^ b) - 1 := by
  obtain ⟨q, e⟩ := h
  have e1 : o * (f * (2 - o * f)) - 1 = -((o * f - 1) * (o * f - 1)) := by
    rw [← Int.mul_assoc]
    generalize o * f = y
    have h1 : y * (2 - y) = y * 2 - y * y := Int.mul_sub ..
    have h2 : (y - 1) * (y - 1) = y * y - y - (y - 1) := by rw [Int.sub_mul, Int.mul_sub]; omega
    rw [h1, h2]
    omega
  have e2 : f * (2 - o * f) % 2 ^ b = f * (2 - o * f) - 2 ^ b * (f * (2 - o * f) / 2 ^ b) := Int.emod_def ..
  rw [e2, Int.mul_sub]
  have e3 : o * (f * (2 - o * f)) - o * (2 ^ b * (f * (2 - o * f) / 2 ^ b)) - 1 = -((o * f - 1) * (o * f - 1)) - o * (2 ^ b * (f * (2 - o * f) / 2 ^ b)) := by omega
  rw [e3, e]
  refine Int.dvd_sub (Int.dvd_neg.mpr ?_) ?_
  · refine Int.dvd_trans (p2_dvd ht1) ⟨q * q, ?_⟩
    rw [show 2 * s = s + s by omega, Int.pow_add, Int.mul_assoc, Int.mul_assoc]
    congr 1
    rw [← Int.mul_assoc, Int.mul_comm q, Int.mul_assoc]
  · refine Int.dvd_trans (p2_dvd ht2) ⟨o * (f * (2 - o * f) / 2 ^ b), ?_⟩
    rw [← Int.mul_assoc, Int.mul_comm o, Int.mul_assoc]
theorem odd_sq {o : Int} (h : o % 2 = 1) : (2 : Int) ^ 3 ∣ o * o - 1 := by
  obtain ⟨k, rfl⟩ : ∃ k, o = 2 * k + 1 := ⟨o / 2, by omega⟩
  have h1 : (2 * k + 1) * (2 * k + 1) - 1 = 4 * (k * (k + 1)) := by
    have a1 : (2 * k + 1) * (2 * k + 1) = 2 * k * (2 * k + 1) + (2 * k + 1) := by rw [Int.add_mul, Int.one_mul]
    have a2 : 2 * k * (2 * k + 1) = 2 * k * (2 * k) + 2 * k := by rw [Int.mul_add, Int.mul_one]
    have a3 : 2 * k * (2 * k) = 4 * (k * k) := by rw [Int.mul_assoc, Int.mul_left_comm k, ← Int.mul_assoc]; rfl
    have a4 : k * (k + 1) = k * k + k := by rw [Int.mul_add, Int.mul_one]
    rw [a1, a2, a3, a4]
    omega
  have h2 : k * (k + 1) % 2 = 0 := by
    rcases (show k % 2 = 0 ∨ k % 2 = 1 by omega) with e | e
    · rw [Int.mul_emod, e, Int.zero_mul]; rfl
    · rw [Int.mul_emod, show (k + 1) % 2 = 0 by omega, Int.mul_zero]; rfl
  rw [h1]
  obtain ⟨q, e⟩ := Int.dvd_of_emod_eq_zero h2
  exact ⟨q, by rw [e, ← Int.mul_assoc]; rfl⟩
theorem inv_first {o : Int} {b t : Nat} (h : o % 2 = 1) (h3 : t ≤ 3) (hb : t ≤ b) : (2 : Int) ^ t ∣ o * (o % 2 ^ b) - 1 := by
  have e2 : o % 2 ^ b = o - 2 ^ b * (o / 2 ^ b) := Int.emod_def ..
  rw [e2, Int.mul_sub]
  have e3 : o * o - o * (2 ^ b * (o / 2 ^ b)) - 1 = (o * o - 1) - o * (2 ^ b * (o / 2 ^ b)) := by omega
  rw [e3]
  refine Int.dvd_sub (Int.dvd_trans (p2_dvd h3) (odd_sq h)) (Int.dvd_trans (p2_dvd hb) ⟨o * (o / 2 ^ b), ?_⟩)
  rw [← Int.mul_assoc, Int.mul_comm o, Int.mul_assoc]
/-- an inverse, below 2 to the bits -/
def InvOf (b : Nat) (o v : Int) : Prop := 0 ≤ v ∧ v < 2 ^ b ∧ (2 : Int) ^ b ∣ o * v - 1
theorem InvOf.one {b : Nat} {o v : Int} (h : InvOf b o v) : (o * v) % 2 ^ b = 1 % 2 ^ b := Int.emod_eq_emod_iff_emod_sub_eq_zero.mpr (Int.emod_eq_zero_of_dvd h.2.2)
/-! ### odd parts of factorials -/
def od (j : Nat) : Int := (j : Int) / (PySem.Builtin.bitAnd (j : Int) (-(j : Int)))
def odP : Nat → Int
  | 0 => 1
  | k + 1 => odP k * od (k + 1)
theorem od_ok : ∀ j, j < 66 → 0 < PySem.Builtin.bitAnd ((j + 1 : Nat) : Int) (-((j + 1 : Nat) : Int)) ∧ PySem.Builtin.bitAnd ((j + 1 : Nat) : Int) (-((j + 1 : Nat) : Int)) < 1073741824 ∧ od (j + 1) % 2 = 1 ∧ 0 < od (j + 1) ∧ od (j + 1) < 100 ∧ ((j : Int) + 1) * 2 ^ tw j = 2 ^ tw (j + 1) * od (j + 1) := by decide +kernel
theorem odP_odd : ∀ k, k ≤ 66 → odP k % 2 = 1
  | 0, _ => rfl
  | k + 1, h => by
    show odP k * od (k + 1) % 2 = 1
    rw [Int.mul_emod, odP_odd k (by omega), (od_ok k (by omega)).2.2.1]
    rfl
theorem fac_od : ∀ k, k ≤ 66 → fac k = 2 ^ tw k * odP k
  | 0, _ => rfl
  | k + 1, h => by
    have ih := fac_od k (by omega)
    have q := (od_ok k (by omega)).2.2.2.2.2
    show ((k : Int) + 1) * fac k = 2 ^ tw (k + 1) * (odP k * od (k + 1))
    rw [ih, ← Int.mul_assoc, q, Int.mul_assoc, Int.mul_comm (od (k + 1))]
/-! ### falling products -/
theorem fall_mod {M z z' : Int} (h : z % M = z' % M) : ∀ k, fall z k % M = fall z' k % M
  | 0 => rfl
  | k + 1 => em_mul (fall_mod h k) (em_sub h rfl)
/-- what `falling` gives, from the item at s on -/
def flo (M z : Int) : Nat → List Int → Int
  | _, [] => 0
  | s, a :: r => (a + flo M z (s + 1) r * (z - (s : Int))) % M
def flS (z : Int) : Nat → List Int → Int
  | _, [] => 0
  | s, a :: r => a * fall z s + flS z (s + 1) r
theorem flo_fall (M z : Int) : ∀ (cs : List Int) (s : Nat), (flo M z s cs * fall z s) % M = flS z s cs % M
  | [], s => by
    show (0 * fall z s) % M = 0 % M
    rw [Int.zero_mul]
  | a :: r, s => by
    have ih := flo_fall M z r (s + 1)
    show ((a + flo M z (s + 1) r * (z - (s : Int))) % M * fall z s) % M = (a * fall z s + flS z (s + 1) r) % M
    rw [em_mul (b' := fall z s) em_self rfl, Int.add_mul]
    refine em_add rfl ?_
    rw [Int.mul_assoc, Int.mul_comm (z - (s : Int))]
    exact ih
theorem flo_lo (M z : Int) (cs : List Int) (s : Nat) : flo M z s cs % M = flo M z s cs := by
  cases cs with
  | nil => exact Int.zero_emod M
  | cons a r => exact em_self
theorem flo_zero (M z : Int) (cs : List Int) : flo M z 0 cs = flS z 0 cs % M := by
  have := flo_fall M z cs 0
  rw [show fall z 0 = 1 from rfl, Int.mul_one, flo_lo] at this
  exact this
theorem flS_zeros {z : Int} : ∀ (cs : List Int) (n s : Nat), flS z s (cs ++ List.replicate n 0) = flS z s cs
  | [], 0, s => rfl
  | [], n + 1, s => by
    show 0 * fall z s + flS z (s + 1) (List.replicate n 0) = 0
    have := flS_zeros [] n (s + 1) (z := z)
    rw [List.nil_append] at this
    rw [this, Int.zero_mul]
    rfl
  | a :: r, n, s => by
    show a * fall z s + flS z (s + 1) (r ++ List.replicate n 0) = a * fall z s + flS z (s + 1) r
    rw [flS_zeros r n (s + 1)]
theorem flS_map (z : Int) (f : Nat → Int) : ∀ n, flS z 0 ((List.range n).map f) = smI n fun k => f k * fall z k
  | 0 => rfl
  | n + 1 => by
    have app : ∀ (a b : List Int) (s : Nat), flS z s (a ++ b) = flS z s a + flS z (s + a.length) b := by
      intro a
      induction a with
      | nil => intro b s; show flS z s b = 0 + flS z s b; omega
      | cons x a ih =>
        intro b s
        show x * fall z s + flS z (s + 1) (a ++ b) = x * fall z s + flS z (s + 1) a + flS z (s + (a.length + 1)) b
        rw [ih, show s + 1 + a.length = s + (a.length + 1) by omega]
        omega
    rw [List.range_succ, List.map_append, app, flS_map z f n, List.length_map, List.length_range]
    show smI n (fun k => f k * fall z k) + (f n * fall z (0 + n) + 0) = smI n (fun k => f k * fall z k) + f n * fall z n
    rw [Nat.zero_add]
    omega
theorem smI_mod {M : Int} : ∀ {n : Nat} {f g : Nat → Int}, (∀ i, i < n → f i % M = g i % M) → smI n f % M = smI n g % M
  | 0, _, _, _ => rfl
  | n + 1, f, g, h => em_add (smI_mod fun i hi => h i (by omega)) (h n (by omega))
/-- a coefficient's product with the falling ones is the binomials' -/
theorem coef_bn {b p q : Nat} {c x y z1 z2 : Int} (hp : p ≤ 66) (hq : q ≤ 66) (hu : tw p + tw q ≤ b) (hx : InvOf b (odP p) x) (hy : InvOf b (odP q) y) (hc : (2 : Int) ^ (tw p + tw q) ∣ c) :
    ((c % 2 ^ b) / 2 ^ (tw p + tw q) * x * y % 2 ^ b * (fall z2 q * fall z1 p)) % 2 ^ b = (c * (bn z2 q * bn z1 p)) % 2 ^ b := by
  have hd : (2 : Int) ^ (tw p + tw q) ∣ c % 2 ^ b := by
    rw [Int.emod_def]
    exact Int.dvd_sub hc (Int.dvd_trans (p2_dvd hu) ⟨_, rfl⟩)
  obtain ⟨m, em⟩ := hd
  have e1 : (c % 2 ^ b) / 2 ^ (tw p + tw q) = m := by
    rw [em]
    exact Int.mul_ediv_cancel_left _ (by have := p2_pos (tw p + tw q); omega)
  rw [e1, ← fac_bn p z1, ← fac_bn q z2, fac_od p hp, fac_od q hq, em_mul (b' := _) em_self rfl]
  have e2 : m * x * y * (2 ^ tw q * odP q * bn z2 q * (2 ^ tw p * odP p * bn z1 p)) = (odP p * x) * ((odP q * y) * ((2 ^ (tw p + tw q) * m) * (bn z2 q * bn z1 p))) := by
    rw [Int.pow_add]
    generalize (2 : Int) ^ tw p = P
    generalize (2 : Int) ^ tw q = Q
    generalize odP p = A
    generalize odP q = B
    generalize bn z2 q = R
    generalize bn z1 p = S
    simp only [Int.mul_assoc, Int.mul_comm, Int.mul_left_comm]
  rw [e2, em_mul hx.one (em_mul hy.one rfl), ← em, Int.one_mul, Int.one_mul]
  exact em_mul em_self rfl
end My

set_option pp.maxSteps 300
set_option Elab.async false
set_option linter.all false
set_option maxRecDepth 100000
set_option maxHeartbeats 1000000
namespace My
open PySem L2 MyR
/-! ### highest: the index of the last vector in a set -/
def spHigh : Sp := fun vs H Q _ => ∃ v : Nat, vs = [.int (v : Int)] ∧ v ≠ 0 ∧ Q (.int (v.log2 : Int)) H
theorem bits_log2 {v : Nat} (h : v ≠ 0) : ((Builtin.Int.intBits (v : Int) : Nat) : Int) - 1 = (v.log2 : Int) := by
  unfold Builtin.Int.intBits
  rw [if_neg (by simpa using h), Int.natAbs_natCast]
  omega
section
variable {P : Program} {w : World} {K : PySem.W.Frag} {mg : Str → Option Value} {base : Heap}
abbrev s_highest : Stmt := top 15
abbrev N_highest : List Str := ["members"]
theorem sc_highest : FnScope N_highest ["members"] (defScope s_highest) := ⟨rfl, rfl, rfl, by decide +kernel, rfl, by decide +kernel, by decide +kernel⟩
theorem ok_highest {f : Addr} {fd : FuncData} (F : Fun K "highest" "highest" s_highest f fd) : FnOk P w K mg base CX0 1 f fd ["members"] spHigh := by
  refine F.ok sc_highest (fun vs H Q E h => ?_) (fun cdv A outer s H vs Q E hr h => ?_)
  · obtain ⟨n, rfl, _⟩ := h
    rfl
  · obtain ⟨n, rfl, hn, kq⟩ := h
    have nd := sc_highest.nd
    refine ⟨_, (pss_one (ps_ret (pe_op op_sub (pe_bits (pv 0)) pe_int))), ?_⟩
    refine ⟨_, rfl, _, rfl, _, _, rfl, rfl, ?_⟩
    show Q (.int (((Builtin.Int.intBits (n : Int) : Nat) : Int) - 1)) H
    rw [bits_log2 hn]
    exact kq
end
end My

set_option Elab.async false
set_option linter.all false
set_option maxRecDepth 100000
set_option maxHeartbeats 1000000
namespace MyR
open PySem PySem.Spec PyProof.Rows L2

/-! ### what gives new pairs over things that stand: enumerate(tuple), zip(text, tuple), told once -/
/-- at turn i a walk of n turns is at hand whose next pair is of x and y -/
def PairAt (P : Program) (w : World) (A : Around) (I : Addr) (cs : List Addr) (own : Nat → Heap → Prop) (h : Heap) (i : Nat) (x y : V) (more : Prop) : Prop :=
  ∃ (n : Nat) (wr fp : List Addr) (Pt : Nat → Array Value → Prop) (St : Nat → Heap → Prop) (Mid : Nat → Addr → Heap → Prop), WalksT P w A I fp wr n Pt St Mid ∧ (∀ b ∈ wr, b ∈ cs) ∧ St i h ∧ (∀ j g, St j g → own j g) ∧
    ((more → i < n ∧ ∀ vals, Pt i vals → ∃ u v, vals = #[u, v] ∧ RelV x u ∧ RelV y v) ∧ (¬ more → i = n))
theorem turn_pairs {P : Program} {w : World} {K : PySem.W.Frag} {elts : List Expr} {kk : Nat} {tpos : Pos} {I : Addr} {cs : List Addr} {J : It} {own : Nat → Heap → Prop} (hI : I ∈ cs)
    (cells : ∀ i h, own i h → ∀ b ∈ cs, ∃ o, h.get? b = some o ∧ ∀ v, o.data ≠ .cell v)
    (stays : ∀ i g g', own i g → (∀ b ∈ cs, ∀ o, g.get? b = some o → g'.get? b = some o) → own i g')
    (again : ∀ (A : Around) (i : Nat) (s : Shared) (Q E : Value → Shared → Prop), own i s.heap → Q (.ref I) s → wpAny (model P w) A (pyIter (.ref I)) Q E s)
    (goes : ∀ (X : Cx) (pins : List (Addr × Obj)) (s : Shared) (σ : L2.St) (H : Hp) (i : Nat), X.prog = P → X.w = w → X.K = K → X.A.handled = none → Inv X pins σ H s → own i s.heap → J.go i H →
      ∃ x y, PairAt P w X.A I cs own s.heap i x y True ∧ ∀ T, H T = none → J.yld i H (.ref T) (upd H T (.tup [x, y])))
    (ends : ∀ (X : Cx) (pins : List (Addr × Obj)) (s : Shared) (σ : L2.St) (H : Hp) (i : Nat), X.prog = P → X.w = w → X.K = K → X.A.handled = none → Inv X pins σ H s → own i s.heap → J.stop i H → PairAt P w X.A I cs own s.heap i .non .non False) :
    Turn P w K (.Tuple elts kk tpos) J cs I own where
  mem := hI
  obj := cells
  keep := stays
  self := again
  item := by
    intro X eP ew eK calm i pins s σ H E inv free st more
    obtain ⟨x, y, ⟨n, wr, fp, Pt, St, Mid, W, sub, hst, hown, hmore, _⟩, hyld⟩ := goes X pins s σ H i eP ew eK (inv.ok.hd calm) inv st more
    obtain ⟨hin, hvals⟩ := hmore trivial
    subst eP ew eK
    refine W.item i s _ _ hin hst fun T vals h1 tk hP hT hTup hMid k1 => ?_
    obtain ⟨u, v, rfl, ru, rv⟩ := hvals vals hP
    refine ⟨.ref T, rfl, W.go elts kk tpos i T _ _ _ hMid fun h2 st2 k2 => ?_⟩
    have tup2 : h2.IsTuple T #[u, v] := hTup.at fun o e => k2 T o (W.apart i T h1 hMid) e
    have fresh : H T = none := inv.hok.fresh hT
    have inv2 : Inv X pins σ (upd H T (.tup [x, y])) { s with heap := h2, toks := tk } :=
      inv.turnedNew (ch := cs) (fun b o nb e => k2 b o (fun m => nb (sub b m)) (k1 b o (fun m => nb (sub b m)) e)) free hT ⟨(by show 2 ≤ sizeLine; decide), [u, v], .cons ru (.cons rv .nil), tup2⟩
    refine ⟨.ref T, _, inv2, rfl, hyld T fresh, hown _ _ st2, fun b hb => ?_⟩
    obtain ⟨o, ho, _⟩ := cells i _ st b hb
    rw [upd_ne (Nat.ne_of_lt (Nat.lt_of_lt_of_le (Heap.lt_size ho) hT))]
    exact (free b hb).1
  done := by
    intro X eP ew eK calm i pins s σ H E inv free st stop
    obtain ⟨n, wr, fp, Pt, St, Mid, W, sub, hst, _, _, hend⟩ := ends X pins s σ H i eP ew eK (inv.ok.hd calm) inv st stop
    obtain rfl := hend (fun f => f)
    subst eP ew eK
    exact W.done s _ _ hst fun h1 tk k1 => ⟨rfl, inv.turnedL (t' := tk) (ch := cs) (fun b o nb e => k1 b o (fun m => nb (sub b m)) e) free⟩

/-! ### enumerate(tuple) -/
/-- the tuple at a, each item in a new pair -/
def IteT (K : PySem.W.Frag) (a : Addr) : It where
  go i H := ∃ (xs : List V) (x : V), SqT K H a xs ∧ xs[i]? = some x
  yld i H v H' := ∃ T x, v = .ref T ∧ H T = none ∧ H' = upd H T (.tup [.int (i : Nat), x]) ∧ ∀ xs, SqT K H a xs → xs[i]? = some x
  stop i H := ∃ xs : List V, SqT K H a xs ∧ xs.length = i
/-- the two cells of an enumerate over the tuple at a, i items taken -/
def EnumT (a e it : Addr) (i : Nat) (h : Heap) : Prop := (∃ old, IsEnum h e it (0 + (i : Int)) old) ∧ h.IsTupleIter it a i
theorem turn_enumT {P : Program} {w : World} {K : PySem.W.Frag} {elts : List Expr} {kk : Nat} {tpos : Pos} {a e it : Addr} (hei : e ≠ it) (hai : a ≠ it) (hae : a ≠ e) : Turn P w K (.Tuple elts kk tpos) (IteT K a) [e, it] e (EnumT a e it) := by
  have W : ∀ (A : Around), A.handled = none → ∀ items : Array Value, _ := fun A hh items =>
    WalksT.enumFrom (prog := P) (w := w) (A := A) 0 (Draws.tuple (A := A.in1) hh it a hai items) e hei (by simp only [List.mem_cons, List.not_mem_nil, or_false, not_or]; exact ⟨hei, Ne.symm hae⟩) (List.mem_cons_self ..)
  refine turn_pairs (List.mem_cons_self ..) (fun i h st b hb => ?_) (fun i g g' st k => ?_) (fun A i s Q E st q => ?_) (fun X pins s σ H i eP ew eK hh inv st go => ?_) (fun X pins s σ H i eP ew eK hh inv st stop => ?_)
  · obtain ⟨⟨old, he⟩, o, ho, _, hd⟩ := st
    rcases List.mem_cons.mp hb with z | z
    · subst z
      exact ⟨_, he, fun v q => nomatch q⟩
    · exact ⟨o, by rw [List.mem_singleton.mp z]; exact ho, fun v q => by rw [hd] at q; cases q⟩
  · obtain ⟨⟨old, he⟩, hi⟩ := st
    exact ⟨⟨old, k e (List.mem_cons_self ..) _ he⟩, hi.at fun o q => k it (List.mem_cons_of_mem _ (List.mem_cons_self ..)) o q⟩
  · obtain ⟨⟨_, he⟩, _⟩ := st
    exact wpAny_pyIter_enum he q
  · obtain ⟨xs, x, hq, hx⟩ := go
    subst eK
    obtain ⟨its, rv, tup, _⟩ := inv.tuple hq
    obtain ⟨u, hu, ru⟩ := rv.get hx
    have hu' : its.toArray[i]? = some u := by simpa using hu
    have hin : i < its.toArray.size := (Array.getElem?_eq_some_iff.mp hu').1
    refine ⟨.int (i : Nat), x, ⟨_, _, _, _, _, _, W X.A hh its.toArray, fun b hb => hb, ⟨st.1, st.2, tup⟩, fun j g z => ⟨z.1, z.2.1⟩, fun _ => ⟨hin, fun vals hP => ?_⟩, fun f => absurd trivial f⟩, fun T hT => ⟨T, x, rfl, hT, rfl, fun ys hy => by rw [inv.tuple_inj hy hq]; exact hx⟩⟩
    obtain ⟨t, v, hv, rfl⟩ := hP
    refine ⟨_, v, rfl, ⟨t, by rw [Int.zero_add]⟩, ?_⟩
    have e1 : its.toArray[i]? = some v := hv
    rw [e1] at hu'
    rw [Option.some.inj hu']
    exact ru
  · obtain ⟨xs, hq, hx⟩ := stop
    subst eK
    obtain ⟨its, rv, tup, _⟩ := inv.tuple hq
    have hl := rv.length
    exact ⟨_, _, _, _, _, _, W X.A hh its.toArray, fun b hb => hb, ⟨st.1, st.2, tup⟩, fun j g z => ⟨z.1, z.2.1⟩, fun f => f.elim, fun _ => by rw [List.size_toArray]; omega⟩
set_option maxHeartbeats 1000000 in
/-- enumerate(v): an iterator over v, and the object itself -/
theorem meets_enum1 {v : Value} {o : Obj} {There : Heap → Prop} (B : Begins v o There) :
    Meets (Builtin.«enumerate.__new__» ⟨[.type "enumerate", v], []⟩) fun _ R s => There s.heap ∧
      R (.ok (.ret (.ref (s.heap.push o).objs.size))) { s with heap := (s.heap.push o).push { cls := .type "enumerate", data := .fields #[.none, .bool false, .ref s.heap.objs.size, rawInt 0, .none, .none] } } :=
  .of_wp fun prog w A R s there => by
    obtain ⟨there, after⟩ := there
    obtain ⟨hp, gens, drawn, toks, os⟩ := s
    have sub := sub_enumerate
    have begin_ : ∀ {A' : Around} {E Q : Value → Shared → Prop}, Q (.ref hp.objs.size) ⟨hp.push o, gens, drawn, toks, os⟩ → wpAny (model prog w) A' (pyIter v) Q E ⟨hp, gens, drawn, toks, os⟩ := fun q => B.iter prog w _ _ _ _ there q
    wp_walk using begin_
    refine wpAny_stack_any fun frames => wpAny_pure ?_
    split <;> (try (rename_i c _ _ _ _ _; cases (c == Value.type "enumerate"))) <;> (wp_walk using begin_; exact ⟨_, rfl, after⟩)
theorem enum_over {prog : Program} {w : World} {A : Around} {E : Value → Shared → Prop} {s : Shared} {a : Addr} {items : Array Value} {Q : Value → Shared → Prop} (tup : s.heap.IsTuple a items)
    (next : ∀ g, EnumT a (s.heap.objs.size + 1) s.heap.objs.size 0 g → (∀ b o, s.heap.get? b = some o → g.get? b = some o) → Q (.ref (s.heap.objs.size + 1)) { s with heap := g }) :
    wpAny (model prog w) A (call (.type "enumerate") [.ref a]) Q E s := by
  refine callType_new F.called_enumerate (by decide) (F.typeCall_enumerate_1 _) (F.newCall_enumerate_1 _) (fun obj => F.args_object_init_2 obj _) F.entry_enumerate_new (meets_enum1 (begins_tuple a items)) ⟨tup, ?_⟩
  generalize ho1 : ({ cls := .type "tuple_iterator", data := .fields #[.ref a, .int 0 0] } : Obj) = o1
  have n1 : (s.heap.push o1).objs.size = s.heap.objs.size + 1 := Heap.size_push ..
  have g2 := Heap.get?_push_size (s.heap.push o1) (o := { cls := .type "enumerate", data := .fields #[.none, .bool false, .ref s.heap.objs.size, rawInt 0, .none, .none] }) rfl
  have g1 := Heap.get?_push_of_some { cls := .type "enumerate", data := .fields #[.none, .bool false, .ref s.heap.objs.size, rawInt 0, .none, .none] } (Heap.get?_push_size s.heap (o := o1) (by subst ho1; rfl))
  show _ ∧ _
  rw [n1] at g2 ⊢
  subst ho1
  exact ⟨⟨_, g2, rfl⟩, next _ ⟨⟨_, g2⟩, _, g1, rfl, rfl⟩ fun b o e => Heap.get?_push_of_some _ (Heap.get?_push_of_some _ e)⟩
def iEnumT (K : PySem.W.Frag) (ta : TA) : TI := fun σ H R => ta σ H fun vs H1 => ∃ a xs, vs = [.ref a] ∧ SqT K H1 a xs ∧ R (IteT K a) H1
theorem pi_enumT {X : Cx} {e : Expr} {ta : TA} {p pos tpos : Pos} {elts : List Expr} {kk : Nat} (hg : Gl X "enumerate") (hm : X.mg "enumerate" = none) (ha : PA X [e] ta) (one : starEach [e] X.env = [(false, eval e X.env)] := by rfl) :
    PI X (.Tuple elts kk tpos) (.Call (.Name "enumerate" p) [e] [] pos) (iEnumT X.K ta) where
  run pins s σ H R inv h := by
    refine Call_ (ld_blt inv hg hm boot_enumerate (PyProof.Rows.callWith_type1 (thn (ha.run pos pins s σ H _ inv h) fun us s1 after => ?_) one rfl))
    obtain ⟨vs, H1, inv1, rel, a, xs, rfl, hq, q⟩ := after
    obtain ⟨u, rfl, ru⟩ := vals1 rel
    obtain rfl : u = Value.ref a := ru
    obtain ⟨its, _, tup, _⟩ := inv1.tuple hq
    have la : a < s1.heap.objs.size := by obtain ⟨oa, hoa, _⟩ := id tup; exact Heap.lt_size hoa
    refine enum_over tup fun g en k => ?_
    obtain ⟨⟨old, he⟩, _⟩ := id en
    refine wpAny_pyIter_enum he ?_
    refine ⟨s1.heap.objs.size + 1, [s1.heap.objs.size + 1, s1.heap.objs.size], EnumT a _ _, IteT X.K a, H1, rfl, inv1.kept (t' := s1.toks) k, turn_enumT (Nat.succ_ne_self _) (Nat.ne_of_lt la) (Nat.ne_of_lt (Nat.lt_succ_of_lt la)), en, fun b hb => ?_, q⟩
    have up : s1.heap.objs.size ≤ b := by
      rcases List.mem_cons.mp hb with z | z
      · exact z ▸ Nat.le_succ _
      · exact Nat.le_of_eq (List.mem_singleton.mp z).symm
    exact inv1.fpOk up (inv1.hok.fresh up)
theorem walk_enumT {K : PySem.W.Frag} {a : Addr} {xs : List V} : Walk (IteT K a) xs.length (fun H => SqT K H a xs) (YPair (fun i => some (.int (i : Nat))) (fun i => xs[i]?)) where
  goes i H hi q := ⟨xs, xs[i], q, List.getElem?_eq_getElem hi⟩
  stops H q := ⟨xs, q, rfl⟩
  yields i H v H' _ q y := let ⟨T, x, h1, h2, h3, h4⟩ := y; ⟨T, .int (i : Nat), x, h1, h2, h3, rfl, h4 xs q⟩

/-! ### zip(text, tuple) -/
def IzST (K : PySem.W.Frag) (z : Str) (b : Addr) : It where
  go i H := ∃ (ys : List V) (y : V), SqT K H b ys ∧ i < z.cps.size ∧ ys[i]? = some y
  yld i H v H' := ∃ T c y, v = .ref T ∧ H T = none ∧ H' = upd H T (.tup [.str ⟨#[c]⟩, y]) ∧ z.cps[i]? = some c ∧ ∀ ys, SqT K H b ys → ys[i]? = some y
  stop i H := ∃ ys : List V, SqT K H b ys ∧ i = min z.cps.size ys.length
/-- the five cells of a zip over the text x and the tuple at b, i pairs taken -/
def ZipST (x : Str) (t : Tok) (b z TI TO i1 i2 : Addr) (i : Nat) (h : Heap) : Prop := IsZip h z TI TO .none ∧ IsTupOf2 h TI (.ref i1) (.ref i2) ∧ (∃ a1 a2, IsTupOf2 h TO a1 a2) ∧ h.IsStrIter i1 (strIterType x) x t i ∧ h.IsTupleIter i2 b i
theorem turn_zipST {P : Program} {w : World} {K : PySem.W.Frag} {elts : List Expr} {kk : Nat} {tpos : Pos} {b z TI TO i1 i2 : Addr} {x : Str} {t : Tok} (S : ZipSep2 z TI TO i1 i2 [i1] [i2, b]) (hb : b ≠ i2) :
    Turn P w K (.Tuple elts kk tpos) (IzST K x b) [z, TO, i1, i2, TI] z (ZipST x t b z TI TO i1 i2) := by
  have W : ∀ (A : Around), A.handled = none → ∀ items : Array Value, _ := fun A hh items =>
    WalksT.zipD2 (prog := P) (w := w) (A := A) S (Draws.text (A := A.in1) hh i1 x t) (Draws.tuple (A := A.in1) hh i2 b hb items)
  have sub : ∀ c ∈ [z, TO, i1, i2], c ∈ [z, TO, i1, i2, TI] := fun c hc => List.mem_append_left [TI] hc
  have down : ∀ {items : Array Value} (j : Nat) (g : Heap), (IsZip g z TI TO .none ∧ IsTupOf2 g TI (.ref i1) (.ref i2) ∧ (∃ a1 a2, IsTupOf2 g TO a1 a2) ∧ g.IsStrIter i1 (strIterType x) x t j ∧ g.IsTupleIter i2 b j ∧ g.IsTuple b items) → ZipST x t b z TI TO i1 i2 j g := fun j g st => ⟨st.1, st.2.1, st.2.2.1, st.2.2.2.1, st.2.2.2.2.1⟩
  refine turn_pairs (List.mem_cons_self ..) (fun i h st c hc => ?_) (fun i g g' st k => ?_) (fun A i s Q E st q => wpAny_pyIter_zip st.1 q) (fun X pins s σ H i eP ew eK hh inv st go => ?_) (fun X pins s σ H i eP ew eK hh inv st stop => ?_)
  · obtain ⟨s1, s2, ⟨u1, u2, s3⟩, ⟨o1, p1, _, d1⟩, ⟨o2, p2, _, d2⟩⟩ := st
    simp only [List.mem_cons, List.not_mem_nil, or_false] at hc
    rcases hc with rfl | rfl | rfl | rfl | rfl
    · exact ⟨_, s1, fun v q => nomatch q⟩
    · exact ⟨_, s3, fun v q => nomatch q⟩
    · exact ⟨o1, p1, fun v q => by rw [d1] at q; cases q⟩
    · exact ⟨o2, p2, fun v q => by rw [d2] at q; cases q⟩
    · exact ⟨_, s2, fun v q => nomatch q⟩
  · obtain ⟨s1, s2, ⟨u1, u2, s3⟩, ⟨o1, p1, r1⟩, s5⟩ := st
    have kk : ∀ c, c ∈ [z, TO, i1, i2, TI] → ∀ o, g.get? c = some o → g'.get? c = some o := k
    simp only [List.mem_cons, List.not_mem_nil, or_false, forall_eq_or_imp, forall_eq] at kk
    obtain ⟨k1, k2, k3, k4, k5⟩ := kk
    exact ⟨k1 _ s1, k5 _ s2, ⟨u1, u2, k2 _ s3⟩, ⟨o1, k3 _ p1, r1⟩, s5.at fun o q => k4 o q⟩
  · obtain ⟨ys, y, hq, hx, hy⟩ := go
    subst eK
    obtain ⟨its, rv, tup, _⟩ := inv.tuple hq
    obtain ⟨u, hu, ru⟩ := rv.get hy
    have hu' : its.toArray[i]? = some u := by simpa using hu
    have hin : i < its.toArray.size := (Array.getElem?_eq_some_iff.mp hu').1
    have hc : x.cps[i]? = some x.cps[i] := Array.getElem?_eq_getElem hx
    refine ⟨.str ⟨#[x.cps[i]]⟩, y, ⟨_, _, _, _, _, _, W X.A hh its.toArray, sub, ⟨st.1, st.2.1, st.2.2.1, st.2.2.2.1, st.2.2.2.2, tup⟩, fun j g q => down j g q, fun _ => ⟨by omega, fun vals hP => ?_⟩, fun f => absurd trivial f⟩, fun T hT => ⟨T, x.cps[i], y, rfl, hT, rfl, hc, fun l hl => by rw [inv.tuple_inj hl hq]; exact hy⟩⟩
    obtain ⟨x1, x2, ⟨c, tc, e1, rfl⟩, e2, rfl⟩ := hP
    rw [hc] at e1
    have e2 : its.toArray[i]? = some x2 := e2
    rw [hu'] at e2
    refine ⟨_, x2, rfl, ⟨tc, by rw [Option.some.inj e1]⟩, by rw [← Option.some.inj e2]; exact ru⟩
  · obtain ⟨ys, hq, hi⟩ := stop
    subst eK
    obtain ⟨its, rv, tup, _⟩ := inv.tuple hq
    have hl := rv.length
    exact ⟨_, _, _, _, _, _, W X.A hh its.toArray, sub, ⟨st.1, st.2.1, st.2.2.1, st.2.2.2.1, st.2.2.2.2, tup⟩, fun j g q => down j g q, fun f => f.elim, fun _ => (show i = min x.cps.size its.toArray.size from by
      have e : its.toArray.size = ys.length := by simpa using hl.symm
      rw [e]
      exact hi)⟩
def iZipST (K : PySem.W.Frag) (ta : TA) : TI := fun σ H R => ta σ H fun vs H1 => ∃ z b ys, vs = [.str z, .ref b] ∧ SqT K H1 b ys ∧ R (IzST K z b) H1
theorem pi_zipST {X : Cx} {e e2 : Expr} {ta : TA} {p pos tpos : Pos} {elts : List Expr} {kk : Nat} (hg : Gl X "zip") (hm : X.mg "zip" = none) (ha : PA X [e, e2] ta)
    (s1 : starEach [e, e2] X.env = (false, eval e X.env) :: starEach [e2] X.env := by rfl) (s2 : (backTo pos (starEach [e2] X.env)).any (·.1) = false := by rfl) : PI X (.Tuple elts kk tpos) (.Call (.Name "zip" p) [e, e2] [] pos) (iZipST X.K ta) where
  run pins s σ H R inv h := by
    refine Call_ (ld_blt inv hg hm PyProof.Rows.boot_zip (PyProof.Rows.callWith_type1 (thn (ha.run pos pins s σ H _ inv h) fun us s1 after => ?_) s1 s2))
    obtain ⟨vs, H1, inv1, rel, z, b, ys, rfl, hq, q⟩ := after
    obtain ⟨n, hn⟩ : ∃ n, n = s1.heap.objs.size := ⟨_, rfl⟩
    match us, rel with
    | [_, _], .cons r1 (.cons r2 .nil) =>
      obtain ⟨t, rfl⟩ := r1
      cases r2
      obtain ⟨its, _, tup, _⟩ := inv1.tuple hq
      have lb : b < s1.heap.objs.size := by obtain ⟨ob, hob, _⟩ := id tup; exact Heap.lt_size hob
      refine zip_begins2 (begins_text z t) (begins_tuple b its.toArray) trivial tup fun g c1 c2 c3 c4 c5 _ k => wpAny_pyIter_zip c1 ?_
      have S : ZipSep2 (s1.heap.objs.size + 4) (s1.heap.objs.size + 2) (s1.heap.objs.size + 3) s1.heap.objs.size (s1.heap.objs.size + 1) [s1.heap.objs.size] [s1.heap.objs.size + 1, b] :=
        zip_sep2 (fp1 := []) (fp2 := [b]) (fun c hc => by cases hc) (fun c hc => by rw [List.mem_singleton.mp hc]; exact lb)
      refine ⟨_, [s1.heap.objs.size + 4, s1.heap.objs.size + 3, s1.heap.objs.size, s1.heap.objs.size + 1, s1.heap.objs.size + 2], ZipST z t b _ _ _ _ _, IzST X.K z b, H1, rfl, inv1.kept (t' := s1.toks) k, turn_zipST S (Nat.ne_of_lt (Nat.lt_succ_of_lt lb)), ⟨c1, c2, ⟨_, _, c3⟩, ⟨_, c4, rfl, rfl⟩, ⟨_, c5, rfl, rfl⟩⟩, fun c hc => ?_, q⟩
      have up : s1.heap.objs.size ≤ c := by
        simp only [List.mem_cons, List.not_mem_nil, or_false] at hc
        rcases hc with rfl | rfl | rfl | rfl | rfl <;> first | exact Nat.le_refl _ | exact Nat.le_add_right _ _
      exact inv1.fpOk up (inv1.hok.fresh up)
theorem walk_zipST {K : PySem.W.Frag} {z : Str} {b : Addr} {ys : List V} (hl : z.cps.size = ys.length) : Walk (IzST K z b) ys.length (fun H => SqT K H b ys) (YPair (fun i => (z.cps[i]?).map fun c => V.str ⟨#[c]⟩) (fun i => ys[i]?)) where
  goes i H hi q := ⟨ys, ys[i], q, by omega, List.getElem?_eq_getElem hi⟩
  stops H q := ⟨ys, q, by omega⟩
  yields i H v H' _ q y := let ⟨T, c, y, h1, h2, h3, h4, h5⟩ := y; ⟨T, .str ⟨#[c]⟩, y, h1, h2, h3, by show Option.map _ z.cps[i]? = _; rw [h4]; rfl, h5 ys q⟩
end MyR

set_option pp.maxSteps 400
set_option Elab.async false
set_option linter.all false
set_option maxRecDepth 100000
set_option maxHeartbeats 1000000
namespace MyR
open PySem PySem.Spec PyProof.Rows L2
/-! ### zip(text, list) -/
theorem plain_isL {h : Heap} {a : Addr} {its : Array Value} (x : PlainL h a its) : h.IsList a its := by
  obtain ⟨o, n, e, c, _, d⟩ := x
  exact ⟨o, e, c, n, d⟩
def IzSL (K : PySem.W.Frag) (z : Str) (b : Addr) : It where
  go i H := ∃ (ys : List V) (y : V), SqL K H b ys ∧ i < z.cps.size ∧ ys[i]? = some y
  yld i H v H' := ∃ T c y, v = .ref T ∧ H T = none ∧ H' = upd H T (.tup [.str ⟨#[c]⟩, y]) ∧ z.cps[i]? = some c ∧ ∀ ys, SqL K H b ys → ys[i]? = some y
  stop i H := ∃ ys : List V, SqL K H b ys ∧ i = min z.cps.size ys.length
/-- the five cells of a zip over the text x and the tuple at b, i pairs taken -/
def ZipSL (x : Str) (t : Tok) (b z TI TO i1 i2 : Addr) (i : Nat) (h : Heap) : Prop := IsZip h z TI TO .none ∧ IsTupOf2 h TI (.ref i1) (.ref i2) ∧ (∃ a1 a2, IsTupOf2 h TO a1 a2) ∧ h.IsStrIter i1 (strIterType x) x t i ∧ h.IsListIter i2 b i
theorem turn_zipSL {P : Program} {w : World} {K : PySem.W.Frag} {elts : List Expr} {kk : Nat} {tpos : Pos} {b z TI TO i1 i2 : Addr} {x : Str} {t : Tok} (S : ZipSep2 z TI TO i1 i2 [i1] [i2, b]) (hb : b ≠ i2) :
    Turn P w K (.Tuple elts kk tpos) (IzSL K x b) [z, TO, i1, i2, TI] z (ZipSL x t b z TI TO i1 i2) := by
  have W : ∀ (A : Around), A.handled = none → ∀ items : Array Value, _ := fun A hh items =>
    WalksT.zipD2 (prog := P) (w := w) (A := A) S (Draws.text (A := A.in1) hh i1 x t) (Draws.list (A := A.in1) hh i2 b hb items)
  have sub : ∀ c ∈ [z, TO, i1, i2], c ∈ [z, TO, i1, i2, TI] := fun c hc => List.mem_append_left [TI] hc
  have down : ∀ {items : Array Value} (j : Nat) (g : Heap), (IsZip g z TI TO .none ∧ IsTupOf2 g TI (.ref i1) (.ref i2) ∧ (∃ a1 a2, IsTupOf2 g TO a1 a2) ∧ g.IsStrIter i1 (strIterType x) x t j ∧ g.IsListIter i2 b j ∧ g.IsList b items) → ZipSL x t b z TI TO i1 i2 j g := fun j g st => ⟨st.1, st.2.1, st.2.2.1, st.2.2.2.1, st.2.2.2.2.1⟩
  refine turn_pairs (List.mem_cons_self ..) (fun i h st c hc => ?_) (fun i g g' st k => ?_) (fun A i s Q E st q => wpAny_pyIter_zip st.1 q) (fun X pins s σ H i eP ew eK hh inv st go => ?_) (fun X pins s σ H i eP ew eK hh inv st stop => ?_)
  · obtain ⟨s1, s2, ⟨u1, u2, s3⟩, ⟨o1, p1, _, d1⟩, ⟨o2, p2, _, d2⟩⟩ := st
    simp only [List.mem_cons, List.not_mem_nil, or_false] at hc
    rcases hc with rfl | rfl | rfl | rfl | rfl
    · exact ⟨_, s1, fun v q => nomatch q⟩
    · exact ⟨_, s3, fun v q => nomatch q⟩
    · exact ⟨o1, p1, fun v q => by rw [d1] at q; cases q⟩
    · exact ⟨o2, p2, fun v q => by rw [d2] at q; cases q⟩
    · exact ⟨_, s2, fun v q => nomatch q⟩
  · obtain ⟨s1, s2, ⟨u1, u2, s3⟩, ⟨o1, p1, r1⟩, s5⟩ := st
    have kk : ∀ c, c ∈ [z, TO, i1, i2, TI] → ∀ o, g.get? c = some o → g'.get? c = some o := k
    simp only [List.mem_cons, List.not_mem_nil, or_false, forall_eq_or_imp, forall_eq] at kk
    obtain ⟨k1, k2, k3, k4, k5⟩ := kk
    exact ⟨k1 _ s1, k5 _ s2, ⟨u1, u2, k2 _ s3⟩, ⟨o1, k3 _ p1, r1⟩, s5.at fun o q => k4 o q⟩
  · obtain ⟨ys, y, hq, hx, hy⟩ := go
    subst eK
    obtain ⟨its, rv, tup0, _⟩ := inv.list hq
    have tup := plain_isL tup0
    obtain ⟨u, hu, ru⟩ := rv.get hy
    have hu' : its.toArray[i]? = some u := by simpa using hu
    have hin : i < its.toArray.size := (Array.getElem?_eq_some_iff.mp hu').1
    have hc : x.cps[i]? = some x.cps[i] := Array.getElem?_eq_getElem hx
    refine ⟨.str ⟨#[x.cps[i]]⟩, y, ⟨_, _, _, _, _, _, W X.A hh its.toArray, sub, ⟨st.1, st.2.1, st.2.2.1, st.2.2.2.1, st.2.2.2.2, tup⟩, fun j g q => down j g q, fun _ => ⟨by omega, fun vals hP => ?_⟩, fun f => absurd trivial f⟩, fun T hT => ⟨T, x.cps[i], y, rfl, hT, rfl, hc, fun l hl => by rw [inv.list_inj hl hq]; exact hy⟩⟩
    obtain ⟨x1, x2, ⟨c, tc, e1, rfl⟩, e2, rfl⟩ := hP
    rw [hc] at e1
    have e2 : its.toArray[i]? = some x2 := e2
    rw [hu'] at e2
    refine ⟨_, x2, rfl, ⟨tc, by rw [Option.some.inj e1]⟩, by rw [← Option.some.inj e2]; exact ru⟩
  · obtain ⟨ys, hq, hi⟩ := stop
    subst eK
    obtain ⟨its, rv, tup0, _⟩ := inv.list hq
    have tup := plain_isL tup0
    have hl := rv.length
    exact ⟨_, _, _, _, _, _, W X.A hh its.toArray, sub, ⟨st.1, st.2.1, st.2.2.1, st.2.2.2.1, st.2.2.2.2, tup⟩, fun j g q => down j g q, fun f => f.elim, fun _ => (show i = min x.cps.size its.toArray.size from by
      have e : its.toArray.size = ys.length := by simpa using hl.symm
      rw [e]
      exact hi)⟩
def iZipSL (K : PySem.W.Frag) (ta : TA) : TI := fun σ H R => ta σ H fun vs H1 => ∃ z b ys, vs = [.str z, .ref b] ∧ SqL K H1 b ys ∧ R (IzSL K z b) H1
theorem pi_zipSL {X : Cx} {e e2 : Expr} {ta : TA} {p pos tpos : Pos} {elts : List Expr} {kk : Nat} (hg : Gl X "zip") (hm : X.mg "zip" = none) (ha : PA X [e, e2] ta)
    (s1 : starEach [e, e2] X.env = (false, eval e X.env) :: starEach [e2] X.env := by rfl) (s2 : (backTo pos (starEach [e2] X.env)).any (·.1) = false := by rfl) : PI X (.Tuple elts kk tpos) (.Call (.Name "zip" p) [e, e2] [] pos) (iZipSL X.K ta) where
  run pins s σ H R inv h := by
    refine Call_ (ld_blt inv hg hm PyProof.Rows.boot_zip (PyProof.Rows.callWith_type1 (thn (ha.run pos pins s σ H _ inv h) fun us s1 after => ?_) s1 s2))
    obtain ⟨vs, H1, inv1, rel, z, b, ys, rfl, hq, q⟩ := after
    obtain ⟨n, hn⟩ : ∃ n, n = s1.heap.objs.size := ⟨_, rfl⟩
    match us, rel with
    | [_, _], .cons r1 (.cons r2 .nil) =>
      obtain ⟨t, rfl⟩ := r1
      cases r2
      obtain ⟨its, _, tup0, _⟩ := inv1.list hq
      have tup := plain_isL tup0
      have lb : b < s1.heap.objs.size := by obtain ⟨ob, hob, _⟩ := id tup; exact Heap.lt_size hob
      refine zip_begins2 (begins_text z t) (begins_list b its.toArray) trivial tup fun g c1 c2 c3 c4 c5 _ k => wpAny_pyIter_zip c1 ?_
      have S : ZipSep2 (s1.heap.objs.size + 4) (s1.heap.objs.size + 2) (s1.heap.objs.size + 3) s1.heap.objs.size (s1.heap.objs.size + 1) [s1.heap.objs.size] [s1.heap.objs.size + 1, b] :=
        zip_sep2 (fp1 := []) (fp2 := [b]) (fun c hc => by cases hc) (fun c hc => by rw [List.mem_singleton.mp hc]; exact lb)
      refine ⟨_, [s1.heap.objs.size + 4, s1.heap.objs.size + 3, s1.heap.objs.size, s1.heap.objs.size + 1, s1.heap.objs.size + 2], ZipSL z t b _ _ _ _ _, IzSL X.K z b, H1, rfl, inv1.kept (t' := s1.toks) k, turn_zipSL S (Nat.ne_of_lt (Nat.lt_succ_of_lt lb)), ⟨c1, c2, ⟨_, _, c3⟩, ⟨_, c4, rfl, rfl⟩, ⟨_, c5, rfl, rfl⟩⟩, fun c hc => ?_, q⟩
      have up : s1.heap.objs.size ≤ c := by
        simp only [List.mem_cons, List.not_mem_nil, or_false] at hc
        rcases hc with rfl | rfl | rfl | rfl | rfl <;> first | exact Nat.le_refl _ | exact Nat.le_add_right _ _
      exact inv1.fpOk up (inv1.hok.fresh up)
theorem walk_zipSL {K : PySem.W.Frag} {z : Str} {b : Addr} {ys : List V} (hl : z.cps.size = ys.length) : Walk (IzSL K z b) ys.length (fun H => SqL K H b ys) (YPair (fun i => (z.cps[i]?).map fun c => V.str ⟨#[c]⟩) (fun i => ys[i]?)) where
  goes i H hi q := ⟨ys, ys[i], q, by omega, List.getElem?_eq_getElem hi⟩
  stops H q := ⟨ys, q, by omega⟩
  yields i H v H' _ q y := let ⟨T, c, y, h1, h2, h3, h4, h5⟩ := y; ⟨T, .str ⟨#[c]⟩, y, h1, h2, h3, by show Option.map _ z.cps[i]? = _; rw [h4]; rfl, h5 ys q⟩
end MyR

set_option Elab.async false
set_option linter.all false
set_option maxRecDepth 100000
set_option maxHeartbeats 1000000
namespace MyR
open PySem PySem.Spec PyProof.Rows L2
/-! ### zip over two or three sequences, each a list or a tuple, the target of any form -/
def TupAt (P : Program) (w : World) (A : Around) (I : Addr) (cs : List Addr) (own : Nat → Heap → Prop) (h : Heap) (i : Nat) (xs : List V) (more : Prop) : Prop :=
  ∃ (n : Nat) (wr fp : List Addr) (Pt : Nat → Array Value → Prop) (St : Nat → Heap → Prop) (Mid : Nat → Addr → Heap → Prop), WalksT P w A I fp wr n Pt St Mid ∧ (∀ b ∈ wr, b ∈ cs) ∧ St i h ∧ (∀ j g, St j g → own j g) ∧
    ((more → i < n ∧ ∀ vals, Pt i vals → ∃ us : List Value, vals = us.toArray ∧ Vals xs us) ∧ (¬ more → i = n))
theorem turn_tups {P : Program} {w : World} {K : PySem.W.Frag} {elts : List Expr} {kk : Nat} {tpos : Pos} {I : Addr} {cs : List Addr} {J : It} {own : Nat → Heap → Prop} (hI : I ∈ cs)
    (cells : ∀ i h, own i h → ∀ b ∈ cs, ∃ o, h.get? b = some o ∧ ∀ v, o.data ≠ .cell v)
    (stays : ∀ i g g', own i g → (∀ b ∈ cs, ∀ o, g.get? b = some o → g'.get? b = some o) → own i g')
    (again : ∀ (A : Around) (i : Nat) (s : Shared) (Q E : Value → Shared → Prop), own i s.heap → Q (.ref I) s → wpAny (model P w) A (pyIter (.ref I)) Q E s)
    (goes : ∀ (X : Cx) (pins : List (Addr × Obj)) (s : Shared) (σ : L2.St) (H : Hp) (i : Nat), X.prog = P → X.w = w → X.K = K → X.A.handled = none → Inv X pins σ H s → own i s.heap → J.go i H →
      ∃ xs : List V, xs.length ≤ 3 ∧ TupAt P w X.A I cs own s.heap i xs True ∧ ∀ T, H T = none → J.yld i H (.ref T) (upd H T (.tup xs)))
    (ends : ∀ (X : Cx) (pins : List (Addr × Obj)) (s : Shared) (σ : L2.St) (H : Hp) (i : Nat), X.prog = P → X.w = w → X.K = K → X.A.handled = none → Inv X pins σ H s → own i s.heap → J.stop i H → TupAt P w X.A I cs own s.heap i [] False) :
    Turn P w K (.Tuple elts kk tpos) J cs I own where
  mem := hI
  obj := cells
  keep := stays
  self := again
  item := by
    intro X eP ew eK calm i pins s σ H E inv free st more
    obtain ⟨xs, hx3, ⟨n, wr, fp, Pt, St, Mid, W, sub, hst, hown, hmore, _⟩, hyld⟩ := goes X pins s σ H i eP ew eK (inv.ok.hd calm) inv st more
    obtain ⟨hin, hvals⟩ := hmore trivial
    subst eP ew eK
    refine W.item i s _ _ hin hst fun T vals h1 tk hP hT hTup hMid k1 => ?_
    obtain ⟨us, rfl, rv⟩ := hvals vals hP
    refine ⟨.ref T, rfl, W.go elts kk tpos i T _ _ _ hMid fun h2 st2 k2 => ?_⟩
    have tup2 : h2.IsTuple T us.toArray := hTup.at fun o e => k2 T o (W.apart i T h1 hMid) e
    have fresh : H T = none := inv.hok.fresh hT
    have inv2 : Inv X pins σ (upd H T (.tup xs)) { s with heap := h2, toks := tk } :=
      inv.turnedNew (ch := cs) (fun b o nb e => k2 b o (fun m => nb (sub b m)) (k1 b o (fun m => nb (sub b m)) e)) free hT ⟨(by show xs.length ≤ sizeLine; rw [sizeLine_eq]; omega), us, rv, tup2⟩
    refine ⟨.ref T, _, inv2, rfl, hyld T fresh, hown _ _ st2, fun b hb => ?_⟩
    obtain ⟨o, ho, _⟩ := cells i _ st b hb
    rw [upd_ne (Nat.ne_of_lt (Nat.lt_of_lt_of_le (Heap.lt_size ho) hT))]
    exact (free b hb).1
  done := by
    intro X eP ew eK calm i pins s σ H E inv free st stop
    obtain ⟨n, wr, fp, Pt, St, Mid, W, sub, hst, _, _, hend⟩ := ends X pins s σ H i eP ew eK (inv.ok.hd calm) inv st stop
    obtain rfl := hend (fun f => f)
    subst eP ew eK
    exact W.done s _ _ hst fun h1 tk k1 => ⟨rfl, inv.turnedL (t' := tk) (ch := cs) (fun b o nb e => k1 b o (fun m => nb (sub b m)) e) free⟩
/-- a list (false) or a tuple (true) -/
def SqK (k : Bool) (K : PySem.W.Frag) (H : Hp) (a : Addr) (xs : List V) : Prop := if k = true then SqT K H a xs else SqL K H a xs
def IsK (k : Bool) (h : Heap) (a : Addr) (items : Array Value) : Prop := if k = true then h.IsTuple a items else h.IsList a items
def IterK (k : Bool) (h : Heap) (it a : Addr) (i : Nat) : Prop := if k = true then h.IsTupleIter it a i else h.IsListIter it a i
def oK (k : Bool) (a : Addr) : Obj := { cls := .type (if k = true then "tuple_iterator" else "list_iterator"), data := .fields #[.ref a, .int 0 0] }
theorem draws_k {prog : Program} {w : World} {A : Around} (k : Bool) (hh : A.handled = none) (it a : Addr) (hne : a ≠ it) (items : Array Value) :
    Draws prog w A it [it, a] items.size (fun i v => items[i]? = some v) (fun i h => IterK k h it a i ∧ IsK k h a items) := by
  cases k
  · exact Draws.list hh it a hne items
  · exact Draws.tuple hh it a hne items
theorem begins_k (k : Bool) (a : Addr) (items : Array Value) : Begins (.ref a) (oK k a) fun h => IsK k h a items := by
  cases k
  · exact begins_list a items
  · exact begins_tuple a items
theorem IterK.first {k : Bool} {h : Heap} {it a : Addr} (e : h.get? it = some (oK k a)) : IterK k h it a 0 := by
  cases k
  · exact ⟨_, e, rfl, rfl⟩
  · exact ⟨_, e, rfl, rfl⟩
theorem IterK.at {k : Bool} {h h' : Heap} {it a : Addr} {i : Nat} (x : IterK k h it a i) (f : ∀ o, h.get? it = some o → h'.get? it = some o) : IterK k h' it a i := by
  cases k
  · exact Heap.IsListIter.at x f
  · exact Heap.IsTupleIter.at x f
theorem IterK.cell {k : Bool} {h : Heap} {it a : Addr} {i : Nat} (x : IterK k h it a i) : ∃ o, h.get? it = some o ∧ ∀ v, o.data ≠ .cell v := by
  cases k
  · obtain ⟨o, e, _, d⟩ := x
    exact ⟨o, e, fun v q => by rw [d] at q; cases q⟩
  · obtain ⟨o, e, _, d⟩ := x
    exact ⟨o, e, fun v q => by rw [d] at q; cases q⟩
theorem SqK.is {X : Cx} {pins : List (Addr × Obj)} {σ : L2.St} {H : Hp} {s : Shared} {k : Bool} {a : Addr} {xs : List V} (I : Inv X pins σ H s) (h : SqK k X.K H a xs) : ∃ its : List Value, Vals xs its ∧ IsK k s.heap a its.toArray := by
  cases k
  · obtain ⟨its, rv, t0, _⟩ := I.list h
    exact ⟨its, rv, plain_isL t0⟩
  · obtain ⟨its, rv, t0, _⟩ := I.tuple h
    exact ⟨its, rv, t0⟩
theorem SqK.inj {X : Cx} {pins : List (Addr × Obj)} {σ : L2.St} {H : Hp} {s : Shared} {k : Bool} {a : Addr} {xs ys : List V} (I : Inv X pins σ H s) (h : SqK k X.K H a xs) (g : SqK k X.K H a ys) : xs = ys := by
  cases k
  · exact I.list_inj h g
  · exact I.tuple_inj h g
theorem IsK.lt {k : Bool} {h : Heap} {a : Addr} {its : Array Value} (x : IsK k h a its) : a < h.objs.size := by
  cases k
  · obtain ⟨o, e, _⟩ := x
    exact Heap.lt_size e
  · obtain ⟨o, e, _⟩ := x
    exact Heap.lt_size e
/-! two -/
def ItzK (k1 k2 : Bool) (K : PySem.W.Frag) (a b : Addr) : It where
  go i H := ∃ (xs ys : List V) (x y : V), SqK k1 K H a xs ∧ SqK k2 K H b ys ∧ xs[i]? = some x ∧ ys[i]? = some y
  yld i H v H' := ∃ T x y, v = .ref T ∧ H T = none ∧ H' = upd H T (.tup [x, y]) ∧ (∀ xs, SqK k1 K H a xs → xs[i]? = some x) ∧ ∀ ys, SqK k2 K H b ys → ys[i]? = some y
  stop i H := ∃ xs ys : List V, SqK k1 K H a xs ∧ SqK k2 K H b ys ∧ i = min xs.length ys.length
def ZipK2 (k1 k2 : Bool) (a b z TI TO i1 i2 : Addr) (i : Nat) (h : Heap) : Prop := IsZip h z TI TO .none ∧ IsTupOf2 h TI (.ref i1) (.ref i2) ∧ (∃ a1 a2, IsTupOf2 h TO a1 a2) ∧ IterK k1 h i1 a i ∧ IterK k2 h i2 b i
theorem turn_zipK {P : Program} {w : World} {K : PySem.W.Frag} {k1 k2 : Bool} {elts : List Expr} {kk : Nat} {tpos : Pos} {a b z TI TO i1 i2 : Addr} (S : ZipSep2 z TI TO i1 i2 [i1, a] [i2, b]) (ha : a ≠ i1) (hb : b ≠ i2) :
    Turn P w K (.Tuple elts kk tpos) (ItzK k1 k2 K a b) [z, TO, i1, i2, TI] z (ZipK2 k1 k2 a b z TI TO i1 i2) := by
  have W : ∀ (A : Around), A.handled = none → ∀ it1 it2 : Array Value, _ := fun A hh it1 it2 =>
    WalksT.zipD2 (prog := P) (w := w) (A := A) S (draws_k (A := A.in1) k1 hh i1 a ha it1) (draws_k (A := A.in1) k2 hh i2 b hb it2)
  have sub : ∀ c ∈ [z, TO, i1, i2], c ∈ [z, TO, i1, i2, TI] := fun c hc => List.mem_append_left [TI] hc
  have down : ∀ {it1 it2 : Array Value} (j : Nat) (g : Heap), (IsZip g z TI TO .none ∧ IsTupOf2 g TI (.ref i1) (.ref i2) ∧ (∃ a1 a2, IsTupOf2 g TO a1 a2) ∧ (IterK k1 g i1 a j ∧ IsK k1 g a it1) ∧ (IterK k2 g i2 b j ∧ IsK k2 g b it2)) → ZipK2 k1 k2 a b z TI TO i1 i2 j g := fun j g st => ⟨st.1, st.2.1, st.2.2.1, st.2.2.2.1.1, st.2.2.2.2.1⟩
  refine turn_tups (List.mem_cons_self ..) (fun i h st c hc => ?_) (fun i g g' st k => ?_) (fun A i s Q E st q => wpAny_pyIter_zip st.1 q) (fun X pins s σ H i eP ew eK hh inv st go => ?_) (fun X pins s σ H i eP ew eK hh inv st stop => ?_)
  · obtain ⟨s1, s2, ⟨u1, u2, s3⟩, s4, s5⟩ := st
    simp only [List.mem_cons, List.not_mem_nil, or_false] at hc
    rcases hc with rfl | rfl | rfl | rfl | rfl
    · exact ⟨_, s1, fun v q => nomatch q⟩
    · exact ⟨_, s3, fun v q => nomatch q⟩
    · exact s4.cell
    · exact s5.cell
    · exact ⟨_, s2, fun v q => nomatch q⟩
  · obtain ⟨s1, s2, ⟨u1, u2, s3⟩, s4, s5⟩ := st
    have kk : ∀ c, c ∈ [z, TO, i1, i2, TI] → ∀ o, g.get? c = some o → g'.get? c = some o := k
    simp only [List.mem_cons, List.not_mem_nil, or_false, forall_eq_or_imp, forall_eq] at kk
    obtain ⟨q1, q2, q3, q4, q5⟩ := kk
    exact ⟨q1 _ s1, q5 _ s2, ⟨u1, u2, q2 _ s3⟩, s4.at fun o q => q3 o q, s5.at fun o q => q4 o q⟩
  · obtain ⟨xs, ys, x, y, hq1, hq2, hx, hy⟩ := go
    subst eK
    obtain ⟨it1, rv1, t1⟩ := hq1.is inv
    obtain ⟨it2, rv2, t2⟩ := hq2.is inv
    obtain ⟨u1, hu1, ru1⟩ := rv1.get hx
    obtain ⟨u2, hu2, ru2⟩ := rv2.get hy
    have hu1' : it1.toArray[i]? = some u1 := by simpa using hu1
    have hu2' : it2.toArray[i]? = some u2 := by simpa using hu2
    have hin1 : i < it1.toArray.size := (Array.getElem?_eq_some_iff.mp hu1').1
    have hin2 : i < it2.toArray.size := (Array.getElem?_eq_some_iff.mp hu2').1
    refine ⟨[x, y], by show 2 ≤ 3; decide, ⟨_, _, _, _, _, _, W X.A hh it1.toArray it2.toArray, sub, ⟨st.1, st.2.1, st.2.2.1, ⟨st.2.2.2.1, t1⟩, ⟨st.2.2.2.2, t2⟩⟩, fun j g q => down j g q, fun _ => ⟨by omega, fun vals hP => ?_⟩, fun f => absurd trivial f⟩, fun T hT => ⟨T, x, y, rfl, hT, rfl, fun l hl => by rw [hl.inj inv hq1]; exact hx, fun l hl => by rw [hl.inj inv hq2]; exact hy⟩⟩
    obtain ⟨x1, x2, e1, e2, rfl⟩ := hP
    have e1 : it1.toArray[i]? = some x1 := e1
    have e2 : it2.toArray[i]? = some x2 := e2
    rw [hu1'] at e1
    rw [hu2'] at e2
    exact ⟨[x1, x2], rfl, .cons (by rw [← Option.some.inj e1]; exact ru1) (.cons (by rw [← Option.some.inj e2]; exact ru2) .nil)⟩
  · obtain ⟨xs, ys, hq1, hq2, hi⟩ := stop
    subst eK
    obtain ⟨it1, rv1, t1⟩ := hq1.is inv
    obtain ⟨it2, rv2, t2⟩ := hq2.is inv
    have l1 := rv1.length
    have l2 := rv2.length
    exact ⟨_, _, _, _, _, _, W X.A hh it1.toArray it2.toArray, sub, ⟨st.1, st.2.1, st.2.2.1, ⟨st.2.2.2.1, t1⟩, ⟨st.2.2.2.2, t2⟩⟩, fun j g q => down j g q, fun f => f.elim, fun _ => (show i = min it1.toArray.size it2.toArray.size from by
      rw [List.size_toArray, List.size_toArray, ← l1, ← l2]
      exact hi)⟩
def iZipK (K : PySem.W.Frag) (ta : TA) : TI := fun σ H R => ta σ H fun vs H1 => ∃ k1 k2 a b xs ys, vs = [.ref a, .ref b] ∧ SqK k1 K H1 a xs ∧ SqK k2 K H1 b ys ∧ R (ItzK k1 k2 K a b) H1
theorem pi_zipK {X : Cx} {e e2 : Expr} {ta : TA} {p pos tpos : Pos} {elts : List Expr} {kk : Nat} (hg : Gl X "zip") (hm : X.mg "zip" = none) (ha : PA X [e, e2] ta)
    (s1 : starEach [e, e2] X.env = (false, eval e X.env) :: starEach [e2] X.env := by rfl) (s2 : (backTo pos (starEach [e2] X.env)).any (·.1) = false := by rfl) : PI X (.Tuple elts kk tpos) (.Call (.Name "zip" p) [e, e2] [] pos) (iZipK X.K ta) where
  run pins s σ H R inv h := by
    refine Call_ (ld_blt inv hg hm PyProof.Rows.boot_zip (PyProof.Rows.callWith_type1 (thn (ha.run pos pins s σ H _ inv h) fun us s1 after => ?_) s1 s2))
    obtain ⟨vs, H1, inv1, rel, k1, k2, a, b, xs, ys, rfl, hq1, hq2, q⟩ := after
    match us, rel with
    | [_, _], .cons r1 (.cons r2 .nil) =>
      cases r1
      cases r2
      obtain ⟨it1, _, t1⟩ := hq1.is inv1
      obtain ⟨it2, _, t2⟩ := hq2.is inv1
      have la := t1.lt
      have lb := t2.lt
      refine zip_begins2 (begins_k k1 a it1.toArray) (begins_k k2 b it2.toArray) t1 t2 fun g c1 c2 c3 c4 c5 _ k => wpAny_pyIter_zip c1 ?_
      have S : ZipSep2 (s1.heap.objs.size + 4) (s1.heap.objs.size + 2) (s1.heap.objs.size + 3) s1.heap.objs.size (s1.heap.objs.size + 1) [s1.heap.objs.size, a] [s1.heap.objs.size + 1, b] :=
        zip_sep2 (fp1 := [a]) (fp2 := [b]) (fun c hc => by rw [List.mem_singleton.mp hc]; exact la) (fun c hc => by rw [List.mem_singleton.mp hc]; exact lb)
      refine ⟨_, [s1.heap.objs.size + 4, s1.heap.objs.size + 3, s1.heap.objs.size, s1.heap.objs.size + 1, s1.heap.objs.size + 2], ZipK2 k1 k2 a b _ _ _ _ _, ItzK k1 k2 X.K a b, H1, rfl, inv1.kept (t' := s1.toks) k, turn_zipK S (Nat.ne_of_lt la) (Nat.ne_of_lt (Nat.lt_succ_of_lt lb)), ⟨c1, c2, ⟨_, _, c3⟩, .first c4, .first c5⟩, fun c hc => ?_, q⟩
      have up : s1.heap.objs.size ≤ c := by
        simp only [List.mem_cons, List.not_mem_nil, or_false] at hc
        rcases hc with rfl | rfl | rfl | rfl | rfl <;> first | exact Nat.le_refl _ | exact Nat.le_add_right _ _
      exact inv1.fpOk up (inv1.hok.fresh up)
theorem walk_zipK {K : PySem.W.Frag} {k1 k2 : Bool} {a b : Addr} {xs ys : List V} (hl : xs.length = ys.length) : Walk (ItzK k1 k2 K a b) xs.length (fun H => SqK k1 K H a xs ∧ SqK k2 K H b ys) (YPair (fun i => xs[i]?) (fun i => ys[i]?)) where
  goes i H hi q := ⟨xs, ys, xs[i], ys[i], q.1, q.2, List.getElem?_eq_getElem hi, List.getElem?_eq_getElem (by omega)⟩
  stops H q := ⟨xs, ys, q.1, q.2, by omega⟩
  yields i H v H' _ q y := let ⟨T, x, y, h1, h2, h3, h4, h5⟩ := y; ⟨T, x, y, h1, h2, h3, h4 xs q.1, h5 ys q.2⟩
/-! three -/
def ItzK3 (k1 k2 k3 : Bool) (K : PySem.W.Frag) (a b c : Addr) : It where
  go i H := ∃ (xs ys zs : List V) (x y z : V), SqK k1 K H a xs ∧ SqK k2 K H b ys ∧ SqK k3 K H c zs ∧ xs[i]? = some x ∧ ys[i]? = some y ∧ zs[i]? = some z
  yld i H v H' := ∃ T x y z, v = .ref T ∧ H T = none ∧ H' = upd H T (.tup [x, y, z]) ∧ (∀ xs, SqK k1 K H a xs → xs[i]? = some x) ∧ (∀ ys, SqK k2 K H b ys → ys[i]? = some y) ∧ ∀ zs, SqK k3 K H c zs → zs[i]? = some z
  stop i H := ∃ xs ys zs : List V, SqK k1 K H a xs ∧ SqK k2 K H b ys ∧ SqK k3 K H c zs ∧ i = min (min xs.length ys.length) zs.length
def ZipK3 (k1 k2 k3 : Bool) (a b c z TI TO i1 i2 i3 : Addr) (i : Nat) (h : Heap) : Prop := IsZip h z TI TO .none ∧ IsTupOf3 h TI (.ref i1) (.ref i2) (.ref i3) ∧ (∃ a1 a2 a3, IsTupOf3 h TO a1 a2 a3) ∧ IterK k1 h i1 a i ∧ IterK k2 h i2 b i ∧ IterK k3 h i3 c i
theorem turn_zipK3 {P : Program} {w : World} {K : PySem.W.Frag} {k1 k2 k3 : Bool} {elts : List Expr} {kk : Nat} {tpos : Pos} {a b c z TI TO i1 i2 i3 : Addr} (S : ZipSep3 z TI TO i1 i2 i3 [i1, a] [i2, b] [i3, c]) (ha : a ≠ i1) (hb : b ≠ i2) (hc : c ≠ i3) :
    Turn P w K (.Tuple elts kk tpos) (ItzK3 k1 k2 k3 K a b c) [z, TO, i1, i2, i3, TI] z (ZipK3 k1 k2 k3 a b c z TI TO i1 i2 i3) := by
  have W : ∀ (A : Around), A.handled = none → ∀ it1 it2 it3 : Array Value, _ := fun A hh it1 it2 it3 =>
    WalksT.zipD3 (prog := P) (w := w) (A := A) S (draws_k (A := A.in1) k1 hh i1 a ha it1) (draws_k (A := A.in1) k2 hh i2 b hb it2) (draws_k (A := A.in1) k3 hh i3 c hc it3)
  have sub : ∀ c ∈ [z, TO, i1, i2, i3], c ∈ [z, TO, i1, i2, i3, TI] := fun c hc => List.mem_append_left [TI] hc
  have down : ∀ {it1 it2 it3 : Array Value} (j : Nat) (g : Heap), (IsZip g z TI TO .none ∧ IsTupOf3 g TI (.ref i1) (.ref i2) (.ref i3) ∧ (∃ a1 a2 a3, IsTupOf3 g TO a1 a2 a3) ∧ (IterK k1 g i1 a j ∧ IsK k1 g a it1) ∧ (IterK k2 g i2 b j ∧ IsK k2 g b it2) ∧ (IterK k3 g i3 c j ∧ IsK k3 g c it3)) → ZipK3 k1 k2 k3 a b c z TI TO i1 i2 i3 j g := fun j g st => ⟨st.1, st.2.1, st.2.2.1, st.2.2.2.1.1, st.2.2.2.2.1.1, st.2.2.2.2.2.1⟩
  refine turn_tups (List.mem_cons_self ..) (fun i h st c hc => ?_) (fun i g g' st k => ?_) (fun A i s Q E st q => wpAny_pyIter_zip st.1 q) (fun X pins s σ H i eP ew eK hh inv st go => ?_) (fun X pins s σ H i eP ew eK hh inv st stop => ?_)
  · obtain ⟨s1, s2, ⟨u1, u2, u3, s3⟩, s4, s5, s6⟩ := st
    simp only [List.mem_cons, List.not_mem_nil, or_false] at hc
    rcases hc with rfl | rfl | rfl | rfl | rfl | rfl
    · exact ⟨_, s1, fun v q => nomatch q⟩
    · exact ⟨_, s3, fun v q => nomatch q⟩
    · exact s4.cell
    · exact s5.cell
    · exact s6.cell
    · exact ⟨_, s2, fun v q => nomatch q⟩
  · obtain ⟨s1, s2, ⟨u1, u2, u3, s3⟩, s4, s5, s6⟩ := st
    have kk : ∀ c, c ∈ [z, TO, i1, i2, i3, TI] → ∀ o, g.get? c = some o → g'.get? c = some o := k
    simp only [List.mem_cons, List.not_mem_nil, or_false, forall_eq_or_imp, forall_eq] at kk
    obtain ⟨q1, q2, q3, q4, q5, q6⟩ := kk
    exact ⟨q1 _ s1, q6 _ s2, ⟨u1, u2, u3, q2 _ s3⟩, s4.at fun o q => q3 o q, s5.at fun o q => q4 o q, s6.at fun o q => q5 o q⟩
  · obtain ⟨xs, ys, zs, x, y, v, hq1, hq2, hq3, hx, hy, hv⟩ := go
    subst eK
    obtain ⟨it1, rv1, t1⟩ := hq1.is inv
    obtain ⟨it2, rv2, t2⟩ := hq2.is inv
    obtain ⟨it3, rv3, t3⟩ := hq3.is inv
    obtain ⟨u1, hu1, ru1⟩ := rv1.get hx
    obtain ⟨u2, hu2, ru2⟩ := rv2.get hy
    obtain ⟨u3, hu3, ru3⟩ := rv3.get hv
    have hu1' : it1.toArray[i]? = some u1 := by simpa using hu1
    have hu2' : it2.toArray[i]? = some u2 := by simpa using hu2
    have hu3' : it3.toArray[i]? = some u3 := by simpa using hu3
    have hin1 : i < it1.toArray.size := (Array.getElem?_eq_some_iff.mp hu1').1
    have hin2 : i < it2.toArray.size := (Array.getElem?_eq_some_iff.mp hu2').1
    have hin3 : i < it3.toArray.size := (Array.getElem?_eq_some_iff.mp hu3').1
    refine ⟨[x, y, v], by show 3 ≤ 3; decide, ⟨_, _, _, _, _, _, W X.A hh it1.toArray it2.toArray it3.toArray, sub, ⟨st.1, st.2.1, st.2.2.1, ⟨st.2.2.2.1, t1⟩, ⟨st.2.2.2.2.1, t2⟩, ⟨st.2.2.2.2.2, t3⟩⟩, fun j g q => down j g q, fun _ => ⟨by omega, fun vals hP => ?_⟩, fun f => absurd trivial f⟩, fun T hT => ⟨T, x, y, v, rfl, hT, rfl, fun l hl => by rw [hl.inj inv hq1]; exact hx, fun l hl => by rw [hl.inj inv hq2]; exact hy, fun l hl => by rw [hl.inj inv hq3]; exact hv⟩⟩
    obtain ⟨x1, x2, x3, e1, e2, e3, rfl⟩ := hP
    have e1 : it1.toArray[i]? = some x1 := e1
    have e2 : it2.toArray[i]? = some x2 := e2
    have e3 : it3.toArray[i]? = some x3 := e3
    rw [hu1'] at e1
    rw [hu2'] at e2
    rw [hu3'] at e3
    exact ⟨[x1, x2, x3], rfl, .cons (by rw [← Option.some.inj e1]; exact ru1) (.cons (by rw [← Option.some.inj e2]; exact ru2) (.cons (by rw [← Option.some.inj e3]; exact ru3) .nil))⟩
  · obtain ⟨xs, ys, zs, hq1, hq2, hq3, hi⟩ := stop
    subst eK
    obtain ⟨it1, rv1, t1⟩ := hq1.is inv
    obtain ⟨it2, rv2, t2⟩ := hq2.is inv
    obtain ⟨it3, rv3, t3⟩ := hq3.is inv
    have l1 := rv1.length
    have l2 := rv2.length
    have l3 := rv3.length
    exact ⟨_, _, _, _, _, _, W X.A hh it1.toArray it2.toArray it3.toArray, sub, ⟨st.1, st.2.1, st.2.2.1, ⟨st.2.2.2.1, t1⟩, ⟨st.2.2.2.2.1, t2⟩, ⟨st.2.2.2.2.2, t3⟩⟩, fun j g q => down j g q, fun f => f.elim, fun _ => (show i = min (min it1.toArray.size it2.toArray.size) it3.toArray.size from by
      rw [List.size_toArray, List.size_toArray, List.size_toArray, ← l1, ← l2, ← l3]
      exact hi)⟩
def iZipK3 (K : PySem.W.Frag) (ta : TA) : TI := fun σ H R => ta σ H fun vs H1 => ∃ k1 k2 k3 a b c xs ys zs, vs = [.ref a, .ref b, .ref c] ∧ SqK k1 K H1 a xs ∧ SqK k2 K H1 b ys ∧ SqK k3 K H1 c zs ∧ R (ItzK3 k1 k2 k3 K a b c) H1
theorem pi_zipK3 {X : Cx} {e e2 e3 : Expr} {ta : TA} {p pos tpos : Pos} {elts : List Expr} {kk : Nat} (hg : Gl X "zip") (hm : X.mg "zip" = none) (ha : PA X [e, e2, e3] ta)
    (s1 : starEach [e, e2, e3] X.env = (false, eval e X.env) :: starEach [e2, e3] X.env := by rfl) (s2 : (backTo pos (starEach [e2, e3] X.env)).any (·.1) = false := by rfl) : PI X (.Tuple elts kk tpos) (.Call (.Name "zip" p) [e, e2, e3] [] pos) (iZipK3 X.K ta) where
  run pins s σ H R inv h := by
    refine Call_ (ld_blt inv hg hm PyProof.Rows.boot_zip (PyProof.Rows.callWith_type1 (thn (ha.run pos pins s σ H _ inv h) fun us s1 after => ?_) s1 s2))
    obtain ⟨vs, H1, inv1, rel, k1, k2, k3, a, b, c, xs, ys, zs, rfl, hq1, hq2, hq3, q⟩ := after
    match us, rel with
    | [_, _, _], .cons r1 (.cons r2 (.cons r3 .nil)) =>
      cases r1
      cases r2
      cases r3
      obtain ⟨it1, _, t1⟩ := hq1.is inv1
      obtain ⟨it2, _, t2⟩ := hq2.is inv1
      obtain ⟨it3, _, t3⟩ := hq3.is inv1
      have la := t1.lt
      have lb := t2.lt
      have lc := t3.lt
      refine zip_begins3 (begins_k k1 a it1.toArray) (begins_k k2 b it2.toArray) (begins_k k3 c it3.toArray) t1 t2 t3 fun g c1 c2 c3 c4 c5 c6 _ k => wpAny_pyIter_zip c1 ?_
      have S : ZipSep3 (s1.heap.objs.size + 5) (s1.heap.objs.size + 3) (s1.heap.objs.size + 4) s1.heap.objs.size (s1.heap.objs.size + 1) (s1.heap.objs.size + 2) [s1.heap.objs.size, a] [s1.heap.objs.size + 1, b] [s1.heap.objs.size + 2, c] :=
        zip_sep3 (fp1 := [a]) (fp2 := [b]) (fp3 := [c]) (fun c hc => by rw [List.mem_singleton.mp hc]; exact la) (fun c hc => by rw [List.mem_singleton.mp hc]; exact lb) (fun c hc => by rw [List.mem_singleton.mp hc]; exact lc)
      refine ⟨_, [s1.heap.objs.size + 5, s1.heap.objs.size + 4, s1.heap.objs.size, s1.heap.objs.size + 1, s1.heap.objs.size + 2, s1.heap.objs.size + 3], ZipK3 k1 k2 k3 a b c _ _ _ _ _ _, ItzK3 k1 k2 k3 X.K a b c, H1, rfl, inv1.kept (t' := s1.toks) k, turn_zipK3 S (Nat.ne_of_lt la) (Nat.ne_of_lt (Nat.lt_succ_of_lt lb)) (Nat.ne_of_lt (Nat.lt_succ_of_lt (Nat.lt_succ_of_lt lc))), ⟨c1, c2, ⟨_, _, _, c3⟩, .first c4, .first c5, .first c6⟩, fun c hc => ?_, q⟩
      have up : s1.heap.objs.size ≤ c := by
        simp only [List.mem_cons, List.not_mem_nil, or_false] at hc
        rcases hc with rfl | rfl | rfl | rfl | rfl | rfl <;> first | exact Nat.le_refl _ | exact Nat.le_add_right _ _
      exact inv1.fpOk up (inv1.hok.fresh up)
def YTrip (f g k : Nat → Option V) : Nat → Hp → V → Hp → Prop := fun i H v H' => ∃ T x y z, v = .ref T ∧ H T = none ∧ H' = upd H T (.tup [x, y, z]) ∧ f i = some x ∧ g i = some y ∧ k i = some z
theorem walk_zipK3 {K : PySem.W.Frag} {k1 k2 k3 : Bool} {a b c : Addr} {xs ys zs : List V} (hl : xs.length = ys.length) (hl2 : xs.length = zs.length) : Walk (ItzK3 k1 k2 k3 K a b c) xs.length (fun H => SqK k1 K H a xs ∧ SqK k2 K H b ys ∧ SqK k3 K H c zs) (YTrip (fun i => xs[i]?) (fun i => ys[i]?) (fun i => zs[i]?)) where
  goes i H hi q := ⟨xs, ys, zs, xs[i], ys[i], zs[i], q.1, q.2.1, q.2.2, List.getElem?_eq_getElem hi, List.getElem?_eq_getElem (by omega), List.getElem?_eq_getElem (by omega)⟩
  stops H q := ⟨xs, ys, zs, q.1, q.2.1, q.2.2, by omega⟩
  yields i H v H' _ q y := let ⟨T, x, y, z, h1, h2, h3, h4, h5, h6⟩ := y; ⟨T, x, y, z, h1, h2, h3, h4 xs q.1, h5 ys q.2.1, h6 zs q.2.2⟩
/-- sum of a tuple of whole numbers: as of a list -/
theorem sqK_t {K : PySem.W.Frag} {H : Hp} {a : Addr} {xs : List V} (h : SqT K H a xs) : SqK true K H a xs := h
theorem sqK_l {K : PySem.W.Frag} {H : Hp} {a : Addr} {xs : List V} (h : SqL K H a xs) : SqK false K H a xs := h
end MyR

set_option pp.maxSteps 400
set_option Elab.async false
set_option linter.all false
set_option maxRecDepth 100000
set_option maxHeartbeats 1000000
namespace MyR
open PySem PySem.Spec PyProof.Rows L2
section
variable {prog : Program} {w : World} {A : Around} {E : Value → Shared → Prop} {s : Shared}
theorem sum_intTup {l : Addr} {xs : Array (Int × Tok)} {Q : Value → Shared → Prop} (hh : A.handled = none) (hl : s.heap.IsTuple l (intItems xs))
    (h : ∀ h' tk t', (∀ b o, s.heap.get? b = some o → h'.get? b = some o) → Q (.int (preSum (numAt xs) xs.size) t') { s with heap := h', toks := tk }) :
    wpAny (model prog w) A (call (.builtin "sum") [.ref l]) Q E s := by
  have hlt : l < s.heap.objs.size := by obtain ⟨_, e, _⟩ := hl; exact Heap.lt_size e
  refine call_sum_walkG (wpAny_pyIter_tuple hl ?_)
  refine ⟨_, _, _, _, _, _, numAt xs, rfl, Walks.tuple (A := A.in1) hh _ l (Nat.ne_of_lt hlt) (intItems xs), ⟨⟨_, Heap.get?_push_size _ rfl, rfl, rfl⟩, hl.push _⟩, fun b hb => ?_, (fun _ _ => intItems_at), fun h' tk t' hk => ?_⟩
  · show b < (s.heap.push _).objs.size
    rw [Heap.size_push]
    rcases List.mem_cons.mp hb with rfl | hb
    · exact Nat.lt_succ_self _
    · rcases List.mem_cons.mp hb with rfl | hb
      · exact Nat.lt_succ_of_lt hlt
      · cases hb
  · have := h h' tk t' fun b o e => hk b o (fun hm => absurd (List.mem_singleton.mp hm ▸ Heap.lt_size e) (Nat.lt_irrefl _)) (Heap.get?_push_of_some _ e)
    simpa [intItems] using this
theorem sum_rawT {l : Addr} {its : List Value} {ns : List Int} {Q : Value → Shared → Prop} (hh : A.handled = none) (hl : s.heap.IsTuple l its.toArray) (hi : IntsAre its ns)
    (h : ∀ h' tk t', (∀ b o, s.heap.get? b = some o → h'.get? b = some o) → Q (.int ns.sum t') { s with heap := h', toks := tk }) : wpAny (model prog w) A (call (.builtin "sum") [.ref l]) Q E s := by
  obtain ⟨xs, e⟩ := hi.allInts.items
  have hn : numsOf (intItems xs).toList = ns := by rw [← e]; exact hi.numsOf
  rw [nums_intItems] at hn
  rw [e] at hl
  refine sum_intTup hh hl fun h' tk t' hk => ?_
  have := h h' tk t' hk
  rw [preSum_eq, List.take_of_length_le (by simp), hn]; exact this
end
/-- sum of a list or a tuple of whole numbers -/
def rSumK (K : PySem.W.Frag) : List V → Hp → VK → Prop := fun vs H Q => ∃ (k : Bool) (a : Addr) (ns : List Int), vs = [V.ref a] ∧ SqK k K H a (ns.map V.int) ∧ Q (.int ns.sum) H
theorem cr_sumK {X : Cx} (hc : X.calm = true) {K : PySem.W.Frag} (hK : X.K = K) : CallR X (.builtin "sum") (rSumK K) := by
  intro pins s σ H vs us Q I r h
  subst hK
  obtain ⟨k, a, ns, rfl, hs, q⟩ := h
  cases k
  · exact cr_sum hc pins s σ H _ us Q I r ⟨a, ns, rfl, hs, q⟩
  · obtain ⟨its, rv, hl, _⟩ := I.tuple hs
    rw [Vals.ref1 r]
    exact sum_rawT (I.ok.hd hc) hl rv.ints fun h' tk t' hk => ⟨.int _, H, I.kept hk, ⟨_, rfl⟩, q⟩

end MyR

set_option Elab.async false
set_option linter.all false
set_option maxRecDepth 100000
set_option maxHeartbeats 1000000
namespace My
open PySem L2 MyR
/-- a new source of draws from the script -/
def spDeal (K : PySem.W.Frag) : Sp := fun vs H Q _ => ∃ (a : Addr) (ns : List Int), vs = [.ref a, .int 0] ∧ SqL K H a (ns.map V.int) ∧ ns.length ≤ 63 ∧
  ∀ (d l : Addr) (H' : Hp), H d = none → H l = none → Same H H' → Deal H' d l → Q (.ref d) H'
theorem cut_ints (ns : List Int) (lo hi : Option Int) : ∃ ms : List Int, cutV (ns.map V.int) lo hi = ms.map V.int ∧ ms.length ≤ ns.length := by
  unfold cutV
  rw [← List.map_drop, ← List.map_take]
  refine ⟨_, rfl, ?_⟩
  rw [List.length_take, List.length_drop]
  omega
theorem get_int {ms : List Int} {i : Nat} {x : V} (h : (ms.map V.int)[i]? = some x) : ∃ z, x = V.int z ∧ i < ms.length := by
  rw [List.getElem?_map] at h
  cases e : ms[i]? with
  | none => rw [e] at h; cases h
  | some z =>
    rw [e] at h
    exact ⟨z, (Option.some.inj h).symm, (List.getElem?_eq_some_iff.mp e).1⟩
theorem small63 {n : Nat} (h : n ≤ 63) : n < sizeLine := small1000 (by omega)
section
variable {P : Program} {w : World} {K : PySem.W.Frag} {mg : Str → Option Value} {base : Heap}
abbrev s_law_deal : Stmt := top 18
abbrev N_law_deal : List Str := ["_law_script", "_law_base", "_law_cells", "_law_cell", "_law_number"]
theorem sc_law_deal : FnScope N_law_deal ["_law_script", "_law_base"] (defScope s_law_deal) := ⟨rfl, rfl, rfl, by decide +kernel, rfl, by decide +kernel, by decide +kernel⟩
theorem ok_law_deal {f : Addr} {fd : FuncData} (F : Fun K "_law_deal" "_law_deal" s_law_deal f fd) (T : Glob mg) : FnOk P w K mg base CX0 1 f fd ["_law_script", "_law_base"] (spDeal K) := by
  refine F.ok sc_law_deal (fun vs H Q E h => ?_) (fun cdv A outer s H vs Q E hr h => ?_)
  · obtain ⟨a, ns, rfl, _⟩ := h
    rfl
  · obtain ⟨a, ns, rfl, hS, hlen, k⟩ := h
    have hu := hu_of hr
    have nd := sc_law_deal.nd
    refine ⟨_, (pss_cons (ps_setLc (i := 2) (own := [("_law_cell", 3)]) (g := gName 3) (tt := tYes) rfl nd rfl rfl (sw_true rfl rfl rfl (by decide +kernel)) (pi_list (pe_slice sl_list (pv 0) (po_some (pv 1)) (po_some pe_int))) (blkOk_by (N := N_law_deal) (sc := defScope s_law_deal) (by decide +kernel)) (fun _ _ _ _ _ => pg_name (i := 3) nd rfl (Or.inl rfl)) (fun _ _ _ _ _ => pts_nil) (fun _ _ _ _ _ => (pe_callB (call_max2 rfl) (by rfl) T.g_max (by decide +kernel) (pa_cons (pv 3) (pa_cons (pe_op op_sub pe_int (pv 3)) pa_nil)))))
    (pss_cons (ps_set (i := 4) nd rfl (Or.inl rfl) (pe_op op_add pe_int (pv 1)))
    (pss_cons (ps_for PassesOwn.never rfl (pi_list (pv 2)) (pg_name (i := 3) nd rfl (Or.inl rfl))
    (pss_one (ps_set (i := 4) nd rfl (Or.inl rfl) (pe_op op_mod (pe_op op_add (pe_op op_mul (pv 4) pe_int) (pe_op op_mod (pv 3) pe_int)) pe_int))))
    (pss_one (ps_ret (pe_disp (pps_cons pe_str (pv 4) (pps_cons pe_str pe_int (pps_cons pe_str (pe_lstRev rfl (by rfl) T.g_list (by rfl) T.g_reversed (pe_lc (own := [("_law_cell", 3)]) (g := gName 3) rfl nd (pi_list (pv 2)) (blkOk_by (N := N_law_deal) (sc := defScope s_law_deal) (by decide +kernel)) (fun _ _ _ _ _ => pg_name (i := 3) nd rfl (Or.inl rfl)) (fun _ _ _ _ _ => pts_one (pt_cmpR op_ge (pv 3) (pe_op op_pow pe_int pe_int) (nomark _))) (fun _ _ _ _ _ => (pv 3)))) pps_nil))) (by rfl) (by rfl) (fun z => by cases z) (by decide))))))), ?_⟩
    -- the cells
    refine ⟨_, rfl, _, rfl, _, rfl, _, rfl, a, _, rfl, hS, fun sl hsl => ?_⟩
    obtain ⟨ms, em, hml⟩ := cut_ints ns (some 0) (some 63)
    rw [em]
    refine ⟨sl, rfl, ⟨_, SqL.of upd_same⟩, fun D hD => ?_⟩
    have nDs : sl ≠ D := fun e => by rw [e, upd_same] at hD; cases hD
    have hD0 : H D = none := by rw [← upd_ne (H := H) (Ne.symm nDs)]; exact hD
    refine lc_list (K := K) (a := sl) (xs := ms.map V.int) (fun i H1 => Same H H1 ∧ H1 sl = some (.lst (ms.map V.int)) ∧ ∃ acc : List Int, H1 D = some (.lst (acc.map V.int)) ∧ acc.length = i)
      ⟨fun b o e => by rw [upd_ne (ne_of_none e hD0), upd_ne (ne_of_none e hsl)]; exact e, by rw [upd_ne nDs, upd_same], [], upd_same, rfl⟩ (fun i H1 _ ⟨_, h1, _⟩ => SqL.of h1) ?_ ?_
    · rintro i x H1 hx ⟨sm, h1, acc, h2, hl⟩
      obtain ⟨z, rfl, hi⟩ := get_int hx
      refine ⟨rfl, ?_⟩
      refine ⟨_, rfl, _, rfl, _, _, rfl, rfl, ?_⟩
      refine ⟨_, _, rfl, ?_⟩
      refine ⟨acc.map V.int, h2, by rw [List.length_map]; exact small63 (by omega), fun b o e => ?_, ?_, ?_⟩
      · rw [upd_ne (ne_of_none e hD0)]; exact sm b o e
      · rw [upd_ne nDs]; exact h1
      · refine ⟨acc ++ [if 0 - z > z then 0 - z else z], ?_, by rw [List.length_append, hl]; rfl⟩
        rw [upd_same, List.map_append]
        rfl
    · rintro H1 ⟨sm, h1, cs, h2, hl⟩
      rw [List.length_map] at hl
      refine ⟨_, rfl, _, _, rfl, rfl, ?_⟩
      refine ⟨_, rfl, D, rfl, ⟨_, SqL.of h2⟩, ?_⟩
      refine for_list (K := K) (a := D) (xs := cs.map V.int) (fun i σ H2 => ∃ (v : Option V) (t : Int), σ = [some (.ref a), some (.int 0), some (.ref D), v, some (.int t)] ∧ 0 ≤ t ∧ t < 2147483648 ∧ H2 = H1)
        ⟨none, 6143, rfl, by decide, by decide, rfl⟩ (fun i σ H2 _ ⟨_, _, _, _, _, e⟩ => by rw [e]; exact SqL.of h2) ?_ ?_
      · rintro i x σ H2 hx ⟨v, t, rfl, t0, t1, rfl⟩
        obtain ⟨z, rfl, hi⟩ := get_int hx
        refine ⟨_, rfl, _, _, rfl, rfl, .inl ⟨by omega, by omega⟩, _, rfl, _, _, rfl, rfl, (by show (0 : Int) < 2147483629; decide), _, _, rfl, rfl, _, _, rfl, rfl, (by show (0 : Int) < 2147483647; decide), ?_⟩
        refine ⟨_, _, rfl, Int.emod_nonneg _ (by decide), ?_, rfl⟩
        have := Int.emod_lt_of_pos (t * 69621 + z % 2147483629) (show (0 : Int) < 2147483647 by decide)
        omega
      · rintro σ H2 ⟨v, t, rfl, t0, t1, rfl⟩
        -- the dict
        intro d hd
        have nDd : D ≠ d := ne_of_none h2 hd
        refine ⟨_, rfl, ?_⟩
        refine ⟨_, rfl, D, rfl, ⟨_, SqL.of (by rw [upd_ne nDd]; exact h2)⟩, fun L hL => ?_⟩
        have nLd : d ≠ L := fun e => by rw [e, upd_same] at hL; cases hL
        have hL0 : H2 L = none := by rw [← upd_ne (H := H2) (Ne.symm nLd)]; exact hL
        have nDL : D ≠ L := ne_of_none h2 hL0
        refine lc_list (K := K) (a := D) (xs := cs.map V.int) (fun i H3 => Same H2 H3 ∧ H3 d = some (.dK []) ∧ ∃ acc : List Int, H3 L = some (.lst (acc.map V.int)) ∧ acc.length ≤ i)
          ⟨fun b o e => by rw [upd_ne (ne_of_none e hL0), upd_ne (ne_of_none e hd)]; exact e, by rw [upd_ne nLd, upd_same], [], upd_same, Nat.le_refl _⟩ (fun i H3 _ ⟨sm3, _, _⟩ => SqL.of (sm3 _ _ h2)) ?_ ?_
        · rintro i x H3 hx ⟨sm3, hd3, acc, h3, hl3⟩
          obtain ⟨z, rfl, hi⟩ := get_int hx
          refine ⟨rfl, ?_⟩
          refine ⟨_, rfl, _, _, rfl, rfl, ⟨by decide, by decide, by decide⟩, _, _, rfl, rfl, _, rfl, ?_⟩
          have go : ∀ (zs : List Int), zs.length ≤ i + 1 → ∀ H4, H4 = upd H3 L (.lst (zs.map V.int)) → Same H2 H4 ∧ H4 d = some (.dK []) ∧ ∃ acc : List Int, H4 L = some (.lst (acc.map V.int)) ∧ acc.length ≤ i + 1 := fun zs hz H4 e4 => by
            subst e4
            refine ⟨fun b o e => ?_, by rw [upd_ne nLd]; exact hd3, zs, upd_same, hz⟩
            rw [upd_ne (ne_of_none e hL0)]
            exact sm3 b o e
          refine ite2 (fun _ => ?_) (fun _ => ?_)
          · refine ⟨_, rfl, acc.map V.int, h3, by rw [List.length_map]; exact small63 (by omega), ?_⟩
            refine go (acc ++ [z]) (by rw [List.length_append]; exact Nat.succ_le_succ hl3) _ ?_
            rw [List.map_append]
            rfl
          · exact ⟨sm3, hd3, acc, h3, Nat.le_succ_of_le hl3⟩
        · rintro H3 ⟨sm3, hd3, acc, h3, hl3⟩
          refine ⟨L, _, rfl, SqL.of h3, fun R hR => ?_⟩
          have nRd : d ≠ R := ne_of_none hd3 hR
          refine ⟨by rw [upd_ne nRd]; exact hd3, dKV t 0 R, rfl, (by show 3 ≤ 15; decide), ?_⟩
          rw [d_merge]
          have hR2 : H2 R = none := sm3.free hR
          refine k d R _ (sm.free hd) (sm.free hR2) (fun b o e => ?_) ⟨⟨t, 0, acc.reverse, upd_same, ?_, t0, t1⟩⟩
          · have e2 := sm b o e
            rw [upd_ne (ne_of_none e2 hd), upd_ne (ne_of_none e2 hR2)]
            exact sm3 b o e2
          · rw [upd_ne (Ne.symm nRd), upd_same, List.map_reverse]
end
end My

set_option Elab.async false
set_option linter.all false
set_option maxRecDepth 100000
set_option maxHeartbeats 1000000
namespace My
open PySem L2 MyR
structure Df (P : Program) (w : World) (K : PySem.W.Frag) (mg : Str → Option Value) (base : Heap) (k : Nat) (x : Str) (ps : List Str) (sp : Sp) where
  f : Addr
  fd : FuncData
  ok : FnOk P w K mg base CX0 k f fd ps sp
  g : mg x = some (.ref f)
  kp : PySem.W.keepIn K (.ref f) = true
  b : Binds K fd ps []
theorem Deal.new {H : Hp} {d l p : Addr} {o : HO} (D : Deal H d l) (h : H p = none) : Deal (upd H p o) d l := by
  obtain ⟨s, n, ns, hd, hl, r⟩ := D.ex
  exact ⟨⟨s, n, ns, by rw [upd_ne (ne_of_none hd h)]; exact hd, by rw [upd_ne (ne_of_none hl h)]; exact hl, r⟩⟩
theorem Deal.other {H : Hp} {d l p : Addr} {o : HO} (D : Deal H d l) (h1 : p ≠ d) (h2 : p ≠ l) : Deal (upd H p o) d l := by
  obtain ⟨s, n, ns, hd, hl, r⟩ := D.ex
  exact ⟨⟨s, n, ns, by rw [upd_ne (Ne.symm h1)]; exact hd, by rw [upd_ne (Ne.symm h2)]; exact hl, r⟩⟩
theorem Deal.free {H : Hp} {d l p : Addr} (D : Deal H d l) (h : H p = none) : p ≠ d ∧ p ≠ l := by
  obtain ⟨s, n, ns, hd, hl, r⟩ := D.ex
  exact ⟨Ne.symm (ne_of_none hd h), Ne.symm (ne_of_none hl h)⟩
theorem Deal.same {H H' : Hp} {d l : Addr} (D : Deal H d l) (s : Same H H') : Deal H' d l := by
  obtain ⟨z, n, ns, hd, hl, r⟩ := D.ex
  exact ⟨z, n, ns, s _ _ hd, s _ _ hl, r⟩
theorem Deal.nt {H : Hp} {d l p : Addr} {xs : List V} (D : Deal H d l) (h : H p = some (.tup xs)) : p ≠ d ∧ p ≠ l := by
  obtain ⟨z, n, ns, hd, hl, r⟩ := D.ex
  exact ⟨ne_of h hd (by intro z; cases z), ne_of h hl (by intro z; cases z)⟩
theorem Deal.ni {H : Hp} {d l p C dx : Addr} {fs : List (Str × V)} (D : Deal H d l) (h : H p = some (.ins C dx fs)) : p ≠ d ∧ p ≠ l := by
  obtain ⟨z, n, ns, hd, hl, r⟩ := D.ex
  exact ⟨ne_of h hd (by intro z; cases z), ne_of h hl (by intro z; cases z)⟩
theorem Kept.new {d l p : Addr} {H H1 : Hp} {o : HO} (a : Kept d l H H1) (h : H p = none) : Kept d l H (upd H1 p o) := fun c u e h1 h2 => by rw [upd_ne (ne_of_none e h)]; exact a c u e h1 h2
theorem Kept.of {d l : Addr} {H H' : Hp} (s : Same H H') : Kept d l H H' := fun b o e _ _ => s b o e
theorem Kept.free {d l p : Addr} {H H1 : Hp} (k : Kept d l H H1) (D : Deal H1 d l) (h : H1 p = none) : H p = none := by
  obtain ⟨n1, n2⟩ := D.free h
  cases e : H p with
  | none => rfl
  | some o => rw [k p o e n1 n2] at h; cases h
theorem new_same {H : Hp} {p : Addr} {o : HO} (h : H p = none) : Same H (upd H p o) := fun b q e => by rw [upd_ne (ne_of_none e h)]; exact e
theorem Same.tr {H H1 H2 : Hp} (a : Same H H1) (b : Same H1 H2) : Same H H2 := fun c o e => b c o (a c o e)
theorem same_free {H H1 : Hp} {p : Addr} (s : Same H H1) (h : H1 p = none) : H p = none := by
  cases e : H p with
  | none => rfl
  | some o => rw [s p o e] at h; cases h
end My

set_option pp.maxSteps 300
set_option Elab.async false
set_option linter.all false
set_option maxRecDepth 100000
set_option maxHeartbeats 1000000
namespace My
open PySem L2 MyR
def spTwos : Sp := fun vs H Q _ => ∃ n : Nat, vs = [.int (n : Int)] ∧ Q (.int (tw n : Int)) H
/-- a list of whole numbers -/
def LI (H : Hp) (a : Addr) (xs : List Int) : Prop := H a = some (.lst (xs.map V.int))
theorem LI.same {H H' : Hp} {a : Addr} {xs : List Int} (h : LI H a xs) (s : Same H H') : LI H' a xs := s _ _ h
theorem seq_c {v : V} {i : Nat} {t : TS} {D : Ends} {σ : L2.St} {H : Hp} (h : t D (σ.set i (some v)) H) : tSeq (tAsg (tC v) (gName i)) t D σ H := h
def sharesL (b : Nat) : List Int := (List.range (W b)).map fun j => (tw j : Int)
def spShares : Sp := fun vs H Q _ => ∃ b : Nat, vs = [.int (b : Int)] ∧ b ≤ 64 ∧ ∀ (L : Addr) H', H L = none → Same H H' → LI H' L (sharesL b) → Q (.ref L) H'
section
variable {P : Program} {w : World} {K : PySem.W.Frag} {mg : Str → Option Value} {base : Heap}
abbrev s_twos : Stmt := top 5
abbrev N_twos : List Str := ["n", "found", "left"]
theorem sc_twos : FnScope N_twos ["n"] (defScope s_twos) := ⟨rfl, rfl, rfl, by decide +kernel, rfl, by decide +kernel, by decide +kernel⟩
theorem lw_half {l : Nat} (h : l ≠ 0) : l / 2 + tw (l / 2) = tw l := (tw_pos h).symm
theorem ok_twos {f : Addr} {fd : FuncData} (F : Fun K "twos" "twos" s_twos f fd) : FnOk P w K mg base CX0 1 f fd ["n"] spTwos := by
  refine F.ok sc_twos (fun vs H Q E h => ?_) (fun cdv A outer s H vs Q E hr h => ?_)
  · obtain ⟨n, rfl, _⟩ := h
    rfl
  · obtain ⟨n, rfl, kq⟩ := h
    have nd := sc_twos.nd
    refine ⟨_, (pss_cons (ps_set (i := 1) nd rfl (Or.inl rfl) pe_int)
    (pss_cons (ps_set (i := 2) nd rfl (Or.inl rfl) (pe_op op_halfN (pv 0) pe_int))
    (pss_cons (ps_while PassesOwn.never (pt_cmpR op_gt (pv 2) pe_int (nomark _))
    (pss_cons (ps_set (i := 1) nd rfl (Or.inl rfl) (pe_op op_add (pv 1) (pv 2)))
    (pss_one (ps_set (i := 2) nd rfl (Or.inl rfl) (pe_op op_halfN (pv 2) pe_int)))))
    (pss_one (ps_ret (pv 1)))))), ?_⟩
    refine ⟨_, rfl, n, rfl, rfl, ?_⟩
    dsimp only [List.set_cons_succ, List.set_cons_zero]
    refine seq_by (fun σ H1 => H1 = H ∧ ∃ f : Nat, σ = [some (.int (n : Int)), some (.int (f : Int)), some (.int 0)] ∧ f = tw n) (fun D' hD' => ?_) ?_
    · refine while_by (fun σ H1 => H1 = H ∧ ∃ f l : Nat, σ = [some (.int (n : Int)), some (.int (f : Int)), some (.int (l : Int))] ∧ f + (l + tw l) = tw n) (fun σ _ => match σ with | [_, _, some (.int l)] => l.toNat | _ => 0)
        ⟨rfl, 0, n / 2, rfl, ?_⟩ ?_ ?_
      · by_cases e : n = 0
        · subst e
          rfl
        · rw [Nat.zero_add, lw_half e]
      · rintro σ H1 ⟨rfl, f, l, rfl, hf⟩
        refine ⟨_, rfl, _, _, rfl, rfl, _, rfl, ?_⟩
        refine ite2 (fun h => ?_) (fun h => ?_)
        · have hl : 0 < l := by
            have := of_decide_eq_true h
            omega
          refine ⟨_, rfl, _, rfl, _, _, rfl, rfl, _, rfl, l, rfl, rfl, ?_⟩
          refine ⟨⟨rfl, f + l, l / 2, rfl, ?_⟩, ?_⟩
          · rw [lw_half (by omega)]
            omega
          · show (((l / 2 : Nat) : Int)).toNat < ((l : Int)).toNat
            omega
        · have hl : l = 0 := by
            by_cases z : 0 < l
            · exact absurd (decide_eq_true (by omega)) h
            · omega
          subst hl
          refine hD' _ _ ⟨rfl, f, rfl, ?_⟩
          have : tw 0 = 0 := rfl
          omega
      · intro σ H1 Q Q' f h
        obtain ⟨x, e1, i, j, e2, e3, b1, eb, hc⟩ := h
        exact ⟨x, e1, i, j, e2, e3, b1, eb, f _ _ hc⟩
    rintro σ H1 ⟨rfl, f, rfl, hf⟩
    subst hf
    exact ⟨_, rfl, kq⟩
end
end My

set_option pp.maxSteps 300
set_option Elab.async false
set_option linter.all false
set_option maxRecDepth 100000
set_option maxHeartbeats 1000000
namespace My
open PySem L2 MyR
theorem li_snoc {H : Hp} {a : Addr} {xs : List Int} {x : Int} : LI (upd H a (.lst (xs.map V.int ++ [.int x]))) a (xs ++ [x]) := by
  show upd H a _ a = _
  rw [upd_same, List.map_append]
  rfl
theorem same_up {H H1 : Hp} {a : Addr} {o : HO} (s : Same H H1) (h : H a = none) : Same H (upd H1 a o) := fun c u e => by
  rw [upd_ne (ne_of_none e h)]
  exact s _ _ e
section
variable {P : Program} {w : World} {K : PySem.W.Frag} {mg : Str → Option Value} {base : Heap}
abbrev s_shares : Stmt := top 6
abbrev N_shares : List Str := ["bits", "found"]
theorem sc_shares : FnScope N_shares ["bits"] (defScope s_shares) := ⟨rfl, rfl, rfl, by decide +kernel, rfl, by decide +kernel, by decide +kernel⟩
theorem ok_shares {f : Addr} {fd : FuncData} (F : Fun K "shares" "shares" s_shares f fd) (T : Glob mg) (D_twos : Df P w K mg base 1 "twos" ["n"] spTwos) : FnOk P w K mg base CX0 2 f fd ["bits"] spShares := by
  refine F.ok sc_shares (fun vs H Q E h => ?_) (fun cdv A outer s H vs Q E hr h => ?_)
  · obtain ⟨b, rfl, _⟩ := h
    rfl
  · obtain ⟨b, rfl, hb, kq⟩ := h
    have nd := sc_shares.nd
    refine ⟨_, (pss_cons (ps_set (i := 1) nd rfl (Or.inl rfl) (pe_lst pa_nil))
    (pss_cons (ps_while PassesOwn.never (pt_cmpR op_lt (pe_call D_twos.ok (hr.mono (by decide)) (by rfl) D_twos.g D_twos.kp D_twos.b .nil pass0 (pa_cons (pe_callB call_len_seq (by rfl) T.g_len PySem.boot_len (pa_cons (pv 1) pa_nil)) pa_nil)) (pv 0) (nomark _))
    (pss_one (ps_expr (pe_bm PySem.F.plainAttrs_list PySem.F.slot_list_append PySem.F.type_list_append mt_append (pv 1) (pa_cons (pe_call D_twos.ok (hr.mono (by decide)) (by rfl) D_twos.g D_twos.kp D_twos.b .nil pass0 (pa_cons (pe_callB call_len_seq (by rfl) T.g_len PySem.boot_len (pa_cons (pv 1) pa_nil)) pa_nil)) pa_nil)))))
    (pss_one (ps_ret (pv 1))))), ?_⟩
    refine ⟨(by show 0 ≤ sizeLine; decide), fun L hL => ?_⟩
    dsimp only [List.set_cons_succ, List.set_cons_zero]
    have hW := W_66 hb
    refine seq_by (fun σ H1 => σ = [some (.int (b : Int)), some (.ref L)] ∧ Same H H1 ∧ LI H1 L (sharesL b)) (fun D' hD' => ?_) ?_
    · refine while_by (fun σ H1 => ∃ k, k ≤ W b ∧ σ = [some (.int (b : Int)), some (.ref L)] ∧ Same H H1 ∧ LI H1 L ((List.range k).map fun j => (tw j : Int)))
        (fun _ H1 => match H1 L with | some (.lst xs) => W b - xs.length | _ => 0) ⟨0, Nat.zero_le _, rfl, new_same hL, upd_same⟩ ?_ ?_
      · rintro σ H1 ⟨k, hk, rfl, sm, hl⟩
        have hlen : (((List.range k).map fun j => (tw j : Int)).map V.int).length = k := by rw [List.length_map, List.length_map, List.length_range]
        refine ⟨_, rfl, L, _, rfl, .inl (SqL.of hl), _, rfl, _, rfl, _, _, rfl, rfl, _, rfl, ?_⟩
        rw [hlen]
        refine ite2 (fun h => ?_) (fun h => ?_)
        · have h : (tw k : Int) < (b : Int) := of_decide_eq_true h
          have hkW : k < W b := W_iff.mp (by omega)
          refine ⟨_, rfl, .inl ⟨rfl, _, SqL.of hl⟩, _, rfl, L, _, rfl, .inl (SqL.of hl), _, rfl, L, _, _, rfl, rfl, hl, by rw [hlen, sizeLine_eq]; omega, ?_⟩
          rw [hlen]
          refine ⟨⟨k + 1, hkW, rfl, same_up sm hL, ?_⟩, ?_⟩
          · rw [List.range_succ, List.map_append]
            exact li_snoc
          · rw [upd_same, hl]
            show W b - (_ ++ [_]).length < W b - (List.map V.int _).length
            rw [List.length_append, hlen]
            show W b - (k + 1) < W b - k
            omega
        · have hkW : ¬ k < W b := fun z => h (decide_eq_true (by have := W_iff.mpr z; omega))
          have : k = W b := by omega
          subst this
          exact hD' _ _ ⟨rfl, sm, hl⟩
      · intro σ H1 Q Q' f h
        obtain ⟨x, e1, a, ys, e2, e3, n, e4, y, e5, i, j, e6, e7, b1, eb, hc⟩ := h
        exact ⟨x, e1, a, ys, e2, e3, n, e4, y, e5, i, j, e6, e7, b1, eb, f _ _ hc⟩
    rintro σ H1 ⟨rfl, sm, hl⟩
    exact ⟨_, rfl, kq L H1 hL sm hl⟩
end
end My

set_option pp.maxSteps 300
set_option Elab.async false
set_option linter.all false
set_option maxRecDepth 100000
set_option maxHeartbeats 1000000
namespace My
open PySem L2 MyR
def spCountV : Sp := fun vs H Q _ => ∃ c b : Nat, vs = [.int (c : Int), .int (b : Int)] ∧ c ≤ 8 ∧ 1 ≤ b ∧ b ≤ 64 ∧ ∀ H', Same H H' → Q (.int ((vecs c b).length : Int)) H'
def fnL (b : Nat) (f : Nat → Nat) : List Int := (List.range b).map fun u => (f u : Int)
theorem fnL_len (b : Nat) (f : Nat → Nat) : (fnL b f).length = b := by unfold fnL; rw [List.length_map, List.length_range]
theorem fnL_at {b u : Nat} {f : Nat → Nat} (h : u < b) : (fnL b f)[u]? = some (f u : Int) := by
  unfold fnL
  rw [List.getElem?_map, List.getElem?_range h]
  rfl
theorem fnL_set {b k v : Nat} {f : Nat → Nat} (h : k < b) : (fnL b f).set k (v : Int) = fnL b fun u => if u = k then v else f u := by
  refine List.ext_getElem? fun i => ?_
  by_cases hi : i < b
  · rw [fnL_at hi, List.getElem?_set]
    by_cases e : k = i
    · subst e
      rw [if_pos rfl, fnL_len, if_pos h, if_pos rfl]
    · rw [if_neg e, fnL_at hi, if_neg (Ne.symm e)]
  · rw [List.getElem?_eq_none (by rw [List.length_set, fnL_len]; omega), List.getElem?_eq_none (by rw [fnL_len]; omega)]
theorem fnL_congr {b : Nat} {f g : Nat → Nat} (h : ∀ u, u < b → f u = g u) : fnL b f = fnL b g := List.map_congr_left fun u hu => by rw [h u (List.mem_range.mp hu)]
theorem fnL_succ (b : Nat) (f : Nat → Nat) : fnL (b + 1) f = fnL b f ++ [(f b : Int)] := by
  unfold fnL
  rw [List.range_succ, List.map_append]
  rfl
theorem fnL_sum (f : Nat → Nat) : ∀ b, (fnL b f).sum = (smN b f : Int)
  | 0 => rfl
  | b + 1 => by
    rw [fnL_succ, List.sum_append, fnL_sum f b]
    show _ + ((f b : Int) + 0) = ((smN b f + f b : Nat) : Int)
    omega
theorem map_set_int {xs : List Int} {k : Nat} {v : Int} : (xs.map V.int).set k (.int v) = (xs.set k v).map V.int := by rw [List.map_set]
theorem map_at_int {xs : List Int} {k : Nat} {v : Int} (h : xs[k]? = some v) : (xs.map V.int)[k]? = some (.int v) := by rw [List.getElem?_map, h]; rfl
theorem LI.updN {H : Hp} {a b : Addr} {xs : List Int} {o : HO} (h : LI H a xs) (n : a ≠ b) : LI (upd H b o) a xs := by show upd H b o a = _; rw [upd_ne n]; exact h
theorem ixN_nat {n j : Nat} (h : j < n) : ixN n (j : Int) = some j := by
  unfold ixN
  rw [if_pos (Int.natCast_nonneg j), if_pos (by omega)]
  rfl
theorem atI_fn {b u : Nat} {f : Nat → Nat} {z : Int} (h : u < b) (e : z = (u : Int)) : atI ((fnL b f).map V.int) z = some (.int (f u : Int)) := by
  rw [e]
  exact atI_nat (map_at_int (fnL_at h))
theorem ixN_fn {b u : Nat} {f : Nat → Nat} {z : Int} (h : u < b) (e : z = (u : Int)) : ixN ((fnL b f).map V.int).length z = some u := by
  rw [e, List.length_map, fnL_len]
  exact ixN_nat h
section
variable {P : Program} {w : World} {K : PySem.W.Frag} {mg : Str → Option Value} {base : Heap}
abbrev s_count_vectors : Stmt := top 8
abbrev N_count_vectors : List Str := ["count", "bits", "single", "ways", "used", "_", "longer", "share"]
theorem sc_count_vectors : FnScope N_count_vectors ["count", "bits"] (defScope s_count_vectors) := ⟨rfl, rfl, rfl, by decide +kernel, rfl, by decide +kernel, by decide +kernel⟩
theorem ok_count_vectors {f : Addr} {fd : FuncData} (F : Fun K "count_vectors" "count_vectors" s_count_vectors f fd) (T : Glob mg) (g_sum : mg "sum" = none) (D_shares : Df P w K mg base 2 "shares" ["bits"] spShares) : FnOk P w K mg base CX0 3 f fd ["count", "bits"] spCountV := by
  refine F.ok sc_count_vectors (fun vs H Q E h => ?_) (fun cdv A outer s H vs Q E hr h => ?_)
  · obtain ⟨c, b, rfl, _⟩ := h
    rfl
  · obtain ⟨c, b, rfl, hc, hb1, hb, kq⟩ := h
    have nd := sc_count_vectors.nd
    refine ⟨_, (pss_cons (ps_set (i := 2) nd rfl (Or.inl rfl) (pe_call D_shares.ok (hr.mono (by decide)) (by rfl) D_shares.g D_shares.kp D_shares.b .nil pass0 (pa_cons (pv 1) pa_nil)))
    (pss_cons (ps_setLc (i := 3) (own := [("used", 4)]) (g := gName 4) (tt := tYes) rfl nd rfl rfl (sw_true rfl rfl rfl (by decide +kernel)) (pi_range1 (by rfl) T.g_range (pa_cons (pv 1) pa_nil)) (blkOk_by (N := N_count_vectors) (sc := defScope s_count_vectors) (by decide +kernel)) (fun _ _ _ _ _ => pg_name (i := 4) nd rfl (Or.inl rfl)) (fun _ _ _ _ _ => pts_nil) (fun _ _ _ _ _ => (pe_ifExp (pt_cmpR op_eq (pv 4) pe_int (nomark _)) pe_int pe_int)))
    (pss_cons (ps_for PassesOwn.never rfl (pi_range1 (by rfl) T.g_range (pa_cons (pv 0) pa_nil)) (pg_name (i := 5) nd rfl (Or.inl rfl))
    (pss_cons (ps_setLc (i := 6) (own := [("_", 5)]) (g := gName 5) (tt := tYes) rfl nd rfl rfl (sw_true rfl rfl rfl (by decide +kernel)) (pi_range1 (by rfl) T.g_range (pa_cons (pv 1) pa_nil)) (blkOk_by (N := N_count_vectors) (sc := defScope s_count_vectors) (by decide +kernel)) (fun _ _ _ _ _ => pg_name (i := 5) nd rfl (Or.inl rfl)) (fun _ _ _ _ _ => pts_nil) (fun _ _ _ _ _ => pe_int))
    (pss_cons (ps_for PassesOwn.never rfl (pi_list (pv 2)) (pg_name (i := 7) nd rfl (Or.inl rfl))
    (pss_one (ps_for PassesOwn.never rfl (pi_range1 (by rfl) T.g_range (pa_cons (pe_op op_sub (pv 1) (pv 7)) pa_nil)) (pg_name (i := 4) nd rfl (Or.inl rfl))
    (pss_one (ps_asg (pe_op op_add (pe_ix ix_list (pv 6) (pe_op op_add (pv 4) (pv 7)) (fun _ _ => rfl)) (pe_ix ix_list (pv 3) (pv 4) (fun _ _ => rfl))) (pg_sub (pv 6) (pe_op op_add (pv 4) (pv 7)) set_list))))))
    (pss_one (ps_set (i := 3) nd rfl (Or.inl rfl) (pv 6))))))
    (pss_one (ps_ret (pe_callB (cr_sumK (K := K) rfl rfl) (by rfl) g_sum (by decide +kernel) (pa_cons (pv 3) pa_nil))))))), ?_⟩
    have zl : 1000000 ≤ sizeLine := by rw [sizeLine_eq]; omega
    have hW := W_66 hb
    refine seq_by (fun σ H1 => ∃ L : Addr, σ = [some (.int (c : Int)), some (.int (b : Int)), some (.ref L), none, none, none, none, none] ∧ Same H H1 ∧ LI H1 L (sharesL b)) (fun D' hD' => ?_) ?_
    · exact ⟨_, rfl, b, rfl, hb, fun L H1 hL s1 hl => hD' _ _ ⟨L, rfl, s1, hl⟩⟩
    rintro σ H1 ⟨L, rfl, s1, hl1⟩
    refine seq_by (fun σ H2 => ∃ (A : Addr) (a4 : Option V), σ = [some (.int (c : Int)), some (.int (b : Int)), some (.ref L), some (.ref A), a4, none, none, none] ∧ Same H H2 ∧ LI H2 L (sharesL b) ∧ LI H2 A (fnL b (cn b 0))) (fun D' hD' => ?_) ?_
    · refine ⟨_, rfl, _, rfl, by omega, by omega, fun A hA => ?_⟩
      refine lc_it (n := b) walk_range (fun i H2 => Same H1 H2 ∧ LI H2 A (fnL i (cn b 0))) ⟨new_same hA, upd_same⟩ (fun _ _ _ _ => trivial) ?_ ?_
      · rintro i x H2 H3 hi ⟨s2, h2⟩ ⟨rfl, rfl⟩
        refine ⟨rfl, ?_⟩
        dsimp only [tYes]
        rw [if_pos rfl]
        refine ⟨_, rfl, rfl, _, rfl, ?_⟩
        have fin : ∀ v : Int, v = (cn b 0 i : Int) → ∃ acc, H3 A = some (.lst acc) ∧ acc.length < sizeLine ∧ (Same H1 (upd H3 A (.lst (acc ++ [V.int v]))) ∧ LI (upd H3 A (.lst (acc ++ [V.int v]))) A (fnL (i + 1) (cn b 0))) := fun v hv => by
          refine ⟨_, h2, by rw [List.length_map, fnL_len]; omega, same_up s2 hA, ?_⟩
          rw [fnL_succ, ← hv]
          exact li_snoc
        refine ite2 (fun h => ?_) (fun h => ?_)
        · have h : (0 : Int) + (i : Int) = 0 := V.int.inj (of_decide_eq_true h)
          refine fin 1 ?_
          show (1 : Int) = ((if i = 0 then 1 else 0 : Nat) : Int)
          rw [if_pos (by omega)]
          rfl
        · have h : ¬ i = 0 := fun e => h (decide_eq_true (by rw [e]; rfl))
          refine fin 0 ?_
          show (0 : Int) = ((if i = 0 then 1 else 0 : Nat) : Int)
          rw [if_neg h]
          rfl
      · rintro H2 ⟨s2, h2⟩
        exact hD' _ _ ⟨A, _, rfl, s1.trans s2, hl1.same s2, h2⟩
    clear s1 hl1
    rintro σ H2 ⟨A, a4, rfl, s2, hl2, hA2⟩
    refine seq_by (fun σ H3 => ∃ (A : Addr) (a4 a5 a6 a7 : Option V), σ = [some (.int (c : Int)), some (.int (b : Int)), some (.ref L), some (.ref A), a4, a5, a6, a7] ∧ Same H H3 ∧ LI H3 A (fnL b (cn b c))) (fun D' hD' => ?_) ?_
    · refine ⟨_, rfl, _, rfl, by omega, by omega, ?_⟩
      rw [Int.toNat_natCast]
      refine for_range (lo := 0) (n := c) (fun i σ H3 => ∃ (A : Addr) (a4 a5 a6 a7 : Option V), σ = [some (.int (c : Int)), some (.int (b : Int)), some (.ref L), some (.ref A), a4, a5, a6, a7] ∧ Same H H3 ∧ LI H3 L (sharesL b) ∧ LI H3 A (fnL b (cn b i)))
        ⟨A, a4, none, none, none, rfl, s2, hl2, hA2⟩ ?_ (fun σ H3 ⟨A, a4, a5, a6, a7, e, s3, _, h3⟩ => hD' _ _ ⟨A, a4, a5, a6, a7, e, s3, h3⟩)
      clear s2 hl2 hA2
      rintro i σ H3 hi ⟨A, a4, a5, a6, a7, rfl, s3, hl3, hA3⟩
      dsimp only [List.set_cons_succ, List.set_cons_zero]
      refine seq_by (fun σ H4 => ∃ (G : Addr) (a4 a5 a7 : Option V), σ = [some (.int (c : Int)), some (.int (b : Int)), some (.ref L), some (.ref A), a4, a5, some (.ref G), a7] ∧ Same H H4 ∧ LI H4 L (sharesL b) ∧ LI H4 A (fnL b (cn b i)) ∧ LI H4 G (fnL b fun _ => 0) ∧ L ≠ G ∧ A ≠ G ∧ H G = none) (fun D' hD' => ?_) ?_
      · refine ⟨_, rfl, _, rfl, by omega, by omega, fun G hG => ?_⟩
        refine lc_it (n := b) walk_range (fun j H4 => Same H3 H4 ∧ LI H4 G (fnL j fun _ => 0)) ⟨new_same hG, upd_same⟩ (fun _ _ _ _ => trivial) ?_ ?_
        · rintro j x H4 H5 hj ⟨s4, h4⟩ ⟨rfl, rfl⟩
          refine ⟨rfl, ?_⟩
          dsimp only [tYes]
          rw [if_pos rfl]
          refine ⟨_, h4, by rw [List.length_map, fnL_len]; omega, same_up s4 hG, ?_⟩
          rw [fnL_succ]
          exact li_snoc
        · rintro H4 ⟨s4, h4⟩
          exact hD' _ _ ⟨G, _, _, _, rfl, s3.trans s4, hl3.same s4, hA3.same s4, h4, ne_of_none hl3 hG, ne_of_none hA3 hG, same_free s3 hG⟩
      clear s3 hl3 hA3
      rintro σ H4 ⟨G, a4, a5, a7, rfl, s4, hl4, hA4, hG4, nL, nA, hGn⟩
      refine seq_by (fun σ H5 => ∃ (a4 a5 a7 : Option V), σ = [some (.int (c : Int)), some (.int (b : Int)), some (.ref L), some (.ref A), a4, a5, some (.ref G), a7] ∧ Same H H5 ∧ LI H5 L (sharesL b) ∧ LI H5 G (fnL b (cn b (i + 1)))) (fun D' hD' => ?_) ?_
      · refine ⟨_, rfl, L, rfl, ⟨_, SqL.of hl4⟩, ?_⟩
        refine for_list (xs := (sharesL b).map V.int) (fun j σ H5 => ∃ (a4 a5 a7 : Option V), σ = [some (.int (c : Int)), some (.int (b : Int)), some (.ref L), some (.ref A), a4, a5, some (.ref G), a7] ∧ Same H H5 ∧ LI H5 L (sharesL b) ∧ LI H5 A (fnL b (cn b i)) ∧ LI H5 G (fnL b fun u => smN j fun k => if tw k ≤ u then cn b i (u - tw k) else 0))
          ⟨a4, a5, a7, rfl, s4, hl4, hA4, hG4⟩ (fun j σ H5 _ h => by obtain ⟨_, _, _, _, _, h, _⟩ := h; exact SqL.of h) ?_ ?_
        · clear s4 hl4 hA4 hG4
          rintro j x σ H5 hx ⟨a4, a5, a7, rfl, s5, hl5, hA5, hG5⟩
          have hj : j < W b := by
            have := (List.getElem?_eq_some_iff.mp hx).1
            rw [List.length_map] at this
            unfold sharesL at this
            rw [List.length_map, List.length_range] at this
            exact this
          have hx' : x = .int (tw j : Int) := by
            unfold sharesL at hx
            rw [List.getElem?_map, List.getElem?_map, List.getElem?_range hj] at hx
            exact (Option.some.inj hx).symm
          subst hx'
          have htj : tw j < b := W_iff.mpr hj
          refine ⟨_, rfl, _, rfl, _, _, rfl, rfl, (b : Int) - (tw j : Int), rfl, by omega, by omega, ?_⟩
          rw [show ((b : Int) - (tw j : Int)).toNat = b - tw j by omega]
          refine for_range (lo := 0) (n := b - tw j) (fun v σ H6 => ∃ (a4 a5 : Option V), σ = [some (.int (c : Int)), some (.int (b : Int)), some (.ref L), some (.ref A), a4, a5, some (.ref G), some (.int (tw j : Int))] ∧ Same H H6 ∧ LI H6 L (sharesL b) ∧ LI H6 A (fnL b (cn b i)) ∧ LI H6 G (fnL b fun u => (smN j fun k => if tw k ≤ u then cn b i (u - tw k) else 0) + if tw j ≤ u ∧ u < tw j + v then cn b i (u - tw j) else 0))
            ⟨a4, a5, rfl, s5, hl5, hA5, ?_⟩ ?_ ?_
          · have e : (fnL b fun u => (smN j fun k => if tw k ≤ u then cn b i (u - tw k) else 0) + if tw j ≤ u ∧ u < tw j + 0 then cn b i (u - tw j) else 0) = fnL b fun u => smN j fun k => if tw k ≤ u then cn b i (u - tw k) else 0 := fnL_congr fun u _ => by
              rw [if_neg (by omega)]
              rfl
            rw [e]
            exact hG5
          · clear s5 hl5 hA5 hG5
            rintro v σ H6 hv ⟨a4, a5, rfl, s6, hl6, hA6, hG6⟩
            have hk : v + tw j < b := by omega
            refine ⟨_, rfl, _, rfl, _, rfl, _, _, rfl, rfl, G, _, _, _, rfl, rfl, SqL.of hG6, atI_fn hk (by omega), ?_⟩
            refine ⟨_, rfl, _, rfl, A, _, _, _, rfl, rfl, SqL.of hA6, atI_fn (u := v) (by omega) (by omega), _, _, rfl, rfl, ?_⟩
            refine ⟨_, rfl, _, rfl, _, rfl, _, _, rfl, rfl, G, _, _, v + tw j, rfl, rfl, hG6, ixN_fn hk (by omega), ?_⟩
            refine ⟨_, a5, rfl, same_up s6 hGn, hl6.updN nL, hA6.updN nA, ?_⟩
            show upd H6 G _ G = _
            rw [upd_same, map_set_int]
            have ev : ((((smN j fun k => if tw k ≤ v + tw j then cn b i (v + tw j - tw k) else 0) + if tw j ≤ v + tw j ∧ v + tw j < tw j + v then cn b i (v + tw j - tw j) else 0 : Nat) : Int) + (cn b i v : Int)) = (((smN j fun k => if tw k ≤ v + tw j then cn b i (v + tw j - tw k) else 0) + cn b i v : Nat) : Int) := by
              rw [if_neg (by omega)]
              omega
            rw [ev, fnL_set hk]
            congr 1
            congr 1
            refine congrArg _ (fnL_congr fun u hu => ?_)
            by_cases e : u = v + tw j
            · rw [if_pos e, e, if_pos ⟨by omega, by omega⟩, show v + tw j - tw j = v by omega]
            · rw [if_neg e]
              by_cases q : tw j ≤ u ∧ u < tw j + v
              · rw [if_pos q, if_pos ⟨q.1, by omega⟩]
              · rw [if_neg q, if_neg fun z => q ⟨z.1, by omega⟩]
          · rintro σ H6 ⟨a4, a5, rfl, s6, hl6, hA6, hG6⟩
            refine ⟨a4, a5, _, rfl, s6, hl6, hA6, ?_⟩
            have e : (fnL b fun u => smN (j + 1) fun k => if tw k ≤ u then cn b i (u - tw k) else 0) = fnL b fun u => (smN j fun k => if tw k ≤ u then cn b i (u - tw k) else 0) + if tw j ≤ u ∧ u < tw j + (b - tw j) then cn b i (u - tw j) else 0 := fnL_congr fun u hu => by
              show (smN j fun k => if tw k ≤ u then cn b i (u - tw k) else 0) + (if tw j ≤ u then cn b i (u - tw j) else 0) = _
              by_cases q : tw j ≤ u
              · rw [if_pos q, if_pos ⟨q, by omega⟩]
              · rw [if_neg q, if_neg fun z => q z.1]
            rw [e]
            exact hG6
        · rintro σ H5 ⟨a4, a5, a7, rfl, s5, hl5, hA5, hG5⟩
          rw [List.length_map] at hG5
          unfold sharesL at hG5
          rw [List.length_map, List.length_range] at hG5
          exact hD' _ _ ⟨a4, a5, a7, rfl, s5, hl5, hG5⟩
      rintro σ H5 ⟨a4, a5, a7, rfl, s5, hl5, hG5⟩
      exact ⟨_, rfl, G, _, _, _, _, rfl, s5, hl5, hG5⟩
    rintro σ H3 ⟨A, a4, a5, a6, a7, rfl, s3, h3⟩
    refine ⟨_, rfl, false, A, _, rfl, sqK_l (SqL.of h3), ?_⟩
    rw [fnL_sum, cn_sum b c b hb1 (Nat.le_refl _)]
    exact kq H3 s3
end
end My

set_option pp.maxSteps 300
set_option Elab.async false
set_option linter.all false
set_option maxRecDepth 100000
set_option maxHeartbeats 1000000
namespace My
open PySem L2 MyR
theorem p64 {b : Nat} (h : b ≤ 64) : (2 : Int) ^ b ≤ 18446744073709551616 := by
  have q : ∀ b < 65, (2 : Int) ^ b ≤ 18446744073709551616 := by decide +kernel
  exact q b (by omega)
/-- lists of the inverses of odd factorials -/
def InvsAt (H : Hp) (a : Addr) (b n : Nat) : Prop := ∃ xs : List Int, LI H a xs ∧ xs.length = n ∧ ∀ k, k < n → ∃ v, xs[k]? = some v ∧ InvOf b (odP k) v
def spInverse : Sp := fun vs H Q _ => ∃ (o : Int) (b : Nat), vs = [.int o, .int (b : Int)] ∧ 1 ≤ b ∧ b ≤ 64 ∧ o % 2 = 1 ∧ ∀ v, InvOf b o v → Q (.int v) H
def spInverses : Sp := fun vs H Q _ => ∃ (n b : Nat), vs = [.int (n : Int), .int (b : Int)] ∧ 1 ≤ b ∧ b ≤ 64 ∧ n ≤ 66 ∧ ∀ (L : Addr) H', H L = none → Same H H' → (∃ xs : List Int, LI H' L xs ∧ xs.length = n ∧ ∀ k, k < n → ∃ v, xs[k]? = some v ∧ InvOf b (odP k) v) → Q (.ref L) H'
def spFalling : Sp := fun vs H Q _ => ∃ (L : Addr) (cs : List Int) (z : Int) (b : Nat), vs = [.ref L, .int z, .int (2 ^ b - 1)] ∧ LI H L cs ∧ b ≤ 64 ∧ cs.length ≤ 1000 ∧ Q (.int (flo (2 ^ b) z 0 cs)) H
section
variable {P : Program} {w : World} {K : PySem.W.Frag} {mg : Str → Option Value} {base : Heap}
abbrev N_inverse : List Str := ["odd", "bits", "mask", "found", "right"]
abbrev N_odd_inverses : List Str := ["count", "bits", "found", "product", "j"]
end
end My

set_option pp.maxSteps 300
set_option Elab.async false
set_option linter.all false
set_option maxRecDepth 100000
set_option maxHeartbeats 1000000
namespace My
open PySem L2 MyR
theorem flo_lt {b : Nat} {z : Int} (cs : List Int) (s : Nat) : 0 ≤ flo (2 ^ b) z s cs ∧ flo (2 ^ b) z s cs < 2 ^ b := by
  have hp := p2_pos b
  cases cs with
  | nil => exact ⟨Int.le_refl _, hp⟩
  | cons a r => exact ⟨Int.emod_nonneg _ (by omega), Int.emod_lt_of_pos _ hp⟩
/-- a list of lists of whole numbers -/
def LLI (H : Hp) (a : Addr) (xss : List (List Int)) : Prop := ∃ as : List Addr, H a = some (.lst (as.map V.ref)) ∧ as.length = xss.length ∧ ∀ (i : Nat) xs, xss[i]? = some xs → ∃ p, as[i]? = some p ∧ LI H p xs
theorem LLI.same {H H' : Hp} {a : Addr} {xss : List (List Int)} (h : LLI H a xss) (s : Same H H') : LLI H' a xss := let ⟨as, e1, e2, e3⟩ := h; ⟨as, s _ _ e1, e2, fun i xs e => let ⟨p, q1, q2⟩ := e3 i xs e; ⟨p, q1, q2.same s⟩⟩
def spEval : Sp := fun vs H Q _ => ∃ (R p : Addr) (rows : List (List Int)) (zs : List Int) (b : Nat) (v : Int), vs = [.ref R, .ref p, .int (2 ^ b - 1)] ∧ LLI H R rows ∧ LI H p zs ∧ b ≤ 64 ∧ rows.length ≤ 1000 ∧ (∀ r ∈ rows, r.length ≤ 1000) ∧
  ((∃ r ws z, rows = [r] ∧ zs = ws ++ [z] ∧ v = flo (2 ^ b) z 0 r) ∨ (rows.length ≠ 1 ∧ ∃ z1 z2, zs = [z1, z2] ∧ v = flo (2 ^ b) z1 0 (rows.map (flo (2 ^ b) z2 0)))) ∧ ∀ H', Same H H' → Q (.int v) H'
theorem ix_listN {X : Cx} {K : PySem.W.Frag} (h : X.K = K) : IxR X (rIxL K) := h ▸ ix_list
theorem ix_tupN {X : Cx} {K : PySem.W.Frag} (h : X.K = K) : IxR X (rIxT K) := h ▸ ix_tup
section
variable {P : Program} {w : World} {K : PySem.W.Frag} {mg : Str → Option Value} {base : Heap}
abbrev N_falling : List Str := ["coefficients", "z", "mask", "total", "at"]
abbrev N_evaluated : List Str := ["rows", "place", "mask", "row"]
end
end My

set_option pp.maxSteps 300
set_option Elab.async false
set_option linter.all false
set_option maxRecDepth 100000
set_option maxHeartbeats 1000000
namespace My
open PySem L2 MyR
def spDiff (K : PySem.W.Frag) : Sp := fun vs H Q _ => ∃ (k : Bool) (a : Addr) (xs : List Int) (b : Nat), vs = [.ref a, .int (2 ^ b - 1)] ∧ SqK k K H a (xs.map V.int) ∧ xs.length ≤ 1000 ∧ ∀ (L : Addr) H', H L = none → Same H H' → LI H' L (diff (2 ^ b) xs.length xs) → Q (.ref L) H'
def spCountP (K : PySem.W.Frag) : Sp := fun vs H Q _ => ∃ (k : Bool) (a : Addr) (ds : List Nat) (b : Nat), vs = [.ref a, .int (b : Int)] ∧ SqK k K H a ((ds.map fun (d : Nat) => (d : Int)).map V.int) ∧ ds.length ≤ 8 ∧ ds.sum ≤ 1000 ∧ 1 ≤ b ∧ b ≤ 64 ∧ (vecs ds.length b).length < 2 ^ 20 ∧
  ∀ H', Same H H' → Q (.int ((vecs ds.length b).length * 2 ^ ds.sum)) H'
theorem dfs_cut (M : Int) : ∀ xs : List Int, dfs M xs = ((xs.zip (xs.drop 1)).map fun p => (p.2 - p.1) % M)
  | [] => rfl
  | [_] => rfl
  | a :: b :: r => by
    show (b - a) % M :: dfs M (b :: r) = (b - a) % M :: (((b :: r).zip r).map fun p => (p.2 - p.1) % M)
    rw [dfs_cut M (b :: r)]
    rfl
theorem cut_drop (xs : List V) (i : Nat) : cutV xs (some (i : Int)) none = xs.drop i := by
  unfold cutV
  rw [HT.sIx_nat]
  show (xs.drop (min i xs.length)).take (xs.length - min i xs.length) = xs.drop i
  by_cases h : i ≤ xs.length
  · rw [Nat.min_eq_left h, List.take_of_length_le (by rw [List.length_drop]; omega)]
  · rw [Nat.min_eq_right (by omega), List.drop_length, List.take_nil, List.drop_of_length_le (by omega)]
section
variable {P : Program} {w : World} {K : PySem.W.Frag} {mg : Str → Option Value} {base : Heap}
abbrev N_differences : List Str := ["values", "mask", "found", "rest", "before", "after"]
end
end My

set_option pp.maxSteps 300
set_option Elab.async false
set_option linter.all false
set_option maxRecDepth 100000
set_option maxHeartbeats 1000000
namespace My
open PySem L2 MyR
/-- how many entries row r has, how many rows there are: m inputs, b bits -/
def wd (m b r : Nat) : Nat := if m = 2 then W (b - tw r) else W b
def nR (m b : Nat) : Nat := if m = 2 then W b else 1
def widthsL (m b : Nat) : List Int := (List.range (nR m b)).map fun r => (wd m b r : Int)
/-- a shape -/
structure ShF (H : Hp) (C sh dx tws ws iv : Addr) (m b : Nat) : Prop where
  o : H sh = some (.ins C dx [("bits", .int (b : Int)), ("mask", .int (2 ^ b - 1)), ("twos", .ref tws), ("widths", .ref ws), ("inverses", .ref iv)])
  t : LI H tws (sharesL b)
  w : LI H ws (widthsL m b)
  i : InvsAt H iv b (W b)
def ShapeAt (C : Addr) (H : Hp) (sh : Addr) (m b : Nat) : Prop := ∃ dx tws ws iv, ShF H C sh dx tws ws iv m b
theorem InvsAt.same {H H' : Hp} {a : Addr} {b n : Nat} (h : InvsAt H a b n) (s : Same H H') : InvsAt H' a b n := let ⟨xs, e, r⟩ := h; ⟨xs, e.same s, r⟩
theorem ShF.same {H H' : Hp} {C sh dx tws ws iv : Addr} {m b : Nat} (h : ShF H C sh dx tws ws iv m b) (s : Same H H') : ShF H' C sh dx tws ws iv m b := ⟨s _ _ h.o, h.t.same s, h.w.same s, h.i.same s⟩
theorem ShapeAt.same {H H' : Hp} {C sh : Addr} {m b : Nat} (h : ShapeAt C H sh m b) (s : Same H H') : ShapeAt C H' sh m b := let ⟨dx, tws, ws, iv, e⟩ := h; ⟨dx, tws, ws, iv, e.same s⟩
theorem wd_filter {b r : Nat} : ((List.range (W b)).filter fun k => decide (tw r + tw k < b)) = List.range (W (b - tw r)) := by
  have e : ∀ k, decide (tw r + tw k < b) = decide (k < W (b - tw r)) := fun k => by
    refine decide_eq_decide.mpr ⟨fun h => W_iff.mp (by omega), fun h => ?_⟩
    have := W_iff.mpr h
    omega
  rw [show (fun k => decide (tw r + tw k < b)) = fun k => decide (k < W (b - tw r)) from funext e]
  have h := W_mono (show b - tw r ≤ b by omega)
  obtain ⟨d, hd⟩ : ∃ d, W b = W (b - tw r) + d := ⟨W b - W (b - tw r), by omega⟩
  rw [hd]
  clear hd h e
  generalize W (b - tw r) = n
  induction d with
  | zero =>
    rw [Nat.add_zero]
    exact List.filter_eq_self.mpr fun i hi => decide_eq_true (List.mem_range.mp hi)
  | succ d ih =>
    rw [show n + (d + 1) = (n + d) + 1 by omega, List.range_succ, List.filter_append, ih, List.filter_cons, if_neg (by rw [decide_eq_false (by omega)]; exact Bool.false_ne_true)]
    show List.range n ++ [] = _
    rw [List.append_nil]
def spShape (C : Addr) : Sp := fun vs H Q _ => ∃ (p dx : Addr) (m b : Nat), vs = [.ref p, .int (m : Int), .int (b : Int)] ∧ H p = some (.ins C dx []) ∧ 1 ≤ b ∧ b ≤ 64 ∧ (m = 1 ∨ m = 2) ∧ ∀ H', ShapeAt C H' p m b → (∀ a o, H a = some o → a ≠ p → H' a = some o) → Q .non H'
structure ShC (K : PySem.W.Frag) (C : Addr) : Prop where
  cl : Cls K C
  n1 : NoAttr K C "bits"
  n2 : NoAttr K C "mask"
  n3 : NoAttr K C "twos"
  n4 : NoAttr K C "widths"
  n5 : NoAttr K C "inverses"
/-- all but one cell is as it was -/
def SameP (p : Addr) (H H' : Hp) : Prop := ∀ a o, H a = some o → a ≠ p → H' a = some o
theorem SameP.of {p : Addr} {H H' : Hp} (s : Same H H') : SameP p H H' := fun a o e _ => s a o e
theorem SameP.trans {p : Addr} {H H1 H2 : Hp} (a : SameP p H H1) (b : SameP p H1 H2) : SameP p H H2 := fun c o e n => b c o (a c o e n) n
theorem SameP.up {p : Addr} {H H1 : Hp} {o : HO} (a : SameP p H H1) : SameP p H (upd H1 p o) := fun c u e n => by rw [upd_ne n]; exact a c u e n
theorem LI.sp {H H' : Hp} {a p : Addr} {xs : List Int} (h : LI H a xs) (s : SameP p H H') (n : a ≠ p) : LI H' a xs := s _ _ h n
section
variable {P : Program} {w : World} {K : PySem.W.Frag} {mg : Str → Option Value} {base : Heap}
theorem pe_fldN {X : Cx} {K : PySem.W.Frag} {e : Expr} {f : Str} {pos : Pos} {ta : TE} (h : X.K = K) (he : PE X e ta) (hb : attributeBase e f X.env (eval e X.env) = eval e X.env) : PE X (.Attribute e f pos) (tFld K ta f) := by
  subst h
  exact pe_fld he hb
theorem pi_listN {X : Cx} {K : PySem.W.Frag} {tg l : Expr} {tl : TE} (h : X.K = K) (hl : PE X l tl) : PI X tg l (iList K tl) := by
  subst h
  exact pi_list hl
def rLenK (K : PySem.W.Frag) : List V → Hp → VK → Prop := fun xs H Q => ∃ p ys, xs = [V.ref p] ∧ (SqL K H p ys ∨ SqT K H p ys) ∧ Q (V.int (ys.length : Int)) H
theorem call_lenN {X : Cx} {K : PySem.W.Frag} (h : X.K = K) : CallR X (.builtin "len") (rLenK K) := by
  subst h
  exact call_len_seq
abbrev N_Shape_init : List Str := ["self", "inputs", "bits", "share", "used"]
/-- the scope of a comprehension within a def, as it stands at work -/
def relabS (scope sc : Scope) : Scope := { scope with names := scope.names.map fun (n, k) => if (k == NameKind.free && sc.kind == .function && sc.names.lookup n == some .cell) then (n, NameKind.cell) else (n, k) }
def lcOf : Expr → Option (Scope × Expr)
  | .ListComp e _ sc _ => some (sc, e)
  | _ => none
def valOf : Stmt → Option Expr
  | .Assign _ e _ => some e
  | .Return e _ => e
  | _ => none
end
end My

set_option pp.maxSteps 300
set_option Elab.async false
set_option linter.all false
set_option maxRecDepth 100000
set_option maxHeartbeats 1000000
namespace My
open PySem L2 MyR
/-- the entries of a class whose Newton coefficients are c -/
def gv (c : Nat → Nat → Int) (r j : Nat) : Int := nw (fun p => nw (c p) j) r
def rowC (m b : Nat) (c : Nat → Nat → Int) (r : Nat) : List Int := (List.range (wd m b r)).map fun j => gv c r j % 2 ^ b
def flatC (m b : Nat) (c : Nat → Nat → Int) (n : Nat) : List Int := (List.range n).flatMap (rowC m b c)
def entC (m b : Nat) (c : Nat → Nat → Int) : List Int := flatC m b c (nR m b)
theorem rowC_len (m b : Nat) (c : Nat → Nat → Int) (r : Nat) : (rowC m b c r).length = wd m b r := by unfold rowC; rw [List.length_map, List.length_range]
theorem flatC_succ (m b : Nat) (c : Nat → Nat → Int) (n : Nat) : flatC m b c (n + 1) = flatC m b c n ++ rowC m b c n := by
  unfold flatC
  rw [List.range_succ, List.flatMap_append]
  simp
theorem flatC_split (m b : Nat) (c : Nat → Nat → Int) (r : Nat) : ∀ n, r < n → ∃ t, flatC m b c n = flatC m b c r ++ (rowC m b c r ++ t)
  | 0, h => absurd h (Nat.not_lt_zero _)
  | n + 1, h => by
    by_cases e : r = n
    · subst e
      exact ⟨[], by rw [flatC_succ, List.append_nil]⟩
    · obtain ⟨t, q⟩ := flatC_split m b c r n (by omega)
      exact ⟨t ++ rowC m b c n, by rw [flatC_succ, q, List.append_assoc, List.append_assoc]⟩
theorem wd_le {m b r : Nat} (h : b ≤ 64) : wd m b r ≤ 66 := by
  unfold wd
  split
  · exact W_66 (by omega)
  · exact W_66 h
theorem nR_le {m b : Nat} (h : b ≤ 64) : nR m b ≤ 66 := by
  unfold nR
  split
  · exact W_66 h
  · omega
theorem flatC_len {m b : Nat} {c : Nat → Nat → Int} (h : b ≤ 64) : ∀ n, (flatC m b c n).length ≤ 66 * n
  | 0 => Nat.zero_le _
  | n + 1 => by
    have := flatC_len (c := c) (m := m) h n
    have := wd_le (m := m) (r := n) h
    rw [flatC_succ, List.length_append, rowC_len]
    omega
def TupI (H : Hp) (t : Addr) (xs : List Int) : Prop := H t = some (.tup (xs.map V.int))
theorem TupI.same {H H' : Hp} {t : Addr} {xs : List Int} (h : TupI H t xs) (s : Same H H') : TupI H' t xs := s _ _ h
/-- a list of tuples of whole numbers -/
def LTI (H : Hp) (a : Addr) (xss : List (List Int)) : Prop := ∃ as : List Addr, H a = some (.lst (as.map V.ref)) ∧ as.length = xss.length ∧ ∀ (i : Nat) xs, xss[i]? = some xs → ∃ p, as[i]? = some p ∧ TupI H p xs
theorem LTI.same {H H' : Hp} {a : Addr} {xss : List (List Int)} (h : LTI H a xss) (s : Same H H') : LTI H' a xss := let ⟨as, e1, e2, e3⟩ := h; ⟨as, s _ _ e1, e2, fun i xs e => let ⟨p, q1, q2⟩ := e3 i xs e; ⟨p, q1, q2.same s⟩⟩
theorem lli_snoc {H : Hp} {a p : Addr} {as : List Addr} {xss : List (List Int)} {xs : List Int} (h1 : H a = some (.lst (as.map V.ref))) (h2 : as.length = xss.length) (h3 : ∀ (i : Nat) ys, xss[i]? = some ys → ∃ q, as[i]? = some q ∧ LI H q ys) (hp : LI H p xs) (np : p ≠ a) (na : ∀ q ys, LI H q ys → q ∈ as → q ≠ a) :
    LLI (upd H a (.lst (as.map V.ref ++ [.ref p]))) a (xss ++ [xs]) := by
  refine ⟨as ++ [p], by rw [upd_same, List.map_append]; rfl, by rw [List.length_append, List.length_append, h2]; rfl, fun i ys e => ?_⟩
  by_cases hi : i < xss.length
  · rw [List.getElem?_append_left hi] at e
    obtain ⟨q, q1, q2⟩ := h3 i ys e
    exact ⟨q, by rw [List.getElem?_append_left (by omega)]; exact q1, q2.updN (na q ys q2 (List.mem_of_getElem? q1))⟩
  · rw [List.getElem?_append_right (by omega)] at e
    have hi0 : i = xss.length := by
      have := (List.getElem?_eq_some_iff.mp e).1
      simp at this
      omega
    subst hi0
    rw [Nat.sub_self] at e
    cases e
    exact ⟨p, by rw [List.getElem?_append_right (by omega), h2, Nat.sub_self]; rfl, hp.updN np⟩
theorem lti_snoc {H : Hp} {a p : Addr} {as : List Addr} {xss : List (List Int)} {xs : List Int} {vs : List V} (h1 : H a = some (.lst vs)) (h2 : as.length = xss.length) (h3 : ∀ (i : Nat) ys, xss[i]? = some ys → ∃ q, as[i]? = some q ∧ TupI H q ys) (hp : TupI H p xs) :
    LTI (upd H a (.lst (as.map V.ref ++ [.ref p]))) a (xss ++ [xs]) := by
  have nt : ∀ q ys, TupI H q ys → q ≠ a := fun q ys e z => by
    rw [z] at e
    have e : H a = _ := e
    rw [h1] at e
    cases e
  have up : ∀ q ys, TupI H q ys → TupI (upd H a (.lst (as.map V.ref ++ [.ref p]))) q ys := fun q ys e => by show upd H a _ q = _; rw [upd_ne (nt q ys e)]; exact e
  refine ⟨as ++ [p], by rw [upd_same, List.map_append]; rfl, by rw [List.length_append, List.length_append, h2]; rfl, fun i ys e => ?_⟩
  by_cases hi : i < xss.length
  · rw [List.getElem?_append_left hi] at e
    obtain ⟨q, q1, q2⟩ := h3 i ys e
    exact ⟨q, by rw [List.getElem?_append_left (by omega)]; exact q1, up q ys q2⟩
  · rw [List.getElem?_append_right (by omega)] at e
    have hi0 : i = xss.length := by
      have := (List.getElem?_eq_some_iff.mp e).1
      simp at this
      omega
    subst hi0
    rw [Nat.sub_self] at e
    cases e
    exact ⟨p, by rw [List.getElem?_append_right (by omega), h2, Nat.sub_self]; rfl, up p xs hp⟩
theorem cut_mid (a x t : List V) : cutV (a ++ (x ++ t)) (some (a.length : Int)) (some ((a.length + x.length : Nat) : Int)) = x := by
  unfold cutV
  rw [HT.sIx_nat, HT.sIx_nat, List.length_append, List.length_append]
  rw [show min a.length (a.length + (x.length + t.length)) = a.length by omega, show min (a.length + x.length) (a.length + (x.length + t.length)) = a.length + x.length by omega, List.drop_left, show a.length + x.length - a.length = x.length by omega, List.take_left]
def spInRows (C : Addr) : Sp := fun vs H Q _ => ∃ (sh v : Addr) (m b : Nat) (c : Nat → Nat → Int), vs = [.ref sh, .ref v] ∧ ShapeAt C H sh m b ∧ TupI H v (entC m b c) ∧ 1 ≤ b ∧ b ≤ 64 ∧ ∀ (L : Addr) H', H L = none → Same H H' → LTI H' L ((List.range (nR m b)).map (rowC m b c)) → Q (.ref L) H'
section
variable {P : Program} {w : World} {K : PySem.W.Frag} {mg : Str → Option Value} {base : Heap}
abbrev N_Shape_in_rows : List Str := ["self", "values", "found", "begin", "width"]
end
end My

set_option pp.maxSteps 300
set_option Elab.async false
set_option linter.all false
set_option maxRecDepth 100000
set_option maxHeartbeats 1000000
namespace My
open PySem L2 MyR
theorem lli_app {H : Hp} {D p : Addr} {xss : List (List Int)} {xs : List Int} (h : LLI H D xss) (hp : LI H p xs) (np : p ≠ D) (hl : xss.length < 5000) :
    ∃ acc, H D = some (.lst acc) ∧ acc.length < sizeLine ∧ LLI (upd H D (.lst (acc ++ [.ref p]))) D (xss ++ [xs]) := by
  obtain ⟨as, e1, e2, e3⟩ := h
  refine ⟨_, e1, by rw [List.length_map, e2, sizeLine_eq]; omega, lli_snoc e1 e2 e3 hp np fun q ys hq hm z => ?_⟩
  rw [z] at hq hm
  have hq : H D = some (.lst (ys.map V.int)) := hq
  rw [e1] at hq
  have hq := HO.lst.inj (Option.some.inj hq)
  cases as with
  | nil => cases hm
  | cons a as =>
    cases ys with
    | nil => cases hq
    | cons y ys =>
      rw [List.map_cons, List.map_cons] at hq
      cases (List.cons.inj hq).1
theorem LLI.lenV {H : Hp} {a : Addr} {xss : List (List Int)} (h : LLI H a xss) : ∃ vs : List V, H a = some (.lst vs) ∧ vs.length = xss.length ∧ ∀ (i : Nat) xs, xss[i]? = some xs → ∃ p, vs[i]? = some (.ref p) ∧ LI H p xs := by
  obtain ⟨as, e1, e2, e3⟩ := h
  refine ⟨_, e1, by rw [List.length_map]; exact e2, fun i xs e => ?_⟩
  obtain ⟨p, q1, q2⟩ := e3 i xs e
  exact ⟨p, by rw [List.getElem?_map, q1]; rfl, q2⟩
def rowE (m b : Nat) (c : Nat → Nat → Int) (r : Nat) : List Int := (List.range (wd m b r)).map fun q => nw (fun p => c p q) r % 2 ^ b
theorem diff_rowC (m b : Nat) (c : Nat → Nat → Int) (r : Nat) : diff (2 ^ b) (rowC m b c r).length (rowC m b c r) = rowE m b c r := by
  rw [rowC_len]
  have e : rowC m b c r = (List.range (wd m b r)).map fun j => nw (fun q => nw (fun p => c p q) r) j % 2 ^ b := by
    unfold rowC gv
    refine List.map_congr_left fun j _ => ?_
    rw [nw_swap r c j]
  rw [e, diff_nw]
  rfl
def hq (m b q : Nat) : Nat := if m = 2 then W (b - tw q) else if q < W b then 1 else 0
theorem hq_iff {m b q r : Nat} (hr : r < nR m b) : q < wd m b r ↔ r < hq m b q := by
  unfold wd hq
  unfold nR at hr
  by_cases e : m = 2
  · rw [if_pos e, if_pos e, ← W_iff, ← W_iff]
    omega
  · rw [if_neg e] at hr
    rw [if_neg e, if_neg e]
    split <;> omega
theorem hq_le {m b q : Nat} : hq m b q ≤ nR m b := by
  unfold hq nR
  by_cases e : m = 2
  · rw [if_pos e, if_pos e]
    exact W_mono (by omega)
  · rw [if_neg e, if_neg e]
    split <;> omega
def colE (m b : Nat) (c : Nat → Nat → Int) (q : Nat) : List Int := (List.range (hq m b q)).map fun r => nw (fun p => c p q) r % 2 ^ b
def colD (m b : Nat) (c : Nat → Nat → Int) (q : Nat) : List Int := (List.range (hq m b q)).map fun p => c p q % 2 ^ b
theorem colE_len (m b : Nat) (c : Nat → Nat → Int) (q : Nat) : (colE m b c q).length = hq m b q := by unfold colE; rw [List.length_map, List.length_range]
theorem diff_colE (m b : Nat) (c : Nat → Nat → Int) (q : Nat) : diff (2 ^ b) (colE m b c q).length (colE m b c q) = colD m b c q := by
  rw [colE_len]
  exact diff_nw (2 ^ b) (hq m b q) fun p => c p q
/-- the coefficients of a class, as they stand -/
def spr (m b : Nat) (c : Nat → Nat → Int) (r : Nat) : List Int := (List.range (wd m b r)).map fun q => c r q % 2 ^ b
theorem at_range {α : Type} {n i : Nat} {f : Nat → α} (h : i < n) : ((List.range n).map f)[i]? = some (f i) := by rw [List.getElem?_map, List.getElem?_range h]; rfl
/-- the items so far, of those rows that are long enough -/
theorem col_step {m b : Nat} {c : Nat → Nat → Int} {q r : Nat} (hr : r < nR m b) :
    ((List.range (min (r + 1) (hq m b q))).map fun r => nw (fun p => c p q) r % 2 ^ b) = ((List.range (min r (hq m b q))).map fun r => nw (fun p => c p q) r % 2 ^ b) ++ if q < wd m b r then [nw (fun p => c p q) r % 2 ^ b] else [] := by
  by_cases h : q < wd m b r
  · have h2 := (hq_iff hr).mp h
    rw [if_pos h, Nat.min_eq_left (by omega), Nat.min_eq_left (by omega), List.range_succ, List.map_append]
    rfl
  · have h2 : ¬ r < hq m b q := fun z => h ((hq_iff hr).mpr z)
    rw [if_neg h, Nat.min_eq_right (by omega), Nat.min_eq_right (by omega), List.append_nil]
def spSpread (C : Addr) : Sp := fun vs H Q _ => ∃ (sh v : Addr) (m b : Nat) (c : Nat → Nat → Int), vs = [.ref sh, .ref v] ∧ ShapeAt C H sh m b ∧ TupI H v (entC m b c) ∧ 1 ≤ b ∧ b ≤ 64 ∧ ∀ (L : Addr) H', H L = none → Same H H' → LLI H' L ((List.range (nR m b)).map (spr m b c)) → Q (.ref L) H'
/-- a method of a class -/
structure Mt (P : Program) (w : World) (K : PySem.W.Frag) (mg : Str → Option Value) (base : Heap) (C : Addr) (k : Nat) (x : Str) (ps : List Str) (sp : Sp) where
  f : Addr
  fd : FuncData
  m : Meth K C x f
  ok : FnOk P w K mg base CX0 k f fd ps sp
  b : Binds K fd ps []
def lcScope (st : Stmt) (i : Nat) : Scope := ((((defBody st)[i]?).bind valOf).bind lcOf).elim (defScope st) (·.1)
section
variable {P : Program} {w : World} {K : PySem.W.Frag} {mg : Str → Option Value} {base : Heap}
abbrev N_Shape_spread : List Str := ["self", "values", "rows", "row", "columns", "at", "column", "down"]
end
end My

set_option pp.maxSteps 300
set_option Elab.async false
set_option linter.all false
set_option maxRecDepth 100000
set_option maxHeartbeats 1000000
namespace My
open PySem L2 MyR
/-- the coefficients may stand -/
def DivC (m b : Nat) (c : Nat → Nat → Int) : Prop := ∀ r q, r < nR m b → q < wd m b r → (2 : Int) ^ (tw r + tw q) ∣ c r q
theorem sum_lt {m b r q : Nat} (hm : m = 1 ∨ m = 2) (hr : r < nR m b) (h : q < wd m b r) : tw r + tw q < b := by
  unfold wd at h
  unfold nR at hr
  rcases hm with rfl | rfl
  · rw [if_neg (by decide)] at h hr
    have : r = 0 := by omega
    subst this
    have := W_iff.mpr h
    show 0 + tw q < b
    omega
  · rw [if_pos rfl] at h hr
    have := W_iff.mpr h
    omega
theorem q_lt {m b r q : Nat} (h : q < wd m b r) : q < W b := by
  unfold wd at h
  split at h
  · have := W_mono (show b - tw r ≤ b by omega)
    omega
  · exact h
theorem r_lt {m b r : Nat} (hb : 1 ≤ b) (h : r < nR m b) : r < W b := by
  unfold nR at h
  split at h
  · exact h
  · have := W_pos hb
    omega
def spWrongG (C : Addr) : Sp := fun vs H Q _ => ∃ (sh v : Addr) (m b : Nat) (c : Nat → Nat → Int), vs = [.ref sh, .ref v] ∧ ShapeAt C H sh m b ∧ LLI H v ((List.range (nR m b)).map (spr m b c)) ∧ 1 ≤ b ∧ b ≤ 64 ∧ (m = 1 ∨ m = 2) ∧ DivC m b c ∧ ∀ H', Same H H' → Q .non H'
/-- a row of coefficients, without the zeros at its end -/
def CoRow (m b : Nat) (c : Nat → Nat → Int) (r : Nat) (zs : List Int) : Prop := ∃ (n : Nat) (A : Nat → Int), zs ++ List.replicate n 0 = (List.range (wd m b r)).map A ∧
  ∃ x, InvOf b (odP r) x ∧ ∀ q, q < wd m b r → ∃ y, InvOf b (odP q) y ∧ A q = (c r q % 2 ^ b) / 2 ^ (tw r + tw q) * x * y % 2 ^ b
def spDivided (C : Addr) : Sp := fun vs H Q _ => ∃ (sh v : Addr) (m b r : Nat) (c : Nat → Nat → Int), vs = [.ref sh, .ref v, .int (r : Int)] ∧ ShapeAt C H sh m b ∧ LI H v (spr m b c r) ∧ r < nR m b ∧ 1 ≤ b ∧ b ≤ 64 ∧ (m = 1 ∨ m = 2) ∧ ∀ (L : Addr) H' zs, H L = none → Same H H' → LI H' L zs → CoRow m b c r zs → Q (.ref L) H'
/-- the coefficients of a class -/
def CoRows (m b : Nat) (c : Nat → Nat → Int) (rows : List (List Int)) : Prop := rows.length = nR m b ∧ ∀ r zs, rows[r]? = some zs → CoRow m b c r zs
def spCoefs (C : Addr) : Sp := fun vs H Q _ => ∃ (sh v : Addr) (m b : Nat) (c : Nat → Nat → Int), vs = [.ref sh, .ref v] ∧ ShapeAt C H sh m b ∧ LLI H v ((List.range (nR m b)).map (spr m b c)) ∧ 1 ≤ b ∧ b ≤ 64 ∧ (m = 1 ∨ m = 2) ∧ ∀ (L : Addr) H' rows, H L = none → Same H H' → LLI H' L rows → CoRows m b c rows → (∀ vs, H' L = some (.lst vs) → ∀ q, V.ref q ∈ vs → H q = none) → Q (.ref L) H'
theorem shares_at {b r : Nat} (h : r < W b) : atI ((sharesL b).map V.int) (r : Int) = some (.int (tw r : Int)) := atI_nat (map_at_int (at_range (f := fun j => (tw j : Int)) h))
theorem spr_at {m b r q : Nat} {c : Nat → Nat → Int} (h : q < wd m b r) : ((spr m b c r).map V.int)[q]? = some (.int (c r q % 2 ^ b)) := map_at_int (at_range (f := fun q => c r q % 2 ^ b) h)
section
variable {P : Program} {w : World} {K : PySem.W.Frag} {mg : Str → Option Value} {base : Heap}
abbrev N_Shape_first_wrong : List Str := ["self", "found", "index", "down", "row", "at", "number"]
abbrev N_Shape_divided : List Str := ["self", "row", "down", "factor", "used", "found", "at", "number"]
end
end My

set_option pp.maxSteps 300
set_option Elab.async false
set_option linter.all false
set_option maxRecDepth 100000
set_option maxHeartbeats 1000000
namespace My
open PySem L2 MyR
theorem flat_sum (m b : Nat) (c : Nat → Nat → Int) : ∀ n, (flatC m b c n).length = smN n (wd m b)
  | 0 => rfl
  | n + 1 => by
    rw [flatC_succ, List.length_append, flat_sum m b c n, rowC_len]
    rfl
theorem vecs_one (b : Nat) : (vecs 1 b).length = W b := by
  rw [vecs_len]
  have : ∀ n, smN n (fun j => (vecs 0 (b - tw j)).length) = n := fun n => by
    induction n with
    | zero => rfl
    | succ n ih =>
      show smN n (fun j => (vecs 0 (b - tw j)).length) + 1 = n + 1
      rw [ih]
  exact this _
theorem entC_len {m b : Nat} {c : Nat → Nat → Int} (hm : m = 1 ∨ m = 2) : (entC m b c).length = (vecs m b).length := by
  unfold entC
  rw [flat_sum]
  rcases hm with rfl | rfl
  · rw [vecs_one]
    show 0 + wd 1 b 0 = W b
    rw [Nat.zero_add]
    rfl
  · rw [vecs_len]
    exact smN_congr fun j _ => by rw [vecs_one]; rfl
theorem ShF.same' {H H1 : Hp} {C sh dx tws ws iv L : Addr} {m b : Nat} {vs : List V} {o : HO} (h : ShF H C sh dx tws ws iv m b) (s : Same H H1) (hL : H L = some (.lst vs)) (nt : tws ≠ L) (nw : ws ≠ L) (ni : iv ≠ L) : ShF (upd H1 L o) C sh dx tws ws iv m b := by
  have g := h.same s
  refine ⟨?_, g.t.updN nt, g.w.updN nw, let ⟨xs, e, r⟩ := g.i; ⟨xs, e.updN ni, r⟩⟩
  rw [upd_ne (fun z => by have := h.o; rw [z, hL] at this; cases this)]
  exact g.o
theorem nat_sum : ∀ ds : List Nat, (ds.map fun (d : Nat) => (d : Int)).sum = (ds.sum : Int)
  | [] => rfl
  | d :: ds => by
    rw [List.map_cons, List.sum_cons, List.sum_cons, nat_sum ds]
    rfl
/-- the entries of all classes -/
def allE (m b : Nat) (cs : Nat → Nat → Nat → Int) (n : Nat) : List Int := (List.range n).flatMap fun g => entC m b (cs g)
theorem allE_succ (m b : Nat) (cs : Nat → Nat → Nat → Int) (n : Nat) : allE m b cs (n + 1) = allE m b cs n ++ entC m b (cs n) := by
  unfold allE
  rw [List.range_succ, List.flatMap_append]
  simp
theorem allE_len {m b : Nat} {cs : Nat → Nat → Nat → Int} (hm : m = 1 ∨ m = 2) : ∀ n, (allE m b cs n).length = n * (vecs m b).length
  | 0 => by rw [Nat.zero_mul]; rfl
  | n + 1 => by rw [allE_succ, List.length_append, allE_len hm n, entC_len hm, Nat.succ_mul]
theorem allE_split (m b : Nat) (cs : Nat → Nat → Nat → Int) (g : Nat) : ∀ n, g < n → ∃ t, allE m b cs n = allE m b cs g ++ (entC m b (cs g) ++ t)
  | 0, h => absurd h (Nat.not_lt_zero _)
  | n + 1, h => by
    by_cases e : g = n
    · subst e
      exact ⟨[], by rw [allE_succ, List.append_nil]⟩
    · obtain ⟨t, q⟩ := allE_split m b cs g n (by omega)
      exact ⟨t ++ entC m b (cs n), by rw [allE_succ, q, List.append_assoc, List.append_assoc]⟩
/-- the coefficients of all classes -/
def ClsAt (H : Hp) (L : Addr) (m b : Nat) (cs : Nat → Nat → Nat → Int) (n : Nat) : Prop := ∃ as : List Addr, H L = some (.lst (as.map V.ref)) ∧ as.length = n ∧ ∀ g, g < n → ∃ p rows, as[g]? = some p ∧ LLI H p rows ∧ CoRows m b (cs g) rows
theorem ClsAt.same {H H' : Hp} {L : Addr} {m b : Nat} {cs : Nat → Nat → Nat → Int} {n : Nat} (h : ClsAt H L m b cs n) (s : Same H H') : ClsAt H' L m b cs n := let ⟨as, e1, e2, e3⟩ := h; ⟨as, s _ _ e1, e2, fun g hg => let ⟨p, rows, q1, q2, q3⟩ := e3 g hg; ⟨p, rows, q1, q2.same s, q3⟩⟩
theorem LLI.updL {H : Hp} {L p : Addr} {rows : List (List Int)} {o : HO} (h : LLI H p rows) (np : p ≠ L) (hq : ∀ vs, H p = some (.lst vs) → ∀ q, V.ref q ∈ vs → q ≠ L) : LLI (upd H L o) p rows := by
  obtain ⟨as, e1, e2, e3⟩ := h
  refine ⟨as, by rw [upd_ne np]; exact e1, e2, fun i xs e => ?_⟩
  obtain ⟨q, q1, q2⟩ := e3 i xs e
  exact ⟨q, q1, q2.updN (hq _ e1 q (List.mem_map.mpr ⟨q, List.mem_of_getElem? q1, rfl⟩))⟩
/-- the same, while the list at L grows -/
def ClsL (H0 H : Hp) (L : Addr) (m b : Nat) (cs : Nat → Nat → Nat → Int) (n : Nat) : Prop := ∃ as : List Addr, H L = some (.lst (as.map V.ref)) ∧ as.length = n ∧ ∀ g, g < n → ∃ p rows, as[g]? = some p ∧ LLI H p rows ∧ CoRows m b (cs g) rows ∧ (p ≠ L ∧ H0 p = none) ∧ ∀ vs, H p = some (.lst vs) → ∀ q, V.ref q ∈ vs → q ≠ L ∧ H0 q = none
theorem ClsL.same {H0 H H' : Hp} {L : Addr} {m b : Nat} {cs : Nat → Nat → Nat → Int} {n : Nat} (h : ClsL H0 H L m b cs n) (s : Same H H') : ClsL H0 H' L m b cs n := by
  obtain ⟨as, e1, e2, e3⟩ := h
  refine ⟨as, s _ _ e1, e2, fun g hg => ?_⟩
  obtain ⟨p, rows, q1, q2, q3, q4, q5⟩ := e3 g hg
  refine ⟨p, rows, q1, q2.same s, q3, q4, fun vs hv => ?_⟩
  obtain ⟨bs, b1, _⟩ := id q2
  rw [s _ _ b1] at hv
  rw [← HO.lst.inj (Option.some.inj hv)]
  exact q5 _ b1
/-- the lists within are new against H0 -/
def FrL (H0 H : Hp) (L : Addr) : Prop := H0 L = none ∧ ∀ as, H L = some (.lst as) → ∀ p, V.ref p ∈ as → H0 p = none ∧ ∀ bs, H p = some (.lst bs) → ∀ q, V.ref q ∈ bs → H0 q = none
def spClasses : Sp := fun vs H Q _ => ∃ (lt et : Addr) (m b : Nat) (ds : List Nat) (cs : Nat → Nat → Nat → Int), vs = [.ref lt, .int (b : Int), .ref et] ∧ TupI H lt (ds.map fun (d : Nat) => (d : Int)) ∧ ds.length = m ∧ ds.sum ≤ 8 ∧ TupI H et (allE m b cs (2 ^ ds.sum)) ∧ 1 ≤ b ∧ b ≤ 64 ∧ (m = 1 ∨ m = 2) ∧ (vecs m b).length < 5000 ∧
  (∀ g, DivC m b (cs g)) ∧ ∀ (L : Addr) H', Same H H' → ClsAt H' L m b cs (2 ^ ds.sum) → FrL H H' L → Q (.ref L) H'
/-- the class Shape as its users know it -/
structure ShX (P : Program) (w : World) (K : PySem.W.Frag) (mg : Str → Option Value) (base : Heap) (C : Addr) where
  f : Addr
  fd : FuncData
  m : Mk K C f
  ok : FnOk P w K mg base CX0 3 f fd ["self", "inputs", "bits"] (spShape C)
  g : mg "Shape" = some (.ref C)
  b : Binds K fd ["self", "inputs", "bits"] []
  cl : Cls K C
section
variable {P : Program} {w : World} {K : PySem.W.Frag} {mg : Str → Option Value} {base : Heap}
abbrev N_Shape_coefficients : List Str := ["self", "found", "down", "row"]
abbrev N_classes_of : List Str := ["loss", "bits", "entries", "shape", "size", "found", "number", "begin", "spread", "wrong"]
end
end My

set_option Elab.async false
set_option linter.all false
set_option maxRecDepth 100000
set_option maxHeartbeats 1000000
namespace My
open PySem L2 MyR
/-! ### what a table tells is the sum over binomials -/
theorem smI_mul (t : Int) : ∀ (n : Nat) (f : Nat → Int), smI n f * t = smI n fun k => f k * t
  | 0, _ => Int.zero_mul t
  | n + 1, f => by
    show (smI n f + f n) * t = smI n (fun k => f k * t) + f n * t
    rw [Int.add_mul, smI_mul t n f]
/-- one row at a point -/
theorem row_val {m b r : Nat} {c : Nat → Nat → Int} {zs : List Int} {z1 z2 : Int} (hm : m = 1 ∨ m = 2) (hb1 : 1 ≤ b) (hb : b ≤ 64) (hr : r < nR m b) (hd : DivC m b c) (h : CoRow m b c r zs) :
    (flo (2 ^ b) (z2 % 2 ^ b) 0 zs * fall (z1 % 2 ^ b) r) % 2 ^ b = (smI (wd m b r) fun q => c r q * (bn z2 q * bn z1 r)) % 2 ^ b := by
  obtain ⟨n, A, e, x, hx, hA⟩ := h
  have hW := W_66 hb
  have hrW := r_lt hb1 hr
  rw [flo_zero, em_mul (b' := fall z1 r) em_self (fall_mod em_self r), ← flS_zeros zs n 0, e, flS_map, smI_mul]
  refine smI_mod fun q hq => ?_
  obtain ⟨y, hy, hAq⟩ := hA q hq
  have hqW := q_lt hq
  rw [Int.mul_assoc, em_mul rfl (em_mul (fall_mod (M := 2 ^ b) (z' := z2) em_self q) rfl), hAq]
  exact coef_bn (by omega) (by omega) (Nat.le_of_lt (sum_lt hm hr hq)) hx hy (hd r q hr hq)
/-- the value at a place -/
def val1 (b : Nat) (c : Nat → Nat → Int) (z : Int) : Int := (smI (W b) fun q => c 0 q * bn z q) % 2 ^ b
def val2 (b : Nat) (c : Nat → Nat → Int) (z1 z2 : Int) : Int := (smI (W b) fun p => smI (W (b - tw p)) fun q => c p q * (bn z2 q * bn z1 p)) % 2 ^ b
theorem eval1 {b : Nat} {c : Nat → Nat → Int} {zs : List Int} {z : Int} (hb1 : 1 ≤ b) (hb : b ≤ 64) (hd : DivC 1 b c) (h : CoRow 1 b c 0 zs) : flo (2 ^ b) (z % 2 ^ b) 0 zs = val1 b c z := by
  have q := row_val (z1 := 0) (z2 := z) (.inl rfl) hb1 hb (show 0 < 1 by decide) hd h
  rw [show fall (0 % 2 ^ b) 0 = 1 from rfl, Int.mul_one, flo_lo] at q
  rw [q]
  unfold val1
  have e : wd 1 b 0 = W b := rfl
  rw [e]
  congr 1
  refine smI_congr fun q _ => ?_
  rw [show bn 0 0 = 1 from rfl, Int.mul_one]
theorem map_getD {α : Type} (f : List Int → α) : ∀ rows : List (List Int), rows.map f = (List.range rows.length).map fun p => f (rows.getD p []) := fun rows => by
  refine List.ext_getElem? fun i => ?_
  rw [List.getElem?_map, List.getElem?_map]
  by_cases h : i < rows.length
  · rw [List.getElem?_range h, List.getElem?_eq_getElem h]
    show some (f rows[i]) = some (f (rows.getD i []))
    rw [List.getD_eq_getElem?_getD, List.getElem?_eq_getElem h]
    rfl
  · rw [List.getElem?_eq_none (by omega), List.getElem?_eq_none (by rw [List.length_range]; omega)]
    rfl
theorem eval2 {b : Nat} {c : Nat → Nat → Int} {rows : List (List Int)} {z1 z2 : Int} (hb1 : 1 ≤ b) (hb : b ≤ 64) (hd : DivC 2 b c) (h : CoRows 2 b c rows) : flo (2 ^ b) (z1 % 2 ^ b) 0 (rows.map (flo (2 ^ b) (z2 % 2 ^ b) 0)) = val2 b c z1 z2 := by
  obtain ⟨hl, hc⟩ := h
  have hl : rows.length = W b := hl
  rw [flo_zero, map_getD, hl, flS_map]
  unfold val2
  refine smI_mod fun p hp => ?_
  have hp' : rows[p]? = some rows[p] := List.getElem?_eq_getElem (by omega)
  rw [List.getD_eq_getElem?_getD, hp']
  have q := row_val (z1 := z1) (z2 := z2) (.inr rfl) hb1 hb (show p < nR 2 b from hp) hd (hc p _ hp')
  have e : wd 2 b p = W (b - tw p) := rfl
  rw [e] at q
  exact q
end My

set_option pp.maxSteps 300
set_option Elab.async false
set_option linter.all false
set_option maxRecDepth 100000
set_option maxHeartbeats 1000000
namespace My
open PySem L2 MyR
def dI (ds : List Nat) : List Int := ds.map fun (d : Nat) => (d : Int)
/-- a table of m inputs (one for each depth in ds), b bits, its classes' Newton coefficients cs -/
structure TbAt (C : Addr) (H : Hp) (t : Addr) (ds : List Nat) (b : Nat) (cs : Nat → Nat → Nat → Int) (dx lt et ct : Addr) : Prop where
  o : H t = some (.ins C dx [("loss", .ref lt), ("bits", .int (b : Int)), ("entries", .ref et), ("inputs", .int (ds.length : Int)), ("most", .int (b : Int)), ("classes", .ref ct)])
  l : TupI H lt (dI ds)
  e : TupI H et (allE ds.length b cs (2 ^ ds.sum))
  c : ClsAt H ct ds.length b cs (2 ^ ds.sum)
theorem TbAt.same {C t dx lt et ct : Addr} {H H' : Hp} {ds : List Nat} {b : Nat} {cs : Nat → Nat → Nat → Int} (h : TbAt C H t ds b cs dx lt et ct) (s : Same H H') : TbAt C H' t ds b cs dx lt et ct := ⟨s _ _ h.o, h.l.same s, h.e.same s, h.c.same s⟩
/-- what may be a table -/
structure TbOk (ds : List Nat) (b : Nat) (cs : Nat → Nat → Nat → Int) : Prop where
  m : ds.length = 1 ∨ ds.length = 2
  s : ds.sum ≤ 8
  b1 : 1 ≤ b
  b64 : b ≤ 64
  v : (vecs ds.length b).length < 5000
  d : ∀ g, DivC ds.length b (cs g)
def spCountQ : Sp := fun vs H Q _ => ∃ (a : Addr) (ds : List Nat) (b : Nat), vs = [.ref a, .int (b : Int)] ∧ TupI H a (dI ds) ∧ ds.length ≤ 8 ∧ ds.sum ≤ 1000 ∧ 1 ≤ b ∧ b ≤ 64 ∧ (vecs ds.length b).length < 5000 ∧
  ∀ H', Same H H' → Q (.int ((vecs ds.length b).length * 2 ^ ds.sum)) H'
def spTable (C : Addr) : Sp := fun vs H Q _ => ∃ (p dx lt e : Addr) (ds : List Nat) (b : Nat) (cs : Nat → Nat → Nat → Int), vs = [.ref p, .ref lt, .int (b : Int), .ref e] ∧ H p = some (.ins C dx []) ∧ TupI H lt (dI ds) ∧ LI H e (allE ds.length b cs (2 ^ ds.sum)) ∧ TbOk ds b cs ∧
  ∀ et ct H', TbAt C H' p ds b cs dx lt et ct → SameP p H H' → FrL H H' ct → Q .non H'
structure TbC (K : PySem.W.Frag) (C : Addr) : Prop where
  cl : Cls K C
  n1 : NoAttr K C "loss"
  n2 : NoAttr K C "bits"
  n3 : NoAttr K C "entries"
  n4 : NoAttr K C "inputs"
  n5 : NoAttr K C "most"
  n6 : NoAttr K C "classes"
theorem allE_mod {m b : Nat} {cs : Nat → Nat → Nat → Int} {n : Nat} {x : Int} (h : x ∈ allE m b cs n) : x % 2 ^ b = x := by
  unfold allE entC flatC rowC at h
  obtain ⟨g, _, h⟩ := List.mem_flatMap.mp h
  obtain ⟨r, _, h⟩ := List.mem_flatMap.mp h
  obtain ⟨j, _, rfl⟩ := List.mem_map.mp h
  exact em_self
theorem TupI.sp {H H' : Hp} {a p : Addr} {xs : List Int} (h : TupI H a xs) (s : SameP p H H') (n : a ≠ p) : TupI H' a xs := s _ _ h n
section
variable {P : Program} {w : World} {K : PySem.W.Frag} {mg : Str → Option Value} {base : Heap}
abbrev s_count_points : Stmt := top 9
abbrev N_count_points : List Str := ["loss", "bits"]
theorem sc_count_points : FnScope N_count_points ["loss", "bits"] (defScope s_count_points) := ⟨rfl, rfl, rfl, by decide +kernel, rfl, by decide +kernel, by decide +kernel⟩
theorem ok_count_points {f : Addr} {fd : FuncData} (F : Fun K "count_points" "count_points" s_count_points f fd) (T : Glob mg) (g_sum : mg "sum" = none) (D_count_vectors : Df P w K mg base 3 "count_vectors" ["count", "bits"] spCountV) : FnOk P w K mg base CX0 4 f fd ["loss", "bits"] spCountQ := by
  refine F.ok sc_count_points (fun vs H Q E h => ?_) (fun cdv A outer s H vs Q E hr h => ?_)
  · obtain ⟨a, ds, b, rfl, _⟩ := h
    rfl
  · obtain ⟨a, ds, b, rfl, ha, hl, hs, hb1, hb, hv, kq⟩ := h
    have nd := sc_count_points.nd
    refine ⟨_, (pss_one (ps_ret (pe_op op_shl (pe_call D_count_vectors.ok (hr.mono (by decide)) (by rfl) D_count_vectors.g D_count_vectors.kp D_count_vectors.b .nil pass0 (pa_cons (pe_callB call_len_seq (by rfl) T.g_len PySem.boot_len (pa_cons (pv 0) pa_nil)) (pa_cons (pv 1) pa_nil))) (pe_callB (cr_sumK (K := K) rfl rfl) (by rfl) g_sum (by decide +kernel) (pa_cons (pv 0) pa_nil))))), ?_⟩
    refine ⟨_, rfl, a, _, rfl, .inr (SqT.of ha), _, rfl, ds.length, b, ?_, hl, hb1, hb, fun H1 s1 => ?_⟩
    · unfold dI
      rw [List.length_map, List.length_map]
      rfl
    refine ⟨_, rfl, true, a, _, rfl, sqK_t (SqT.of (ha.same s1)), ?_⟩
    rw [show (dI ds).sum = (ds.sum : Int) from nat_sum ds]
    exact ⟨_, _, rfl, rfl, ⟨by omega, by omega, by omega⟩, kq H1 s1⟩
abbrev N_Table_init : List Str := ["self", "loss", "bits", "entries", "entry"]
end
end My

set_option pp.maxSteps 300
set_option Elab.async false
set_option linter.all false
set_option maxRecDepth 100000
set_option maxHeartbeats 1000000
namespace My
open PySem L2 MyR
/-- the class of a point -/
def gA (ds : List Nat) (xs : List Int) : Nat → Int
  | 0 => 0
  | i + 1 => gA ds xs i * 2 ^ (ds.getD i 0) + xs.getD i 0 % 2 ^ (ds.getD i 0)
def sA (ds : List Nat) : Nat → Nat
  | 0 => 0
  | i + 1 => sA ds i + ds.getD i 0
theorem gA_lt (ds : List Nat) (xs : List Int) : ∀ i, 0 ≤ gA ds xs i ∧ gA ds xs i < 2 ^ sA ds i
  | 0 => ⟨Int.le_refl _, by show (0 : Int) < 2 ^ 0; decide⟩
  | i + 1 => by
    obtain ⟨h1, h2⟩ := gA_lt ds xs i
    have hp := p2_pos (ds.getD i 0)
    have h3 := Int.emod_nonneg (xs.getD i 0) (show (2 : Int) ^ (ds.getD i 0) ≠ 0 by omega)
    have h4 := Int.emod_lt_of_pos (xs.getD i 0) hp
    have h5 : gA ds xs i * 2 ^ (ds.getD i 0) ≤ (2 ^ sA ds i - 1) * 2 ^ (ds.getD i 0) := Int.mul_le_mul_of_nonneg_right (by omega) (by omega)
    have h6 : 0 ≤ gA ds xs i * 2 ^ (ds.getD i 0) := Int.mul_nonneg h1 (by omega)
    rw [Int.sub_mul, Int.one_mul, ← Int.pow_add] at h5
    show 0 ≤ gA ds xs i * 2 ^ (ds.getD i 0) + xs.getD i 0 % 2 ^ (ds.getD i 0) ∧ gA ds xs i * 2 ^ (ds.getD i 0) + xs.getD i 0 % 2 ^ (ds.getD i 0) < 2 ^ (sA ds i + ds.getD i 0)
    omega
/-- what a table tells at a point -/
def valT (b : Nat) (cs : Nat → Nat → Nat → Int) : List Nat → List Int → Int
  | [d], [x] => val1 b (cs (gA [d] [x] 1).toNat) (x / 2 ^ d)
  | [d1, d2], [x1, x2] => val2 b (cs (gA [d1, d2] [x1, x2] 2).toNat) (x1 / 2 ^ d1) (x2 / 2 ^ d2)
  | _, _ => 0
theorem valT_lt (b : Nat) (cs : Nat → Nat → Nat → Int) (ds : List Nat) (xs : List Int) : 0 ≤ valT b cs ds xs ∧ valT b cs ds xs < 2 ^ b := by
  have hp := p2_pos b
  unfold valT
  split
  · exact ⟨Int.emod_nonneg _ (by omega), Int.emod_lt_of_pos _ hp⟩
  · exact ⟨Int.emod_nonneg _ (by omega), Int.emod_lt_of_pos _ hp⟩
  · exact ⟨Int.le_refl _, hp⟩
def plc (b : Nat) (ds : List Nat) (xs : List Int) (i : Nat) : Int := xs.getD i 0 / 2 ^ (ds.getD i 0) % 2 ^ b
def spWorth (K : PySem.W.Frag) (C : Addr) : Sp := fun vs H Q _ => ∃ (t pt : Addr) (k : Bool) (ds : List Nat) (xs : List Int) (b : Nat) (cs : Nat → Nat → Nat → Int) (dx lt et ct : Addr), vs = [.ref t, .ref pt] ∧ TbAt C H t ds b cs dx lt et ct ∧ TbOk ds b cs ∧ SqK k K H pt (xs.map V.int) ∧ xs.length = ds.length ∧
  ∀ H', Same H H' → Q (.int (valT b cs ds xs)) H'
theorem SqK.ext {k : Bool} {K : PySem.W.Frag} {H H' : Hp} {a : Addr} {xs : List V} (h : SqK k K H a xs) (s : Same H H') : SqK k K H' a xs := by
  cases k
  · exact SqL.ext h s
  · exact SqT.ext h s
section
variable {P : Program} {w : World} {K : PySem.W.Frag} {mg : Str → Option Value} {base : Heap}
abbrev N_Table_worth : List Str := ["self", "point", "mask", "number", "place", "depth", "x"]
end
end My

set_option pp.maxSteps 300
set_option Elab.async false
set_option linter.all false
set_option maxRecDepth 100000
set_option maxHeartbeats 1000000
namespace My
open PySem L2 MyR
def spTCall (K : PySem.W.Frag) (C : Addr) : Sp := fun vs H Q _ => ∃ (t pt : Addr) (k : Bool) (bv : V) (l : Nat) (ds : List Nat) (xs : List Int) (b : Nat) (cs : Nat → Nat → Nat → Int) (dx lt et ct : Addr), vs = [.ref t, .ref pt, bv] ∧ ((bv = .non ∧ l = b) ∨ bv = .int (l : Int)) ∧ l ≤ 64 ∧ TbAt C H t ds b cs dx lt et ct ∧ TbOk ds b cs ∧ SqK k K H pt (xs.map V.int) ∧ xs.length = ds.length ∧
  ∀ H', Same H H' → Q (.int (valT b cs ds xs % 2 ^ l)) H'
def spTw : Sp := fun vs H Q _ => ∃ n : Nat, vs = [.int (n : Int)] ∧ Q (.int (tw n : Int)) H
/-- binomials of a number -/
def bnL (z : Int) (n : Nat) : List Int := (List.range n).map (bn z)
def spBin : Sp := fun vs H Q _ => ∃ (z : Int) (n : Nat), vs = [.int z, .int (n : Int)] ∧ 1 ≤ n ∧ n ≤ 70 ∧ -(2 ^ 110) < z ∧ z < 2 ^ 110 ∧ ∀ (L : Addr) H', H L = none → Same H H' → LI H' L (bnL z n) → Q (.ref L) H'
theorem bn_bits {z : Int} (h1 : -(2 ^ 110) < z) (h2 : z < 2 ^ 110) : ∀ k, k ≤ 70 → (bn z k).natAbs < 2 ^ (111 * k + 1)
  | 0, _ => by
    show (1 : Nat) < 2 ^ 1
    decide
  | k + 1, h => by
    have ih := bn_bits h1 h2 k (by omega)
    have hz : (z - (k : Int)).natAbs ≤ 2 ^ 111 := by
      have e1 : (2 : Int) ^ 110 = 1298074214633706907132624082305024 := by decide
      have e2 : (2 : Nat) ^ 111 = 2596148429267413814265248164610048 := by decide
      omega
    have hm : (bn z k * (z - (k : Int))).natAbs < 2 ^ (111 * (k + 1) + 1) := by
      rw [Int.natAbs_mul, show 111 * (k + 1) + 1 = 111 * k + 1 + 111 by omega, Nat.pow_add]
      exact Nat.lt_of_le_of_lt (Nat.mul_le_mul_left _ hz) (Nat.mul_lt_mul_of_pos_right ih (by decide))
    show (bn z k * (z - (k : Int)) / ((k : Int) + 1)).natAbs < _
    exact Nat.lt_of_le_of_lt (Int.natAbs_ediv_le_natAbs _ _) hm
section
variable {P : Program} {w : World} {K : PySem.W.Frag} {mg : Str → Option Value} {base : Heap}
abbrev N_Table_call : List Str := ["self", "point", "bits"]
abbrev s_law_twos : Stmt := top 21
abbrev N_law_twos : List Str := ["_law_number", "_law_found"]
theorem sc_law_twos : FnScope N_law_twos ["_law_number"] (defScope s_law_twos) := ⟨rfl, rfl, rfl, by decide +kernel, rfl, by decide +kernel, by decide +kernel⟩
theorem ok_law_twos {f : Addr} {fd : FuncData} (F : Fun K "_law_twos" "_law_twos" s_law_twos f fd) : FnOk P w K mg base CX0 1 f fd ["_law_number"] spTw := by
  refine F.ok sc_law_twos (fun vs H Q E h => ?_) (fun cdv A outer s H vs Q E hr h => ?_)
  · obtain ⟨n, rfl, _⟩ := h
    rfl
  · obtain ⟨n, rfl, kq⟩ := h
    have nd := sc_law_twos.nd
    refine ⟨_, (pss_cons (ps_set (i := 1) nd rfl (Or.inl rfl) pe_int)
    (pss_cons (ps_while PassesOwn.never (pt_cmpR op_gt (pv 0) pe_int (nomark _))
    (pss_cons (ps_set (i := 0) nd rfl (Or.inl rfl) (pe_op op_fdiv (pv 0) pe_int))
    (pss_one (ps_set (i := 1) nd rfl (Or.inl rfl) (pe_op op_add (pv 1) (pv 0))))))
    (pss_one (ps_ret (pv 1))))), ?_⟩
    refine seq_by (fun σ H1 => H1 = H ∧ σ = [some (.int (n : Int)), some (.int 0)]) (fun D' hD' => hD' _ _ ⟨rfl, rfl⟩) ?_
    rintro σ H1 ⟨rfl, rfl⟩
    refine seq_by (fun σ H2 => H2 = H1 ∧ ∃ a0 : Option V, σ = [a0, some (.int (tw n : Int))]) (fun D' hD' => ?_) ?_
    · refine while_by (fun σ H2 => H2 = H1 ∧ ∃ f l : Nat, σ = [some (.int (l : Int)), some (.int (f : Int))] ∧ f + tw l = tw n) (fun σ _ => match σ with | [some (.int l), _] => l.toNat | _ => 0)
        ⟨rfl, 0, n, rfl, Nat.zero_add _⟩ ?_ ?_
      · rintro σ H2 ⟨rfl, f, l, rfl, hf⟩
        refine ⟨_, rfl, _, _, rfl, rfl, _, rfl, ?_⟩
        refine ite2 (fun h => ?_) (fun h => ?_)
        · have hl : 0 < l := by
            have := of_decide_eq_true h
            omega
          refine ⟨_, rfl, _, _, rfl, rfl, ⟨by decide, by decide⟩, _, rfl, _, rfl, _, _, rfl, rfl, ?_⟩
          refine ⟨⟨rfl, f + l / 2, l / 2, rfl, ?_⟩, ?_⟩
          · rw [tw_pos (show l ≠ 0 by omega)] at hf
            omega
          · show ((l : Int) / 2).toNat < ((l : Int)).toNat
            omega
        · have hl : l = 0 := by
            by_cases z : 0 < l
            · exact absurd (decide_eq_true (by omega)) h
            · omega
          subst hl
          have : f = tw n := hf
          subst this
          exact hD' _ _ ⟨rfl, _, rfl⟩
      · intro σ H1 Q Q' f h
        obtain ⟨x, e1, i, j, e2, e3, b1, eb, hc⟩ := h
        exact ⟨x, e1, i, j, e2, e3, b1, eb, f _ _ hc⟩
    rintro σ H2 ⟨rfl, a0, rfl⟩
    exact ⟨_, rfl, kq⟩
abbrev s_law_row : Stmt := top 25
abbrev N_law_row : List Str := ["_law_top", "_law_many", "_law_found", "_law_k"]
theorem sc_law_row : FnScope N_law_row ["_law_top", "_law_many"] (defScope s_law_row) := ⟨rfl, rfl, rfl, by decide +kernel, rfl, by decide +kernel, by decide +kernel⟩
theorem ok_law_row {f : Addr} {fd : FuncData} (F : Fun K "_law_row" "_law_row" s_law_row f fd) (T : Glob mg) : FnOk P w K mg base CX0 1 f fd ["_law_top", "_law_many"] spBin := by
  refine F.ok sc_law_row (fun vs H Q E h => ?_) (fun cdv A outer s H vs Q E hr h => ?_)
  · obtain ⟨z, n, rfl, _⟩ := h
    rfl
  · obtain ⟨z, n, rfl, hn1, hn, hz1, hz2, kq⟩ := h
    have nd := sc_law_row.nd
    refine ⟨_, (pss_cons (ps_set (i := 2) nd rfl (Or.inl rfl) (pe_lst (pa_cons pe_int pa_nil)))
    (pss_cons (ps_for PassesOwn.never rfl (pi_range1 (by rfl) T.g_range (pa_cons (pe_op op_sub (pv 1) pe_int) pa_nil)) (pg_name (i := 3) nd rfl (Or.inl rfl))
    (pss_one (ps_expr (pe_bm PySem.F.plainAttrs_list PySem.F.slot_list_append PySem.F.type_list_append mt_append (pv 2) (pa_cons (pe_op op_fdiv (pe_op op_mulX (pe_ix ix_list (pv 2) (pe_un un_neg pe_int) (fun _ _ => rfl)) (pe_op op_sub (pv 0) (pv 3))) (pe_op op_add (pv 3) pe_int)) pa_nil)))))
    (pss_one (ps_ret (pv 2))))), ?_⟩
    refine seq_by (fun σ H1 => ∃ L : Addr, σ = [some (.int z), some (.int (n : Int)), some (.ref L), none] ∧ Same H H1 ∧ LI H1 L (bnL z 1) ∧ H L = none) (fun D' hD' => ?_) ?_
    · exact ⟨(by show 1 ≤ sizeLine; decide), fun L hL => hD' _ _ ⟨L, rfl, new_same hL, upd_same, hL⟩⟩
    rintro σ H1 ⟨L, rfl, s1, hl1, hLn⟩
    refine ⟨_, rfl, _, _, rfl, rfl, ((n - 1 : Nat) : Int), by show [V.int ((n : Int) - 1)] = _; rw [show (n : Int) - 1 = ((n - 1 : Nat) : Int) from by omega], by omega, by omega, ?_⟩
    rw [Int.toNat_natCast]
    refine for_range (lo := 0) (n := n - 1) (fun i σ H2 => ∃ a3 : Option V, σ = [some (.int z), some (.int (n : Int)), some (.ref L), a3] ∧ Same H H2 ∧ LI H2 L (bnL z (i + 1))) ⟨none, rfl, s1, hl1⟩ ?_ ?_
    · rintro i σ H2 hi ⟨a3, rfl, s2, h2⟩
      have e0 : (0 : Int) + (i : Int) = (i : Int) := by omega
      have hat : atI ((bnL z (i + 1)).map V.int) (-1) = some (.int (bn z i)) := by
        unfold bnL
        rw [List.range_succ, List.map_append, List.map_append]
        exact atI_last _ _
      have hbits := bn_bits hz1 hz2 i (by omega)
      have hzb : (z - (i : Int)).natAbs < 2 ^ 112 := by
        have e1 : (2 : Int) ^ 110 = 1298074214633706907132624082305024 := by decide
        have e2 : (2 : Nat) ^ 112 = 5192296858534827628530496329220096 := by decide
        omega
      refine ⟨_, rfl, .inl ⟨rfl, _, SqL.of h2⟩, _, rfl, _, rfl, L, _, _, _, rfl, rfl, SqL.of h2, hat, _, rfl, _, rfl, _, _, rfl, rfl, _, _, rfl, rfl, ?_⟩
      rw [e0]
      refine ⟨mulx_ok hbits hzb (by omega), _, rfl, _, _, rfl, rfl, _, _, rfl, rfl, ⟨by omega, by omega⟩, L, _, _, rfl, rfl, h2, ?_, ?_⟩
      · unfold bnL
        rw [List.length_map, List.length_map, List.length_range, sizeLine_eq]
        omega
      refine ⟨_, rfl, same_up s2 hLn, ?_⟩
      have e : bnL z (i + 1 + 1) = bnL z (i + 1) ++ [bn z (i + 1)] := by
        unfold bnL
        rw [List.range_succ (n := i + 1), List.map_append]
        rfl
      rw [e]
      exact li_snoc
    · rintro σ H2 ⟨a3, rfl, s2, h2⟩
      rw [show n - 1 + 1 = n by omega] at h2
      exact ⟨_, rfl, kq L H2 hLn s2 h2⟩
end
end My

set_option pp.maxSteps 300
set_option Elab.async false
set_option linter.all false
set_option maxRecDepth 100000
set_option maxHeartbeats 1000000
namespace My
open PySem L2 MyR
def dV (b m : Nat) : List (List Int) := (vecs m b).map dI
def spVecs (m : Nat) : Sp := fun vs H Q _ => ∃ b : Nat, vs = [.int (m : Int), .int (b : Int)] ∧ 1 ≤ b ∧ b ≤ 64 ∧ (vecs m b).length < 5000 ∧ m < 100 ∧ ∀ (L : Addr) H', H L = none → Same H H' → LTI H' L (dV b m) → Q (.ref L) H'
theorem LTI.lenV {H : Hp} {a : Addr} {xss : List (List Int)} (h : LTI H a xss) : ∃ vs : List V, H a = some (.lst vs) ∧ vs.length = xss.length ∧ ∀ (i : Nat) xs, xss[i]? = some xs → ∃ p, vs[i]? = some (.ref p) ∧ TupI H p xs := by
  obtain ⟨as, e1, e2, e3⟩ := h
  refine ⟨_, e1, by rw [List.length_map]; exact e2, fun i xs e => ?_⟩
  obtain ⟨p, q1, q2⟩ := e3 i xs e
  exact ⟨p, by rw [List.getElem?_map, q1]; rfl, q2⟩
theorem lti_app {H : Hp} {D p : Addr} {xss : List (List Int)} {xs : List Int} (h : LTI H D xss) (hp : TupI H p xs) (hl : xss.length < 16000000) :
    ∃ acc, H D = some (.lst acc) ∧ acc.length < sizeLine ∧ LTI (upd H D (.lst (acc ++ [.ref p]))) D (xss ++ [xs]) := by
  obtain ⟨as, e1, e2, e3⟩ := h
  exact ⟨_, e1, by rw [List.length_map, e2, sizeLine_eq]; omega, lti_snoc e1 e2 e3 hp⟩
theorem lti_ext {H : Hp} {D G : Addr} {xss yss : List (List Int)} {us ws : List V} (h : LTI H D xss) (g : LTI H G yss) (hu : H D = some (.lst us)) (hw : H G = some (.lst ws)) : LTI (upd H D (.lst (us ++ ws))) D (xss ++ yss) := by
  obtain ⟨as, e1, e2, e3⟩ := h
  obtain ⟨bs, f1, f2, f3⟩ := g
  rw [hu] at e1
  rw [hw] at f1
  have e1 := HO.lst.inj (Option.some.inj e1)
  have f1 := HO.lst.inj (Option.some.inj f1)
  subst e1 f1
  have nt : ∀ q ys, TupI H q ys → q ≠ D := fun q ys e z => by
    rw [z] at e
    have e : H D = _ := e
    rw [hu] at e
    cases e
  refine ⟨as ++ bs, by rw [upd_same, List.map_append], by rw [List.length_append, List.length_append, e2, f2], fun i xs e => ?_⟩
  by_cases hi : i < xss.length
  · rw [List.getElem?_append_left hi] at e
    obtain ⟨p, q1, q2⟩ := e3 i xs e
    exact ⟨p, by rw [List.getElem?_append_left (by omega)]; exact q1, by show upd H D _ p = _; rw [upd_ne (nt p xs q2)]; exact q2⟩
  · rw [List.getElem?_append_right (by omega)] at e
    obtain ⟨p, q1, q2⟩ := f3 _ xs e
    exact ⟨p, by rw [List.getElem?_append_right (by omega), e2]; exact q1, by show upd H D _ p = _; rw [upd_ne (nt p xs q2)]; exact q2⟩
/-- the vectors that begin with fewer than n -/
def vecsTo (m b n : Nat) : List (List Nat) := (List.range n).flatMap fun j => (vecs m (b - tw j)).map (j :: ·)
theorem vecsTo_succ (m b n : Nat) : vecsTo m b (n + 1) = vecsTo m b n ++ (vecs m (b - tw n)).map (n :: ·) := by
  unfold vecsTo
  rw [List.range_succ, List.flatMap_append]
  simp
theorem vecsTo_le (m b : Nat) : ∀ n k, n ≤ k → (vecsTo m b n).length ≤ (vecsTo m b k).length := by
  intro n k h
  induction k with
  | zero =>
    have : n = 0 := by omega
    rw [this]
    exact Nat.le_refl _
  | succ k ih =>
    by_cases e : n = k + 1
    · rw [e]
      exact Nat.le_refl _
    · rw [vecsTo_succ, List.length_append]
      have := ih (by omega)
      omega
theorem vecs_mem : ∀ (m b : Nat) v, v ∈ vecs m b → v.length = m
  | 0, b, v, h => by
    have h : v ∈ [([] : List Nat)] := h
    rw [List.mem_singleton.mp h]
    rfl
  | m + 1, b, v, h => by
    have h : v ∈ (List.range (W b)).flatMap fun j => (vecs m (b - tw j)).map (j :: ·) := h
    obtain ⟨j, _, h⟩ := List.mem_flatMap.mp h
    obtain ⟨u, hu, rfl⟩ := List.mem_map.mp h
    rw [List.length_cons, vecs_mem m _ u hu]
section
variable {P : Program} {w : World} {K : PySem.W.Frag} {mg : Str → Option Value} {base : Heap}
theorem op_catAN {X : Cx} {K : PySem.W.Frag} (h : X.K = K) : OpR X (binaryOp .Add) (rCatA K) := h ▸ op_catA
abbrev s_law_vectors : Stmt := top 22
abbrev N_law_vectors : List Str := ["_law_many", "_law_wide", "_law_found", "_law_j", "_law_rest"]
theorem sc_law_vectors : FnScope N_law_vectors ["_law_many", "_law_wide"] (defScope s_law_vectors) := ⟨rfl, rfl, rfl, by decide +kernel, rfl, by decide +kernel, by decide +kernel⟩
theorem ok_law_vectors {f : Addr} {fd : FuncData} (F : Fun K "_law_vectors" "_law_vectors" s_law_vectors f fd) (T : Glob mg) (D_law_twos : Df P w K mg base 1 "_law_twos" ["_law_number"] spTw) (g : mg "_law_vectors" = some (.ref f)) (kp : PySem.W.keepIn K (.ref f) = true) (bb : Binds K fd ["_law_many", "_law_wide"] []) :
    ∀ m, FnOk P w K mg base CX0 (m + 2) f fd ["_law_many", "_law_wide"] (spVecs m)
  | 0 => by
    refine F.ok sc_law_vectors (fun vs H Q E h => ?_) (fun cdv A outer s H vs Q E hr h => ?_)
    · obtain ⟨b, rfl, _⟩ := h
      rfl
    · obtain ⟨b, rfl, hb1, hb, hv, hm, kq⟩ := h
      have nd := sc_law_vectors.nd
      refine ⟨_, (pss_cons (ps_if (pt_cmpR op_eq (pv 0) pe_int (nomark _))
      (pss_one (ps_ret (pe_lst (pa_cons (pe_tup pa_nil) pa_nil))))
      pss_nil)
      (pss_cons ps_never (pss_cons ps_never (pss_one ps_never)))), ?_⟩
      refine ⟨_, rfl, rfl, _, rfl, iteT ?_⟩
      refine ⟨(by show 0 ≤ sizeLine; decide), fun t ht => ⟨(by show 1 ≤ sizeLine; decide), fun L hL => ?_⟩⟩
      have s1 := new_same (o := .tup []) ht
      have s2 := new_same (o := .lst [.ref t]) hL
      refine kq L _ (same_free s1 hL) (s1.trans s2) ⟨[t], upd_same, rfl, fun i xs e => ?_⟩
      match i, e with
      | 0, e =>
        cases e
        exact ⟨t, rfl, s2 _ _ upd_same⟩
      | i + 1, e => simp [dV, vecs] at e
  | m + 1 => by
    have ih := ok_law_vectors F T D_law_twos g kp bb m
    refine F.ok sc_law_vectors (fun vs H Q E h => ?_) (fun cdv A outer s H vs Q E hr h => ?_)
    · obtain ⟨b, rfl, _⟩ := h
      rfl
    · obtain ⟨b, rfl, hb1, hb, hv, hm, kq⟩ := h
      have nd := sc_law_vectors.nd
      refine ⟨_, (pss_cons (ps_if (pt_cmpR op_eq (pv 0) pe_int (nomark _))
      (pss_one ps_never)
      pss_nil)
      (pss_cons (ps_set (i := 2) nd rfl (Or.inl rfl) (pe_lst pa_nil))
      (pss_cons (ps_for PassesOwn.never rfl (pi_list (pe_lc (own := [("_law_j", 3)]) (g := gName 3) rfl nd (pi_range1 (by rfl) T.g_range (pa_cons (pe_op op_add (pe_op op_mul pe_int (pv 1)) pe_int) pa_nil)) (blkOk_by (N := N_law_vectors) (sc := defScope s_law_vectors) (by decide +kernel)) (fun _ _ _ _ _ => pg_name (i := 3) nd rfl (Or.inl rfl)) (fun _ _ _ _ _ => pts_one (pt_cmpR op_lt (pe_call D_law_twos.ok (hr.mono (by omega)) (by rfl) D_law_twos.g D_law_twos.kp D_law_twos.b .nil pass0 (pa_cons (pv 3) pa_nil)) (pv 1) (nomark _))) (fun _ _ _ _ _ => (pv 3)))) (pg_name (i := 3) nd rfl (Or.inr rfl))
      (pss_one (ps_expr (pe_bm PySem.F.plainAttrs_list PySem.F.slot_list_extend PySem.F.type_list_extend mt_extend (pv 2) (pa_cons (pe_lc (own := [("_law_rest", 4)]) (g := gName 4) (tt := tYes) rfl nd (pi_list (pe_call ih hr (by rfl) g kp bb .nil pass0 (pa_cons (pe_op op_sub (pv 0) pe_int) (pa_cons (pe_op op_sub (pv 1) (pe_call D_law_twos.ok (hr.mono (by omega)) (by rfl) D_law_twos.g D_law_twos.kp D_law_twos.b .nil pass0 (pa_cons (pv 3) pa_nil))) pa_nil)))) (blkOk_by (N := N_law_vectors) (sc := defScope s_law_vectors) (by decide +kernel)) (fun _ _ _ _ _ => pg_name (i := 4) nd rfl (Or.inl rfl)) (fun _ _ _ _ _ => pts_nil) (fun _ _ _ _ _ => (pe_op (op_catAN (K := K) rfl) (pe_tup (pa_cons (pv 3) pa_nil)) (pv 4)))) pa_nil)))))
      (pss_one (ps_ret (pv 2)))))), ?_⟩
      have zl : 16777216 = sizeLine := sizeLine_eq.symm
      have hm1 : ((m + 1 : Nat) : Int) ≠ 0 := by omega
      refine seq_by (fun σ H1 => H1 = H ∧ σ = [some (.int ((m + 1 : Nat) : Int)), some (.int (b : Int)), none, none, none]) (fun D' hD' => ?_) ?_
      · refine ⟨_, rfl, rfl, _, rfl, ?_⟩
        rw [decide_eq_false (fun z => hm1 (V.int.inj z))]
        exact iteF (hD' _ _ ⟨rfl, rfl⟩)
      rintro σ H1 ⟨rfl, rfl⟩
      refine seq_by (fun σ H2 => ∃ L : Addr, σ = [some (.int ((m + 1 : Nat) : Int)), some (.int (b : Int)), some (.ref L), none, none] ∧ Same H1 H2 ∧ LTI H2 L [] ∧ H1 L = none) (fun D' hD' => ?_) ?_
      · exact ⟨(by show 0 ≤ sizeLine; omega), fun L hL => hD' _ _ ⟨L, rfl, new_same hL, ⟨[], upd_same, rfl, fun i xs e => by simp at e⟩, hL⟩⟩
      rintro σ H2 ⟨L, rfl, s2, hl2, hLn⟩
      have hW := W_66 hb
      have hWle := W_le b
      refine ⟨_, rfl, _, _, rfl, rfl, .inl ⟨by decide, by decide⟩, _, _, rfl, rfl, 2 * (b : Int) + 2, rfl, by omega, by omega, fun J hJ => ?_⟩
      rw [show (2 * (b : Int) + 2).toNat = 2 * b + 2 by omega]
      refine lc_it (n := 2 * b + 2) walk_range (fun i H3 => Same H2 H3 ∧ LI H3 J ((List.range (min i (W b))).map fun (j : Nat) => (j : Int))) ⟨new_same hJ, by rw [Nat.zero_min]; exact upd_same⟩ (fun _ _ _ _ => trivial) ?_ ?_
      · rintro j x H3 H4 hj ⟨s3, h3⟩ ⟨rfl, rfl⟩
        refine ⟨rfl, ?_⟩
        have e0 : (0 : Int) + (j : Int) = (j : Int) := by omega
        refine ⟨_, rfl, j, by show [V.int (0 + (j : Int))] = _; rw [e0], _, rfl, _, _, rfl, rfl, _, rfl, ?_⟩
        refine ite2 (fun h => ?_) (fun h => ?_)
        · have h : (tw j : Int) < (b : Int) := of_decide_eq_true h
          have hjW : j < W b := W_iff.mp (by omega)
          refine ⟨_, rfl, _, h3, by rw [List.length_map, List.length_map, List.length_range]; omega, same_up s3 hJ, ?_⟩
          rw [Nat.min_eq_left (by omega), Nat.min_eq_left (by omega), List.range_succ, List.map_append]
          have : V.int ((fun i => 0 + (i : Int)) j) = V.int (j : Int) := by show V.int (0 + (j : Int)) = _; rw [e0]
          show LI (upd H4 J (.lst (_ ++ [V.int (0 + (j : Int))]))) J _
          rw [e0]
          exact li_snoc
        · have hjW : ¬ j < W b := fun z => h (decide_eq_true (by have := W_iff.mpr z; omega))
          refine ⟨s3, ?_⟩
          rw [Nat.min_eq_right (by omega)] at h3 ⊢
          exact h3
      rintro H3 ⟨s3, h3⟩
      rw [Nat.min_eq_right hWle] at h3
      have hl3 := hl2.same s3
      refine ⟨J, rfl, ⟨_, SqL.of h3⟩, ?_⟩
      have hJL : ((((List.range (W b)).map fun (j : Nat) => (j : Int))).map V.int).length = W b := by rw [List.length_map, List.length_map, List.length_range]
      have nJL : J ≠ L := fun z => by
        obtain ⟨as, q, _⟩ := hl2
        rw [z, q] at hJ
        cases hJ
      have hvt : vecsTo m b (W b) = vecs (m + 1) b := rfl
      refine for_list (xs := (((List.range (W b)).map fun (j : Nat) => (j : Int))).map V.int) (fun j σ H4 => ∃ a3 a4 : Option V, σ = [some (.int ((m + 1 : Nat) : Int)), some (.int (b : Int)), some (.ref L), a3, a4] ∧ Same H1 H4 ∧ LI H4 J ((List.range (W b)).map fun (j : Nat) => (j : Int)) ∧ LTI H4 L ((vecsTo m b j).map dI))
        ⟨none, none, rfl, s2.trans s3, h3, hl3⟩ (fun j σ H4 _ h => by obtain ⟨_, _, _, _, h, _⟩ := h; exact SqL.of h) ?_ ?_
      · rintro j x σ H4 hx ⟨a3, a4, rfl, s4, hJ4, hl4⟩
        have hj : j < W b := by
          have := (List.getElem?_eq_some_iff.mp hx).1
          omega
        rw [map_at_int (at_range (f := fun (j : Nat) => (j : Int)) hj)] at hx
        obtain rfl := Option.some.inj hx
        have htj : tw j < b := W_iff.mpr hj
        obtain ⟨us, u1, u2, u3⟩ := hl4.lenV
        have hsub : (vecs m (b - tw j)).length ≤ (vecs (m + 1) b).length := by
          rw [← hvt]
          have h1 := vecsTo_le m b (j + 1) (W b) hj
          rw [vecsTo_succ, List.length_append, List.length_map] at h1
          omega
        refine ⟨_, rfl, .inl ⟨rfl, _, SqL.of u1⟩, _, rfl, _, _, rfl, rfl, _, rfl, _, rfl, j, rfl, _, _, rfl, rfl, b - tw j, ?_, by omega, by omega, by omega, by omega, fun V1 H5 hV1 s5 hl5 => ?_⟩
        · rw [show ((b - tw j : Nat) : Int) = (b : Int) - (tw j : Int) from by omega, show ((m : Nat) : Int) = ((m + 1 : Nat) : Int) - 1 from by omega]
          rfl
        obtain ⟨ws, w1, w2, w3⟩ := hl5.lenV
        refine ⟨V1, rfl, ⟨_, SqL.of w1⟩, fun G hG => ?_⟩
        refine lc_list (xs := ws) (fun i H6 => Same H5 H6 ∧ LTI H6 G (((vecs m (b - tw j)).take i).map fun v => dI (j :: v))) ⟨new_same hG, [], upd_same, rfl, fun i xs e => by simp at e⟩ (fun i H6 _ h => SqL.of (h.1 _ _ w1)) ?_ ?_
        · rintro i y H6 hy ⟨s6, h6⟩
          have hi : i < (vecs m (b - tw j)).length := by
            have := (List.getElem?_eq_some_iff.mp hy).1
            rw [w2] at this
            unfold dV at this
            rw [List.length_map] at this
            exact this
          have hvi := List.getElem?_eq_getElem hi
          obtain ⟨p, p1, p2⟩ := w3 i (dI (vecs m (b - tw j))[i]) (by unfold dV; rw [List.getElem?_map, hvi]; rfl)
          rw [hy] at p1
          obtain rfl := Option.some.inj p1
          refine ⟨rfl, ?_⟩
          dsimp only [tYes]
          rw [if_pos rfl]
          refine ⟨_, rfl, (by show 1 ≤ sizeLine; omega), fun t ht => ⟨_, rfl, ?_⟩⟩
          have s7' := new_same (o := .tup [V.int (j : Int)]) ht
          have s7 := s6.trans s7'
          have h7 := h6.same s7'
          have ht7 : TupI (upd H6 t (.tup [V.int (j : Int)])) t [(j : Int)] := upd_same
          have fin : ∀ (q : Addr) (H8 : Hp), Same (upd H6 t (.tup [V.int (j : Int)])) H8 → TupI H8 q (dI (j :: (vecs m (b - tw j))[i])) → ∃ acc, H8 G = some (.lst acc) ∧ acc.length < sizeLine ∧ Same H5 (upd H8 G (.lst (acc ++ [.ref q]))) ∧ LTI (upd H8 G (.lst (acc ++ [.ref q]))) G (((vecs m (b - tw j)).take (i + 1)).map fun v => dI (j :: v)) := fun q H8 s8 hq => by
            obtain ⟨acc, a1, a2, a3⟩ := lti_app (h7.same s8) hq (by rw [List.length_map, List.length_take]; omega)
            refine ⟨acc, a1, a2, same_up (s7.trans s8) hG, ?_⟩
            rw [List.take_succ, hvi, List.map_append]
            exact a3
          have p7 := (p2.same s6).same s7'
          refine ⟨t, p, _, _, rfl, rfl, SqT.of upd_same, SqT.of p7, ?_, fun e => (by cases e), fun _ e => ?_, fun _ ne q hq => ?_⟩
          · rw [List.length_map]
            unfold dI
            rw [List.length_map]
            have : (vecs m (b - tw j))[i].length = m := vecs_mem m _ _ (List.getElem_mem hi)
            rw [this]
            show 1 + m ≤ sizeLine
            omega
          · refine fin t _ (fun _ _ e => e) ?_
            have e2 : (vecs m (b - tw j))[i] = [] := by
              have := List.map_eq_nil_iff.mp e
              exact List.map_eq_nil_iff.mp this
            rw [e2]
            exact ht7
          · exact fin q _ (new_same hq) upd_same
        · rintro H6 ⟨s6, h6⟩
          rw [w2] at h6
          unfold dV at h6
          rw [List.length_map, List.take_length] at h6
          have s56 := s5.trans s6
          have hl6 := hl4.same s56
          obtain ⟨gs, g1, g2, g3⟩ := h6.lenV
          rw [List.length_map] at g2
          have hul : us.length ≤ 5000 := by
            rw [u2, List.length_map]
            have := vecsTo_le m b j (W b) (Nat.le_of_lt hj)
            rw [hvt] at this
            omega
          refine ⟨L, G, _, _, rfl, rfl, s56 _ _ u1, g1, by omega, ?_⟩
          refine ⟨_, _, rfl, same_up (s4.trans s56) hLn, (hJ4.same s56).updN nJL, ?_⟩
          rw [vecsTo_succ, List.map_append, List.map_map]
          exact lti_ext hl6 h6 (s56 _ _ u1) g1
      · rintro σ H4 ⟨a3, a4, rfl, s4, hJ4, hl4⟩
        rw [hJL, hvt] at hl4
        exact ⟨_, rfl, kq L H4 hLn s4 hl4⟩
end
end My

set_option pp.maxSteps 300
set_option Elab.async false
set_option linter.all false
set_option maxRecDepth 100000
set_option maxHeartbeats 1000000
namespace My
open PySem L2 MyR
theorem sA_le {ds : List Nat} (hm : ds.length = 1 ∨ ds.length = 2) (hs8 : ds.sum ≤ 8) : ∀ i, i ≤ ds.length → sA ds i ≤ 8 ∧ sA ds ds.length = ds.sum := fun i hi => by
  rcases hm with e | e
  · match ds, e with
    | [d], _ =>
      have : d ≤ 8 := by simpa using hs8
      match i, hi with
      | 0, _ => exact ⟨Nat.zero_le _, by show 0 + d = d + 0; omega⟩
      | 1, _ => exact ⟨by show 0 + d ≤ 8; omega, by show 0 + d = d + 0; omega⟩
  · match ds, e with
    | [d, d'], _ =>
      have : d + d' ≤ 8 := by simpa using hs8
      match i, hi with
      | 0, _ => exact ⟨Nat.zero_le _, by show 0 + d + d' = d + (d' + 0); omega⟩
      | 1, _ => exact ⟨by show 0 + d ≤ 8; omega, by show 0 + d + d' = d + (d' + 0); omega⟩
      | 2, _ => exact ⟨by show 0 + d + d' ≤ 8; omega, by show 0 + d + d' = d + (d' + 0); omega⟩
theorem gA_256 {ds : List Nat} (hm : ds.length = 1 ∨ ds.length = 2) (hs8 : ds.sum ≤ 8) (xs : List Int) : ∀ i, i ≤ ds.length → 0 ≤ gA ds xs i ∧ gA ds xs i < 256 := fun i hi => by
  obtain ⟨h1, h2⟩ := gA_lt ds xs i
  have h3 : (2 : Int) ^ sA ds i ≤ 2 ^ 8 := Int.le_of_dvd (by decide) (p2_dvd (sA_le hm hs8 i hi).1)
  exact ⟨h1, by have : (2 : Int) ^ 8 = 256 := by decide
                omega⟩
theorem d_le8 {ds : List Nat} (hm : ds.length = 1 ∨ ds.length = 2) (hs8 : ds.sum ≤ 8) : ∀ i, i < ds.length → ds.getD i 0 ≤ 8 := fun i hi => by
  have := (sA_le hm hs8 (i + 1) hi).1
  have e : sA ds (i + 1) = sA ds i + ds.getD i 0 := rfl
  omega
/-- the variables of a point -/
def vrI (ds : List Nat) (xs : List Int) (i : Nat) : Int := xs.getD i 0 / 2 ^ (ds.getD i 0)
def spClass : Sp := fun vs H Q _ => ∃ (pt lt : Addr) (ds : List Nat) (xs : List Int), vs = [.ref pt, .ref lt] ∧ TupI H pt xs ∧ TupI H lt (dI ds) ∧ xs.length = ds.length ∧ (ds.length = 1 ∨ ds.length = 2) ∧ ds.sum ≤ 8 ∧
  ∀ (T t2 : Addr) H', Same H H' → H' T = some (.tup [.int (gA ds xs ds.length), .ref t2]) → TupI H' t2 ((List.range ds.length).map (vrI ds xs)) → Q (.ref T) H'
section
variable {P : Program} {w : World} {K : PySem.W.Frag} {mg : Str → Option Value} {base : Heap}
abbrev s_law_class : Stmt := top 24
abbrev N_law_class : List Str := ["_law_spot", "_law_depths", "_law_at", "_law_number", "_law_depth"]
theorem sc_law_class : FnScope N_law_class ["_law_spot", "_law_depths"] (defScope s_law_class) := ⟨rfl, rfl, rfl, by decide +kernel, rfl, by decide +kernel, by decide +kernel⟩
theorem ok_law_class {f : Addr} {fd : FuncData} (F : Fun K "_law_class" "_law_class" s_law_class f fd) (T : Glob mg) : FnOk P w K mg base CX0 1 f fd ["_law_spot", "_law_depths"] spClass := by
  refine F.ok sc_law_class (fun vs H Q E h => ?_) (fun cdv A outer s H vs Q E hr h => ?_)
  · obtain ⟨pt, lt, ds, xs, rfl, _⟩ := h
    rfl
  · obtain ⟨pt, lt, ds, xs, rfl, hx, hl, hxl, hm, hs8, kq⟩ := h
    have nd := sc_law_class.nd
    refine ⟨_, (pss_cons (ps_set (i := 2) nd rfl (Or.inl rfl) pe_int)
    (pss_cons (ps_for PassesOwn.never rfl (pi_zipK (by rfl) T.g_zip (pa_cons (pv 0) (pa_cons (pv 1) pa_nil))) (pg_tup (by rfl) (pgs_cons (pg_name (i := 3) nd rfl (Or.inl rfl)) (pgs_cons (pg_name (i := 4) nd rfl (Or.inl rfl)) pgs_nil)))
    (pss_one (ps_set (i := 2) nd rfl (Or.inl rfl) (pe_op op_add (pe_op op_shl (pv 2) (pv 4)) (pe_op op_mod (pv 3) (pe_op op_shl pe_int (pv 4)))))))
    (pss_one (ps_ret (pe_tup (pa_cons (pv 2) (pa_cons (pe_callTy call_tuple_of (by rfl) T.g_tuple (by decide +kernel) (pa_cons (pe_lc (own := [("_law_number", 3), ("_law_depth", 4)]) (g := gTup K 2 (gCons (gName 3) (gCons (gName 4) gNil))) (tt := tYes) rfl nd (pi_zipK (by rfl) T.g_zip (pa_cons (pv 0) (pa_cons (pv 1) pa_nil))) (blkOk_by (N := N_law_class) (sc := defScope s_law_class) (by decide +kernel)) (fun _ _ _ _ _ => pg_tup (by rfl) (pgs_cons (pg_name (i := 3) nd rfl (Or.inl rfl)) (pgs_cons (pg_name (i := 4) nd rfl (Or.inl rfl)) pgs_nil))) (fun _ _ _ _ _ => pts_nil) (fun _ _ _ _ _ => (pe_op op_shrN (pv 3) (pv 4)))) pa_nil)) pa_nil))))))), ?_⟩
    have zl : 16777216 = sizeLine := sizeLine_eq.symm
    have hn2 : ds.length ≤ 2 := by omega
    refine seq_by (fun σ H2 => H2 = H ∧ σ = [some (.ref pt), some (.ref lt), some (.int 0), none, none]) (fun D' hD' => hD' _ _ ⟨rfl, rfl⟩) ?_
    rintro σ H ⟨rfl, rfl⟩
    have hlen2 : (xs.map V.int).length = ds.length := by rw [List.length_map, hxl]
    have hlen : (xs.map V.int).length = ((dI ds).map V.int).length := by rw [hlen2, List.length_map]; unfold dI; rw [List.length_map]
    have hat : ∀ {i : Nat} {x1 x2 : V}, i < ds.length → (xs.map V.int)[i]? = some x1 → ((dI ds).map V.int)[i]? = some x2 → x1 = .int (xs.getD i 0) ∧ x2 = .int ((ds.getD i 0 : Nat) : Int) := fun {i x1 x2} hi hx1 hx2 => by
      have hdi : ds[i]? = some (ds.getD i 0) := by rw [List.getD_eq_getElem?_getD, List.getElem?_eq_getElem hi]; rfl
      have hxi : xs[i]? = some (xs.getD i 0) := by rw [List.getD_eq_getElem?_getD, List.getElem?_eq_getElem (show i < xs.length by omega)]; rfl
      rw [map_at_int hxi] at hx1
      have hdI : (dI ds)[i]? = some ((ds.getD i 0 : Nat) : Int) := by unfold dI; rw [List.getElem?_map, hdi]; rfl
      rw [map_at_int hdI] at hx2
      exact ⟨(Option.some.inj hx1).symm, (Option.some.inj hx2).symm⟩
    refine seq_by (fun σ H3 => ∃ a3 a4 : Option V, σ = [some (.ref pt), some (.ref lt), some (.int (gA ds xs ds.length)), a3, a4] ∧ Same H H3) (fun D' hD' => ?_) ?_
    · refine ⟨_, rfl, _, rfl, true, true, pt, lt, _, _, rfl, sqK_t (SqT.of hx), sqK_t (SqT.of hl), ?_⟩
      refine for_it (walk_zipK hlen) (fun i σ H3 => ∃ a3 a4 : Option V, σ = [some (.ref pt), some (.ref lt), some (.int (gA ds xs i)), a3, a4] ∧ Same H H3)
        ⟨none, none, rfl, fun _ _ e => e⟩ (fun i σ H3 _ h => by obtain ⟨_, _, _, h⟩ := h; exact ⟨sqK_t (SqT.of (hx.same h)), sqK_t (SqT.of (hl.same h))⟩) ?_ ?_
      · rintro i x σ H3 H4 hi ⟨a3, a4, rfl, s3⟩ ⟨T', x1, x2, rfl, hT, rfl, hx1, hx2⟩
        rw [hlen2] at hi
        obtain ⟨rfl, rfl⟩ := hat hi hx1 hx2
        have s4 := s3.trans (new_same (o := .tup [V.int (xs.getD i 0), .int ((ds.getD i 0 : Nat) : Int)]) hT)
        refine ⟨T', _, rfl, SqT.of upd_same, rfl, _, _, rfl, _, _, rfl, rfl, ?_⟩
        generalize upd H3 T' (.tup [V.int (xs.getD i 0), .int ((ds.getD i 0 : Nat) : Int)]) = H4 at s4 ⊢
        have hd8 := d_le8 hm hs8 i hi
        have hg := gA_256 hm hs8 xs i (by omega)
        have hp := p2_pos (ds.getD i 0)
        refine ⟨_, rfl, _, rfl, _, _, rfl, rfl, ⟨by omega, by omega, by omega⟩, _, rfl, _, rfl, _, _, rfl, rfl, ⟨by omega, by omega, by decide⟩, _, _, rfl, rfl, ?_, _, _, rfl, rfl, some (.int (xs.getD i 0)), some (.int ((ds.getD i 0 : Nat) : Int)), ?_, s4⟩
        · rw [Int.toNat_natCast, Int.one_mul]
          exact hp
        · rw [Int.toNat_natCast, Int.one_mul]
          rfl
      · rintro σ H3 ⟨a3, a4, rfl, s3⟩
        refine hD' _ _ ⟨a3, a4, ?_, s3⟩
        rw [hlen2]
    rintro σ H3 ⟨a3, a4, rfl, s3⟩
    refine ⟨_, rfl, _, rfl, _, rfl, true, true, pt, lt, _, _, rfl, sqK_t (SqT.of (hx.same s3)), sqK_t (SqT.of (hl.same s3)), fun D hD => ?_⟩
    refine lc_it (walk_zipK hlen) (fun i H4 => Same H3 H4 ∧ LI H4 D ((List.range i).map (vrI ds xs))) ⟨new_same hD, upd_same⟩ (fun i H4 _ h => ⟨sqK_t (SqT.of (hx.same (s3.trans h.1))), sqK_t (SqT.of (hl.same (s3.trans h.1)))⟩) ?_ ?_
    · rintro i x H4 H5 hi ⟨s4, h4⟩ ⟨T', x1, x2, rfl, hT, rfl, hx1, hx2⟩
      rw [hlen2] at hi
      obtain ⟨rfl, rfl⟩ := hat hi hx1 hx2
      have s5' := new_same (o := .tup [V.int (xs.getD i 0), .int ((ds.getD i 0 : Nat) : Int)]) hT
      have s5 := s4.trans s5'
      have h5 := h4.same s5'
      refine ⟨T', _, rfl, SqT.of upd_same, rfl, _, _, rfl, _, _, rfl, rfl, rfl, ?_⟩
      dsimp only [tYes]
      rw [if_pos rfl]
      generalize upd H4 T' (.tup [V.int (xs.getD i 0), .int ((ds.getD i 0 : Nat) : Int)]) = H5 at s5 h5 ⊢
      refine ⟨_, rfl, _, rfl, _, ds.getD i 0, rfl, rfl, ?_⟩
      refine ⟨_, h5, by rw [List.length_map, List.length_map, List.length_range]; omega, same_up s5 hD, ?_⟩
      rw [List.range_succ, List.map_append]
      exact li_snoc
    · rintro H4 ⟨s4, h4⟩
      rw [hlen2] at h4
      refine ⟨D, _, rfl, .inl ⟨SqL.of h4, fun t ht => ?_⟩⟩
      have s5 := (s3.trans s4).trans (new_same (o := .tup (((List.range ds.length).map (vrI ds xs)).map V.int)) ht)
      exact ⟨(by show 2 ≤ sizeLine; omega), fun T2 hT2 => kq T2 t _ (s5.trans (new_same hT2)) upd_same (new_same hT2 _ _ upd_same)⟩
end
end My

set_option pp.maxSteps 300
set_option Elab.async false
set_option linter.all false
set_option maxRecDepth 100000
set_option maxHeartbeats 1000000
namespace My
open PySem L2 MyR
/-- the residues of the first i inputs -/
def resL (ds : List Nat) : Nat → List (List Int)
  | 0 => [[]]
  | i + 1 => (resL ds i).flatMap fun r => (List.range (2 ^ ds.getD i 0)).map fun (x : Nat) => r ++ [(x : Int)]
theorem resL_mem (ds : List Nat) : ∀ i r, r ∈ resL ds i → r.length = i
  | 0, r, h => by
    rw [List.mem_singleton.mp h]
    rfl
  | i + 1, r, h => by
    obtain ⟨q, hq, h⟩ := List.mem_flatMap.mp h
    obtain ⟨x, _, rfl⟩ := List.mem_map.mp h
    rw [List.length_append, resL_mem ds i q hq]
    rfl
theorem fm_const {α β : Type} {f : α → List β} {n : Nat} : ∀ {xs : List α}, (∀ x ∈ xs, (f x).length = n) → (xs.flatMap f).length = xs.length * n
  | [], _ => by rw [List.flatMap_nil]; exact (Nat.zero_mul n).symm
  | x :: xs, h => by
    rw [List.flatMap_cons, List.length_append, fm_const fun y hy => h y (List.mem_cons_of_mem _ hy), h x (List.mem_cons_self ..), List.length_cons, Nat.succ_mul, Nat.add_comm]
theorem resL_len (ds : List Nat) : ∀ i, (resL ds i).length = 2 ^ sA ds i
  | 0 => rfl
  | i + 1 => by
    show ((resL ds i).flatMap _).length = 2 ^ (sA ds i + ds.getD i 0)
    rw [fm_const (n := 2 ^ ds.getD i 0) fun r _ => by rw [List.length_map, List.length_range], resL_len ds i, Nat.pow_add]
theorem fm_split {α β : Type} (f : α → List β) (xs : List α) (i : Nat) (x : α) (h : xs[i]? = some x) : (xs.take (i + 1)).flatMap f = (xs.take i).flatMap f ++ f x := by
  rw [List.take_succ, h, List.flatMap_append]
  simp
theorem fm_take_le {α β : Type} (f : α → List β) (xs : List α) (i : Nat) : ((xs.take i).flatMap f).length ≤ (xs.flatMap f).length := by
  have : xs.flatMap f = (xs.take i).flatMap f ++ (xs.drop i).flatMap f := by rw [← List.flatMap_append, List.take_append_drop]
  rw [this, List.length_append]
  omega
/-- a spot -/
def spotI (ds : List Nat) (r v : List Int) : List Int := (List.range ds.length).map fun i => r.getD i 0 + v.getD i 0 * 2 ^ ds.getD i 0
def spotsL (ds : List Nat) (b : Nat) : List (List Int) := (resL ds ds.length).flatMap fun r => (dV b ds.length).map (spotI ds r)
def spSpots : Sp := fun vs H Q _ => ∃ (lt : Addr) (ds : List Nat) (b : Nat), vs = [.ref lt, .int (b : Int)] ∧ TupI H lt (dI ds) ∧ (ds.length = 1 ∨ ds.length = 2) ∧ ds.sum ≤ 8 ∧ 1 ≤ b ∧ b ≤ 64 ∧ (vecs ds.length b).length < 5000 ∧ ∀ (L : Addr) H', H L = none → Same H H' → LTI H' L (spotsL ds b) → Q (.ref L) H'
/-- a list of tuples, its values told -/
def LTV (H : Hp) (R : Addr) (us : List V) (xss : List (List Int)) : Prop := H R = some (.lst us) ∧ us.length = xss.length ∧ ∀ (i : Nat) xs, xss[i]? = some xs → ∃ p, us[i]? = some (.ref p) ∧ TupI H p xs
theorem LTV.same {H H' : Hp} {R : Addr} {us : List V} {xss : List (List Int)} (h : LTV H R us xss) (s : Same H H') : LTV H' R us xss := ⟨s _ _ h.1, h.2.1, fun i xs e => let ⟨p, q1, q2⟩ := h.2.2 i xs e; ⟨p, q1, q2.same s⟩⟩
theorem LTV.updL {H : Hp} {R L : Addr} {us vs : List V} {xss : List (List Int)} {o : HO} (h : LTV H R us xss) (n : R ≠ L) (hL : H L = some (.lst vs)) : LTV (upd H L o) R us xss :=
  ⟨by rw [upd_ne n]; exact h.1, h.2.1, fun i xs e => let ⟨p, q1, q2⟩ := h.2.2 i xs e; ⟨p, q1, by
    have np : p ≠ L := fun z => by
      have q2 : H p = _ := q2
      rw [z, hL] at q2
      cases q2
    show upd H L _ p = _
    rw [upd_ne np]
    exact q2⟩⟩
theorem LTV.at {H : Hp} {R : Addr} {us : List V} {xss : List (List Int)} (h : LTV H R us xss) {k : Nat} {x : V} (hx : us[k]? = some x) : ∃ (p : Addr) (xs : List Int), k < xss.length ∧ xss[k]? = some xs ∧ x = .ref p ∧ TupI H p xs := by
  have hk := (List.getElem?_eq_some_iff.mp hx).1
  rw [h.2.1] at hk
  obtain ⟨p, q1, q2⟩ := h.2.2 k _ (List.getElem?_eq_getElem hk)
  rw [hx] at q1
  exact ⟨p, _, hk, List.getElem?_eq_getElem hk, Option.some.inj q1, q2⟩
theorem vecs_ent {b : Nat} (hb : b ≤ 64) : ∀ (m b' : Nat) v, b' ≤ b → v ∈ vecs m b' → ∀ j ∈ v, j < 66
  | 0, b', v, _, h => by
    have h : v ∈ [([] : List Nat)] := h
    rw [List.mem_singleton.mp h]
    intro j hj
    cases hj
  | m + 1, b', v, hb', h => by
    have h : v ∈ (List.range (W b')).flatMap fun j => (vecs m (b' - tw j)).map (j :: ·) := h
    obtain ⟨j, hj, h⟩ := List.mem_flatMap.mp h
    obtain ⟨u, hu, rfl⟩ := List.mem_map.mp h
    have hj := List.mem_range.mp hj
    have hW := W_66 (show b' ≤ 64 by omega)
    intro k hk
    rcases List.mem_cons.mp hk with rfl | hk
    · omega
    · exact vecs_ent hb m _ u (by omega) hu k hk
def spVec12 : Sp := fun vs H Q E => ∃ m : Nat, (m = 1 ∨ m = 2) ∧ spVecs m vs H Q E
section
variable {P : Program} {w : World} {K : PySem.W.Frag} {mg : Str → Option Value} {base : Heap}
abbrev s_law_spots : Stmt := top 23
abbrev N_law_spots : List Str := ["_law_depths", "_law_wide", "_law_found", "_law_residues", "_law_depth", "_law_wider", "_law_residue", "_law_r", "_law_place", "_law_spot", "_law_z"]
theorem sc_law_spots : FnScope N_law_spots ["_law_depths", "_law_wide"] (defScope s_law_spots) := ⟨rfl, rfl, rfl, by decide +kernel, rfl, by decide +kernel, by decide +kernel⟩
theorem ok_law_vec12 {f : Addr} {fd : FuncData} (h : ∀ m, FnOk P w K mg base CX0 (m + 2) f fd ["_law_many", "_law_wide"] (spVecs m)) : FnOk P w K mg base CX0 4 f fd ["_law_many", "_law_wide"] spVec12 := by
  refine ⟨fun vs H Q E ⟨m, hm, e⟩ => (h m).len vs H Q E e, fun A outer s H args us vs Q E hr he hb hv ⟨m, hm, hs⟩ => ?_⟩
  exact ((h m).mono (show m + 2 ≤ 4 by omega)).run A outer s H args us vs Q E hr he hb hv hs
theorem ok_law_spots {f : Addr} {fd : FuncData} (F : Fun K "_law_spots" "_law_spots" s_law_spots f fd) (T : Glob mg) (D_law_vectors : Df P w K mg base 4 "_law_vectors" ["_law_many", "_law_wide"] spVec12) : FnOk P w K mg base CX0 5 f fd ["_law_depths", "_law_wide"] spSpots := by
  refine F.ok sc_law_spots (fun vs H Q E h => ?_) (fun cdv A outer s H vs Q E hr h => ?_)
  · obtain ⟨lt, ds, b, rfl, _⟩ := h
    rfl
  · obtain ⟨lt, ds, b, rfl, hl, hm, hs8, hb1, hb, hv, kq⟩ := h
    have nd := sc_law_spots.nd
    refine ⟨_, (pss_cons (ps_par (i := 2) (j := 3) rfl nd rfl rfl (by decide) rfl rfl (pa_cons (pe_lst pa_nil) (pa_cons (pe_lst (pa_cons (pe_tup pa_nil) pa_nil)) pa_nil)) (by rfl))
    (pss_cons (ps_for PassesOwn.never rfl (pi_tup (pv 0)) (pg_name (i := 4) nd rfl (Or.inl rfl))
    (pss_cons (ps_set (i := 5) nd rfl (Or.inl rfl) (pe_lst pa_nil))
    (pss_cons (ps_for PassesOwn.never rfl (pi_list (pv 3)) (pg_name (i := 6) nd rfl (Or.inr rfl))
    (pss_one (ps_expr (pe_bm PySem.F.plainAttrs_list PySem.F.slot_list_extend PySem.F.type_list_extend mt_extend (pv 5) (pa_cons (pe_lc (own := [("_law_r", 7)]) (g := gName 7) (tt := tYes) rfl nd (pi_range1 (by rfl) T.g_range (pa_cons (pe_op op_shl pe_int (pv 4)) pa_nil)) (blkOk_by (N := N_law_spots) (sc := defScope s_law_spots) (by decide +kernel)) (fun _ _ _ _ _ => pg_name (i := 7) nd rfl (Or.inl rfl)) (fun _ _ _ _ _ => pts_nil) (fun _ _ _ _ _ => (pe_op (op_catAN (K := K) rfl) (pv 6) (pe_tup (pa_cons (pv 7) pa_nil))))) pa_nil)))))
    (pss_one (ps_set (i := 3) nd rfl (Or.inl rfl) (pv 5))))))
    (pss_cons (ps_for PassesOwn.never rfl (pi_list (pv 3)) (pg_name (i := 6) nd rfl (Or.inr rfl))
    (pss_one (ps_for PassesOwn.never rfl (pi_list (pe_call D_law_vectors.ok (hr.mono (by decide)) (by rfl) D_law_vectors.g D_law_vectors.kp D_law_vectors.b .nil pass0 (pa_cons (pe_callB call_len_seq (by rfl) T.g_len PySem.boot_len (pa_cons (pv 0) pa_nil)) (pa_cons (pv 1) pa_nil)))) (pg_name (i := 8) nd rfl (Or.inl rfl))
    (pss_cons (ps_setLc (i := 9) (own := [("_law_r", 7), ("_law_z", 10), ("_law_depth", 4)]) (g := (gTup K 3 (gCons (gName 7) (gCons (gName 10) (gCons (gName 4) gNil))))) (tt := tYes) rfl nd rfl rfl (sw_true rfl rfl rfl (by decide +kernel)) (pi_zipK3 (by rfl) T.g_zip (pa_cons (pv 6) (pa_cons (pv 8) (pa_cons (pv 0) pa_nil)))) (blkOk_by (N := N_law_spots) (sc := defScope s_law_spots) (by decide +kernel)) (fun _ _ _ _ _ => pg_tup (by rfl) (pgs_cons (pg_name (i := 7) nd rfl (Or.inl rfl)) (pgs_cons (pg_name (i := 10) nd rfl (Or.inl rfl)) (pgs_cons (pg_name (i := 4) nd rfl (Or.inl rfl)) pgs_nil)))) (fun _ _ _ _ _ => pts_nil) (fun _ _ _ _ _ => (pe_op op_add (pv 7) (pe_op op_shl (pv 10) (pv 4)))))
    (pss_one (ps_expr (pe_bm PySem.F.plainAttrs_list PySem.F.slot_list_append PySem.F.type_list_append mt_append (pv 2) (pa_cons (pe_callTy call_tuple_of (by rfl) T.g_tuple (by decide +kernel) (pa_cons (pv 9) pa_nil)) pa_nil))))))))
    (pss_one (ps_ret (pv 2)))))), ?_⟩
    have zl : 16777216 = sizeLine := sizeLine_eq.symm
    have hn2 : ds.length ≤ 2 := by omega
    have hdl : ((dI ds).map V.int).length = ds.length := by rw [List.length_map]; unfold dI; rw [List.length_map]
    have hrl : ∀ i, i ≤ ds.length → (resL ds i).length ≤ 256 := fun i hi => by
      rw [resL_len]
      exact Nat.pow_le_pow_right (n := 2) (by decide) (sA_le hm hs8 i hi).1
    refine seq_by (fun σ H1 => ∃ L R : Addr, σ = [some (.ref lt), some (.int (b : Int)), some (.ref L), some (.ref R), none, none, none, none, none, none, none] ∧ Same H H1 ∧ LTI H1 L [] ∧ LTI H1 R [[]] ∧ H L = none) (fun D' hD' => ?_) ?_
    · refine ⟨(by show 0 ≤ sizeLine; omega), fun L hL => ⟨(by show 0 ≤ sizeLine; omega), fun t ht => ⟨(by show 1 ≤ sizeLine; omega), fun R hR => ⟨_, _, rfl, hD' _ _ ⟨L, R, rfl, ?_⟩⟩⟩⟩⟩
      have s1 := new_same (o := .lst []) hL
      have s2 := new_same (o := .tup []) ht
      have s3 := new_same (o := .lst [.ref t]) hR
      refine ⟨(s1.trans s2).trans s3, (show LTI (upd H L (.lst [])) L [] from ⟨[], upd_same, rfl, fun i xs e => by simp at e⟩).same (s2.trans s3), ⟨[t], upd_same, rfl, fun i xs e => ?_⟩, hL⟩
      match i, e with
      | 0, e =>
        cases e
        exact ⟨t, rfl, s3 _ _ upd_same⟩
    rintro σ H1 ⟨L, R0, rfl, s1, hl1, hr1, hLn⟩
    refine seq_by (fun σ H2 => ∃ (R : Addr) (a4 a5 a6 : Option V), σ = [some (.ref lt), some (.int (b : Int)), some (.ref L), some (.ref R), a4, a5, a6, none, none, none, none] ∧ Same H H2 ∧ LTI H2 L [] ∧ LTI H2 R (resL ds ds.length)) (fun D' hD' => ?_) ?_
    · refine ⟨_, rfl, lt, rfl, ⟨_, SqT.of (hl.same s1)⟩, ?_⟩
      refine for_tup (xs := (dI ds).map V.int) (fun i σ H2 => ∃ (R : Addr) (a4 a5 a6 : Option V), σ = [some (.ref lt), some (.int (b : Int)), some (.ref L), some (.ref R), a4, a5, a6, none, none, none, none] ∧ Same H H2 ∧ LTI H2 L [] ∧ LTI H2 R (resL ds i))
        ⟨R0, none, none, none, rfl, s1, hl1, hr1⟩ (fun i σ H2 _ h => by obtain ⟨_, _, _, _, _, h, _⟩ := h; exact SqT.of (hl.same h)) ?_ ?_
      · rintro i x σ H2 hx ⟨R, a4, a5, a6, rfl, s2, hl2, hr2⟩
        have hi : i < ds.length := by
          have := (List.getElem?_eq_some_iff.mp hx).1
          omega
        have hdi : ds[i]? = some (ds.getD i 0) := by rw [List.getD_eq_getElem?_getD, List.getElem?_eq_getElem hi]; rfl
        have hdI : (dI ds)[i]? = some ((ds.getD i 0 : Nat) : Int) := by unfold dI; rw [List.getElem?_map, hdi]; rfl
        rw [map_at_int hdI] at hx
        obtain rfl := Option.some.inj hx
        have hd8 := d_le8 hm hs8 i hi
        obtain ⟨us, hus⟩ : ∃ us, LTV H2 R us (resL ds i) := hr2.lenV
        refine seq_by (fun σ H3 => ∃ Wd : Addr, σ = [some (.ref lt), some (.int (b : Int)), some (.ref L), some (.ref R), some (.int ((ds.getD i 0 : Nat) : Int)), some (.ref Wd), a6, none, none, none, none] ∧ Same H2 H3 ∧ LTI H3 Wd [] ∧ H2 Wd = none) (fun D'' hD'' => ?_) ?_
        · exact ⟨(by show 0 ≤ sizeLine; omega), fun Wd hW => hD'' _ _ ⟨Wd, rfl, new_same hW, ⟨[], upd_same, rfl, fun i xs e => by simp at e⟩, hW⟩⟩
        rintro σ H3 ⟨Wd, rfl, s3, hw3, hWn⟩
        refine seq_by (fun σ H4 => ∃ a6 : Option V, σ = [some (.ref lt), some (.int (b : Int)), some (.ref L), some (.ref R), some (.int ((ds.getD i 0 : Nat) : Int)), some (.ref Wd), a6, none, none, none, none] ∧ Same H2 H4 ∧ LTI H4 Wd (resL ds (i + 1))) (fun D'' hD'' => ?_) ?_
        · refine ⟨_, rfl, R, rfl, ⟨_, SqL.of (hus.same s3).1⟩, ?_⟩
          refine for_list (xs := us) (fun k σ H4 => ∃ a6 : Option V, σ = [some (.ref lt), some (.int (b : Int)), some (.ref L), some (.ref R), some (.int ((ds.getD i 0 : Nat) : Int)), some (.ref Wd), a6, none, none, none, none] ∧ Same H2 H4 ∧ LTI H4 Wd (((resL ds i).take k).flatMap fun r => (List.range (2 ^ ds.getD i 0)).map fun (x : Nat) => r ++ [(x : Int)]))
            ⟨_, rfl, s3, hw3⟩ (fun k σ H4 _ h => by obtain ⟨_, _, h, _⟩ := h; exact SqL.of (hus.same h).1) ?_ ?_
          · rintro k x σ H4 hx ⟨b6, rfl, s4, hw4⟩
            obtain ⟨p, r, hk, hrk, rfl, hp2⟩ := hus.at hx
            have hrlen := resL_mem ds i r (List.mem_of_getElem? hrk)
            obtain ⟨ws, hws⟩ : ∃ ws, LTV H4 Wd ws _ := hw4.lenV
            have hN : (2 : Nat) ^ ds.getD i 0 ≤ 256 := by
              have := Nat.pow_le_pow_right (n := 2) (by decide) hd8
              exact Nat.le_trans this (by decide)
            have hN0 : (0 : Int) ≤ ((2 ^ ds.getD i 0 : Nat) : Int) := Int.natCast_nonneg _
            have hN1 : ((2 ^ ds.getD i 0 : Nat) : Int) ≤ 256 := Int.ofNat_le.mpr hN
            have hNi : (1 : Int) * 2 ^ ((ds.getD i 0 : Nat) : Int).toNat = ((2 ^ ds.getD i 0 : Nat) : Int) := by
              rw [Int.toNat_natCast, Int.one_mul, Int.natCast_pow]
              rfl
            refine ⟨_, rfl, .inl ⟨rfl, _, SqL.of hws.1⟩, _, rfl, _, _, rfl, rfl, ⟨by omega, by omega, by decide⟩, ((2 ^ ds.getD i 0 : Nat) : Int), by show [V.int _] = [V.int _]; rw [hNi], Int.le_trans (by decide) hN0, Int.lt_of_le_of_lt hN1 (by decide), fun G hG => ?_⟩
            rw [Int.toNat_natCast]
            refine lc_it (n := 2 ^ ds.getD i 0) walk_range (fun x H5 => Same H4 H5 ∧ LTI H5 G ((List.range x).map fun (x : Nat) => r ++ [(x : Int)])) ⟨new_same hG, [], upd_same, rfl, fun i xs e => by simp at e⟩ (fun _ _ _ _ => trivial) ?_ ?_
            · rintro x y H5 H6 hxN ⟨s5, h5⟩ ⟨rfl, rfl⟩
              refine ⟨rfl, ?_⟩
              dsimp only [tYes]
              rw [if_pos rfl]
              refine ⟨_, rfl, _, rfl, (by show 1 ≤ sizeLine; omega), fun t ht => ?_⟩
              have e0 : (0 : Int) + (x : Int) = (x : Int) := by omega
              rw [e0]
              have s6' := new_same (o := .tup [V.int (x : Int)]) ht
              have s6 := s5.trans s6'
              have h6 := h5.same s6'
              have p6 := (hp2.same s4).same s6
              have ht6 : TupI (upd H6 t (.tup [V.int (x : Int)])) t [(x : Int)] := upd_same
              have fin : ∀ (q : Addr) (H8 : Hp), Same (upd H6 t (.tup [V.int (x : Int)])) H8 → TupI H8 q (r ++ [(x : Int)]) → ∃ acc, H8 G = some (.lst acc) ∧ acc.length < sizeLine ∧ Same H4 (upd H8 G (.lst (acc ++ [.ref q]))) ∧ LTI (upd H8 G (.lst (acc ++ [.ref q]))) G ((List.range (x + 1)).map fun (x : Nat) => r ++ [(x : Int)]) := fun q H8 s8 hq => by
                obtain ⟨acc, a1, a2, a3⟩ := lti_app (h6.same s8) hq (by rw [List.length_map, List.length_range]; omega)
                refine ⟨acc, a1, a2, same_up (s6.trans s8) hG, ?_⟩
                rw [List.range_succ, List.map_append]
                exact a3
              refine ⟨p, t, _, _, rfl, rfl, SqT.of p6, SqT.of upd_same, ?_, fun e => ?_, fun _ e => (by cases e), fun _ ne q hq => ?_⟩
              · rw [List.length_map, hrlen]
                show i + 1 ≤ _
                omega
              · refine fin t _ (fun _ _ e => e) ?_
                rw [List.map_eq_nil_iff.mp e]
                exact ht6
              · refine fin q _ (new_same hq) ?_
                show upd _ q _ q = _
                rw [upd_same, List.map_append]
                rfl
            · rintro H5 ⟨s5, h5⟩
              obtain ⟨gs, hgs⟩ : ∃ gs, LTV H5 G gs _ := h5.lenV
              have hw5 := hws.same s5
              have gl : gs.length ≤ 256 := by
                rw [hgs.2.1, List.length_map, List.length_range]
                exact hN
              have wl : ws.length ≤ 256 := by
                rw [hws.2.1]
                exact Nat.le_trans (fm_take_le _ _ _) (hrl (i + 1) (by omega))
              refine ⟨Wd, G, _, _, rfl, rfl, hw5.1, hgs.1, by omega, ?_⟩
              refine ⟨_, rfl, same_up (s4.trans s5) hWn, ?_⟩
              rw [fm_split _ _ _ _ hrk]
              exact lti_ext (hw4.same s5) h5 hw5.1 hgs.1
          · rintro σ H4 ⟨b6, rfl, s4, hw4⟩
            rw [hus.2.1, List.take_length] at hw4
            exact hD'' _ _ ⟨b6, rfl, s4, hw4⟩
        rintro σ H4 ⟨b6, rfl, s4, hw4⟩
        exact ⟨_, rfl, Wd, _, _, _, rfl, s2.trans s4, hl2.same s4, hw4⟩
      · rintro σ H2 ⟨R, a4, a5, a6, rfl, s2, hl2, hr2⟩
        rw [hdl] at hr2
        exact hD' _ _ ⟨R, a4, a5, a6, rfl, s2, hl2, hr2⟩
    clear s1 hl1 hr1
    rintro σ H2 ⟨R, a4, a5, a6, rfl, s2, hl2, hr2⟩
    obtain ⟨us, hus⟩ : ∃ us, LTV H2 R us (resL ds ds.length) := hr2.lenV
    have nRL : R ≠ L := fun z => by
      obtain ⟨vs, e1, e2, _⟩ := hl2.lenV
      have e3 := hus.1
      rw [z, e1] at e3
      have e3 := HO.lst.inj (Option.some.inj e3)
      have e4 := hus.2.1
      rw [← e3, e2, resL_len] at e4
      have : 0 < 2 ^ sA ds ds.length := Nat.pow_pos (by decide)
      have e4 : 0 = 2 ^ sA ds ds.length := e4
      omega
    have hdv : (dV b ds.length).length = (vecs ds.length b).length := by unfold dV; rw [List.length_map]
    have hsp : ∀ rs : List (List Int), (rs.flatMap fun r => (dV b ds.length).map (spotI ds r)).length = rs.length * (vecs ds.length b).length := fun rs => fm_const fun r _ => by rw [List.length_map, hdv]
    have hr256 := hrl ds.length (Nat.le_refl _)
    refine ⟨_, rfl, R, rfl, ⟨_, SqL.of hus.1⟩, ?_⟩
    refine for_list (xs := us) (fun k σ H5 => ∃ a4 a6 a8 a9 : Option V, σ = [some (.ref lt), some (.int (b : Int)), some (.ref L), some (.ref R), a4, a5, a6, none, a8, a9, none] ∧ Same H H5 ∧ LTV H5 R us (resL ds ds.length) ∧ LTI H5 L (((resL ds ds.length).take k).flatMap fun r => (dV b ds.length).map (spotI ds r)))
      ⟨a4, a6, none, none, rfl, s2, hus, hl2⟩ (fun k σ H5 _ h => by obtain ⟨_, _, _, _, _, _, h, _⟩ := h; exact SqL.of h.1) ?_ ?_
    · clear hl2 hr2 s2 hus a4 a6
      rintro k x σ H5 hx ⟨a4, a6, a8, a9, rfl, s5, hus, hl5⟩
      obtain ⟨q, r, hk, hrk, rfl, hq5⟩ := hus.at hx
      have hrlen := resL_mem ds _ r (List.mem_of_getElem? hrk)
      have hkb : k * (vecs ds.length b).length ≤ 256 * 5000 := Nat.mul_le_mul (by omega) (by omega)
      refine ⟨_, rfl, lt, _, rfl, .inr (SqT.of (hl.same s5)), _, rfl, ds.length, hm, b, ?_, hb1, hb, hv, by omega, fun V1 H6 hV1 s6 hl6 => ?_⟩
      · rw [hdl]
        rfl
      obtain ⟨ws, hws⟩ : ∃ ws, LTV H6 V1 ws (dV b ds.length) := hl6.lenV
      have nVL : V1 ≠ L := fun z => by
        obtain ⟨vs, e1, _⟩ := hl5.lenV
        rw [z, e1] at hV1
        cases hV1
      refine ⟨V1, rfl, ⟨_, SqL.of hws.1⟩, ?_⟩
      refine for_list (xs := ws) (fun i σ H7 => ∃ a8 a9 : Option V, σ = [some (.ref lt), some (.int (b : Int)), some (.ref L), some (.ref R), a4, a5, some (.ref q), none, a8, a9, none] ∧ Same H H7 ∧ LTV H7 R us (resL ds ds.length) ∧ LTV H7 V1 ws (dV b ds.length) ∧ TupI H7 q r ∧ LTI H7 L ((((resL ds ds.length).take k).flatMap fun r => (dV b ds.length).map (spotI ds r)) ++ ((dV b ds.length).take i).map (spotI ds r)))
        ⟨a8, a9, rfl, s5.trans s6, hus.same s6, hws, hq5.same s6, by rw [List.take_zero, List.map_nil, List.append_nil]; exact hl5.same s6⟩ (fun i σ H7 _ h => by obtain ⟨_, _, _, _, _, h, _⟩ := h; exact SqL.of h.1) ?_ ?_
      · clear hl5 hl6 hws s5 s6 hus hV1 hq5 a8 a9
        rintro i y σ H7 hy ⟨a8, a9, rfl, s7, hus, hws, hq7, hl7⟩
        obtain ⟨p, v, hi, hvi, rfl, hp7⟩ := hws.at hy
        have hvv := hvi
        unfold dV at hvv
        rw [List.getElem?_map] at hvv
        obtain ⟨u, hu, rfl⟩ := Option.map_eq_some_iff.mp hvv
        have hum := List.mem_of_getElem? hu
        have hul := vecs_mem _ _ u hum
        have hub : ∀ j, j < ds.length → ∃ z : Nat, (dI u)[j]? = some (z : Int) ∧ (dI u).getD j 0 = (z : Int) ∧ z < 66 := fun j hj => by
          have hj' : u[j]? = some u[j] := List.getElem?_eq_getElem (by omega)
          have e : (dI u)[j]? = some ((u[j] : Nat) : Int) := by unfold dI; rw [List.getElem?_map, hj']; rfl
          exact ⟨u[j], e, by rw [List.getD_eq_getElem?_getD, e]; rfl, vecs_ent hb _ _ u (Nat.le_refl _) hum _ (List.getElem_mem _)⟩
        have hdul : ((dI u).map V.int).length = ds.length := by rw [List.length_map]; unfold dI; rw [List.length_map, hul]
        have hrll : (r.map V.int).length = ds.length := by rw [List.length_map, hrlen]
        refine seq_by (fun σ H8 => ∃ D : Addr, σ = [some (.ref lt), some (.int (b : Int)), some (.ref L), some (.ref R), a4, a5, some (.ref q), none, some (.ref p), some (.ref D), none] ∧ Same H7 H8 ∧ LI H8 D (spotI ds r (dI u))) (fun D' hD' => ?_) ?_
        · refine ⟨_, rfl, _, rfl, _, rfl, true, true, true, q, p, lt, _, _, _, rfl, sqK_t (SqT.of hq7), sqK_t (SqT.of hp7), sqK_t (SqT.of (hl.same s7)), fun D hD => ?_⟩
          refine lc_it (walk_zipK3 (by rw [hrll, hdul]) (by rw [hrll, hdl])) (fun j H8 => Same H7 H8 ∧ LI H8 D ((List.range j).map fun i => r.getD i 0 + (dI u).getD i 0 * 2 ^ ds.getD i 0)) ⟨new_same hD, upd_same⟩ (fun j H8 _ h => ⟨sqK_t (SqT.of (hq7.same h.1)), sqK_t (SqT.of (hp7.same h.1)), sqK_t (SqT.of (hl.same (s7.trans h.1)))⟩) ?_ ?_
          · rintro j x H8 H9 hj ⟨s8, h8⟩ ⟨T', x1, x2, x3, rfl, hT, rfl, hx1, hx2, hx3⟩
            rw [hrll] at hj
            obtain ⟨z, hz1, hz2, hz⟩ := hub j hj
            have hx1 : (r.map V.int)[j]? = some x1 := hx1
            have hx2 : ((dI u).map V.int)[j]? = some x2 := hx2
            have hx3 : ((dI ds).map V.int)[j]? = some x3 := hx3
            have hdi : ds[j]? = some (ds.getD j 0) := by rw [List.getD_eq_getElem?_getD, List.getElem?_eq_getElem hj]; rfl
            have hri : r[j]? = some (r.getD j 0) := by rw [List.getD_eq_getElem?_getD, List.getElem?_eq_getElem (show j < r.length by omega)]; rfl
            have hdI : (dI ds)[j]? = some ((ds.getD j 0 : Nat) : Int) := by unfold dI; rw [List.getElem?_map, hdi]; rfl
            rw [map_at_int hri] at hx1
            rw [map_at_int hz1] at hx2
            rw [map_at_int hdI] at hx3
            obtain rfl := Option.some.inj hx1
            obtain rfl := Option.some.inj hx2
            obtain rfl := Option.some.inj hx3
            have s9' := new_same (o := .tup [V.int (r.getD j 0), .int (z : Int), .int ((ds.getD j 0 : Nat) : Int)]) hT
            have s9 := s8.trans s9'
            have h9 := h8.same s9'
            have hd8 := d_le8 hm hs8 j hj
            refine ⟨T', _, rfl, SqT.of upd_same, rfl, _, _, rfl, _, _, rfl, _, _, rfl, rfl, rfl, ?_⟩
            dsimp only [tYes]
            rw [if_pos rfl]
            generalize upd H8 T' (.tup [V.int (r.getD j 0), .int (z : Int), .int ((ds.getD j 0 : Nat) : Int)]) = H9 at s9 h9 ⊢
            refine ⟨_, rfl, _, rfl, _, rfl, _, _, rfl, rfl, ⟨by omega, by omega, by omega⟩, _, _, rfl, rfl, ?_⟩
            refine ⟨_, h9, by rw [List.length_map, List.length_map, List.length_range]; omega, same_up s9 hD, ?_⟩
            rw [List.range_succ, List.map_append, Int.toNat_natCast]
            have := li_snoc (H := H9) (a := D) (xs := (List.range j).map fun i => r.getD i 0 + (dI u).getD i 0 * 2 ^ ds.getD i 0) (x := r.getD j 0 + (dI u).getD j 0 * 2 ^ ds.getD j 0)
            rw [hz2] at this
            show LI _ D (_ ++ [r.getD j 0 + (dI u).getD j 0 * 2 ^ ds.getD j 0])
            rw [hz2]
            exact this
          · rintro H8 ⟨s8, h8⟩
            rw [hrll] at h8
            exact hD' _ _ ⟨D, rfl, s8, h8⟩
        rintro σ H8 ⟨D, rfl, s8, h8⟩
        have hl8 := hl7.same s8
        obtain ⟨vs, v1, v2, _⟩ := hl8.lenV
        refine ⟨_, rfl, .inl ⟨rfl, _, SqL.of v1⟩, _, rfl, D, _, rfl, .inl ⟨SqL.of h8, fun t ht => ?_⟩⟩
        have s9' := new_same (o := .tup ((spotI ds r (dI u)).map V.int)) ht
        have s9 := s8.trans s9'
        obtain ⟨acc, c1, c2, c3⟩ := lti_app (hl8.same s9') (show TupI _ t (spotI ds r (dI u)) from upd_same) (by rw [List.length_append, hsp, List.length_map, List.length_take, List.length_take, Nat.min_eq_left (Nat.le_of_lt hk)]; omega)
        refine ⟨L, _, _, rfl, rfl, c1, c2, ?_⟩
        refine ⟨_, _, rfl, same_up (s7.trans s9) hLn, (hus.same s9).updL nRL c1, (hws.same s9).updL nVL c1, ?_, ?_⟩
        · have q9 : upd H8 t (.tup ((spotI ds r (dI u)).map V.int)) q = _ := hq7.same s9
          have nq : q ≠ L := fun z => by
            rw [z, c1] at q9
            cases q9
          show upd _ L _ q = _
          rw [upd_ne nq]
          exact q9
        · rw [List.take_succ, hvi, List.map_append, ← List.append_assoc]
          exact c3
      · rintro σ H7 ⟨a8, a9, rfl, s7, hus, hws, hq7, hl7⟩
        rw [hws.2.1, List.take_length] at hl7
        refine ⟨_, _, _, _, rfl, s7, hus, ?_⟩
        rw [fm_split _ _ _ _ hrk]
        exact hl7
    · rintro σ H5 ⟨b4, b6, b8, b9, rfl, s5, hus5, hl5⟩
      rw [hus5.2.1, List.take_length] at hl5
      exact ⟨_, rfl, kq L H5 hLn s5 hl5⟩
end
end My

set_option pp.maxSteps 300
set_option Elab.async false
set_option linter.all false
set_option maxRecDepth 100000
set_option maxHeartbeats 1000000
namespace My
open PySem L2 MyR
def kyOf (v : List Nat) : List Key := v.map fun (j : Nat) => (.inl (j : Int) : Key)
theorem kyOf_kV (v : List Nat) : (kyOf v).map kV = (dI v).map V.int := by
  unfold kyOf dI
  rw [List.map_map, List.map_map]
  rfl
theorem kyOf_inj : ∀ {u v : List Nat}, kyOf u = kyOf v → u = v
  | [], [], _ => rfl
  | [], _ :: _, h => by cases h
  | _ :: _, [], h => by cases h
  | a :: u, c :: v, h => by
    have h : (.inl (a : Int) : Key) :: kyOf u = .inl (c : Int) :: kyOf v := h
    have h1 := (List.cons.inj h).1
    have h1 : (a : Int) = (c : Int) := Sum.inl.inj h1
    rw [kyOf_inj (List.cons.inj h).2, Int.ofNat.inj h1]
def kvL (vs : List (List Nat)) (f : List Nat → Int) : List (List Key × V) := vs.map fun v => (kyOf v, V.int (f v))
def upF (f : List Nat → Int) (u : List Nat) (z : Int) : List Nat → Int := fun v => if v = u then z else f v
theorem upF_self {f : List Nat → Int} {u : List Nat} {z : Int} : upF f u z u = z := if_pos rfl
theorem put_new {vs : List (List Nat)} {f : List Nat → Int} {u : List Nat} {z : Int} (h : u ∉ vs) : putK (kvL vs f) (kyOf u) (.int z) = kvL (vs ++ [u]) (upF f u z) := by
  have e : ((kvL vs f).any fun kv => decide (kv.1 = kyOf u)) = false := by
    rw [List.any_eq_false]
    intro x hx
    obtain ⟨v, hv, rfl⟩ := List.mem_map.mp hx
    intro q
    have q := of_decide_eq_true q
    have q : kyOf v = kyOf u := q
    rw [kyOf_inj q] at hv
    exact h hv
  unfold putK
  rw [e, if_neg (by decide)]
  unfold kvL
  rw [List.map_append]
  congr 1
  · refine List.map_congr_left fun v hv => ?_
    have : v ≠ u := fun z => h (z ▸ hv)
    show (kyOf v, V.int (f v)) = (kyOf v, V.int (upF f u z v))
    unfold upF
    rw [if_neg this]
  · show [(kyOf u, V.int z)] = [(kyOf u, V.int (upF f u z u))]
    rw [upF_self]
theorem put_old {vs : List (List Nat)} {f : List Nat → Int} {u : List Nat} {z : Int} (h : u ∈ vs) : putK (kvL vs f) (kyOf u) (.int z) = kvL vs (upF f u z) := by
  have e : ((kvL vs f).any fun kv => decide (kv.1 = kyOf u)) = true := by
    rw [List.any_eq_true]
    exact ⟨_, List.mem_map.mpr ⟨u, h, rfl⟩, decide_eq_true rfl⟩
  unfold putK
  rw [e, if_pos rfl]
  unfold kvL
  rw [List.map_map]
  refine List.map_congr_left fun v hv => ?_
  show (if kyOf v = kyOf u then (kyOf v, V.int z) else (kyOf v, V.int (f v))) = (kyOf v, V.int (upF f u z v))
  unfold upF
  by_cases q : v = u
  · rw [q, if_pos rfl, if_pos rfl]
  · rw [if_neg (fun z => q (kyOf_inj z)), if_neg q]
theorem kv_at {f : List Nat → Int} {u : List Nat} : ∀ {vs : List (List Nat)}, u ∈ vs → valV (kvL vs f) (kyOf u) = some (.int (f u))
  | v :: vs, h => by
    by_cases q : v = u
    · rw [q]
      exact valV_pos rfl
    · rw [show kvL (v :: vs) f = (kyOf v, V.int (f v)) :: kvL vs f from rfl, valV_neg (fun z => q (kyOf_inj z))]
      refine kv_at ?_
      rcases List.mem_cons.mp h with e | h
      · exact absurd e.symm q
      · exact h
theorem vecs_nodup : ∀ m b, (vecs m b).Nodup
  | 0, b => by
    show [([] : List Nat)].Nodup
    exact List.pairwise_singleton _ _
  | m + 1, b => by
    show ((List.range (W b)).flatMap fun j => (vecs m (b - tw j)).map (j :: ·)).Nodup
    refine List.pairwise_flatMap.mpr ⟨fun j _ => ?_, ?_⟩
    · refine List.pairwise_map.mpr ?_
      exact (vecs_nodup m _).imp fun h e => h (List.cons.inj e).2
    · refine List.nodup_range.imp fun {a c} h x hx y hy e => ?_
      obtain ⟨x', _, rfl⟩ := List.mem_map.mp hx
      obtain ⟨y', _, rfl⟩ := List.mem_map.mp hy
      exact h (List.cons.inj e).1
def twS (v : List Nat) : Nat := (v.map tw).sum
theorem vecs_tw : ∀ (m b : Nat) v, 1 ≤ b → v ∈ vecs m b → twS v < b
  | 0, b, v, hb, h => by
    have h : v ∈ [([] : List Nat)] := h
    rw [List.mem_singleton.mp h]
    exact hb
  | m + 1, b, v, hb, h => by
    have h : v ∈ (List.range (W b)).flatMap fun j => (vecs m (b - tw j)).map (j :: ·) := h
    obtain ⟨j, hj, h⟩ := List.mem_flatMap.mp h
    obtain ⟨u, hu, rfl⟩ := List.mem_map.mp h
    have hj := W_iff.mpr (List.mem_range.mp hj)
    have := vecs_tw m _ u (by omega) hu
    show tw j + twS u < b
    omega
structure FOk (f : List Nat → Int) : Prop where
  d : ∀ v, (2 : Int) ^ twS v ∣ f v
  lo : ∀ v, 0 ≤ f v
  hi : ∀ v, f v < 2 ^ 128
theorem FOk.up {f : List Nat → Int} (h : FOk f) {u : List Nat} {z : Int} (hd : (2 : Int) ^ twS u ∣ z) (h0 : 0 ≤ z) (h1 : z < 2 ^ 128) : FOk (upF f u z) := by
  refine ⟨fun v => ?_, fun v => ?_, fun v => ?_⟩
  all_goals
    unfold upF
    by_cases q : v = u
    · rw [if_pos q]
      first | exact h0 | exact h1 | exact q ▸ hd
    · rw [if_neg q]
      first | exact h.lo v | exact h.hi v | exact h.d v
/-- the tables as dicts -/
def MadeAt (H : Hp) (L : Addr) (m b : Nat) (fs : Nat → List Nat → Int) (n : Nat) : Prop := ∃ as : List Addr, H L = some (.lst (as.map V.ref)) ∧ as.length = n ∧ ∀ g, g < n → ∃ d, as[g]? = some d ∧ H d = some (.dT (kvL (vecs m b) (fs g)))
theorem MadeAt.kept {H H' : Hp} {L d l : Addr} {m b n : Nat} {fs : Nat → List Nat → Int} (h : MadeAt H L m b fs n) (k : Kept d l H H') (D : Deal H d l) (nl : L ≠ l) : MadeAt H' L m b fs n := by
  obtain ⟨as, e1, e2, e3⟩ := h
  obtain ⟨z, n', ns, hd, hl, _⟩ := D.ex
  refine ⟨as, k _ _ e1 (ne_of e1 hd (by intro z; cases z)) nl, e2, fun g hg => ?_⟩
  obtain ⟨p, q1, q2⟩ := e3 g hg
  exact ⟨p, q1, k _ _ q2 (ne_of q2 hd (by intro z; cases z)) (ne_of q2 hl (by intro z; cases z))⟩
theorem LTV.kept {H H' : Hp} {R d l : Addr} {us : List V} {xss : List (List Int)} (h : LTV H R us xss) (k : Kept d l H H') (D : Deal H d l) (nl : R ≠ l) : LTV H' R us xss := by
  obtain ⟨z, n', ns, hd, hl, _⟩ := D.ex
  refine ⟨k _ _ h.1 (ne_of h.1 hd (by intro z; cases z)) nl, h.2.1, fun i xs e => ?_⟩
  obtain ⟨p, q1, q2⟩ := h.2.2 i xs e
  exact ⟨p, q1, k _ _ q2 (ne_of q2 hd (by intro z; cases z)) (ne_of q2 hl (by intro z; cases z))⟩
theorem LTV.updT {H : Hp} {R L : Addr} {us : List V} {kvs : List (List Key × V)} {xss : List (List Int)} {o : HO} (h : LTV H R us xss) (hL : H L = some (.dT kvs)) : LTV (upd H L o) R us xss :=
  ⟨by rw [upd_ne (ne_of h.1 hL (by intro z; cases z))]; exact h.1, h.2.1, fun i xs e => let ⟨p, q1, q2⟩ := h.2.2 i xs e; ⟨p, q1, by
    show upd H L _ p = _
    rw [upd_ne (ne_of (show H p = some (.tup _) from q2) hL (by intro z; cases z))]
    exact q2⟩⟩
theorem TupI.kept {H H' : Hp} {t d l : Addr} {xs : List Int} (h : TupI H t xs) (k : Kept d l H H') (D : Deal H d l) : TupI H' t xs := by
  obtain ⟨n1, n2⟩ := D.nt (show H t = some (.tup _) from h)
  exact k _ _ h n1 n2
def spMade : Sp := fun vs H Q _ => ∃ (dl l lt : Addr) (ds : List Nat) (b : Nat), vs = [.ref dl, .ref lt, .int (b : Int)] ∧ Deal H dl l ∧ TupI H lt (dI ds) ∧ (ds.length = 1 ∨ ds.length = 2) ∧ ds.sum ≤ 8 ∧ 1 ≤ b ∧ b ≤ 64 ∧ (vecs ds.length b).length < 5000 ∧
  ∀ (L : Addr) H' fs, H L = none → Deal H' dl l → Kept dl l H H' → MadeAt H' L ds.length b fs (2 ^ ds.sum) → (∀ g, FOk (fs g)) → Q (.ref L) H'
end My

set_option pp.maxSteps 300
set_option Elab.async false
set_option linter.all false
set_option maxRecDepth 100000
set_option maxHeartbeats 1000000
namespace My
open PySem L2 MyR
def spFar : Sp := fun vs H Q _ => ∃ (dl l : Addr) (n : Nat), vs = [.ref dl, .int (n : Int)] ∧ Deal H dl l ∧ n ≤ 2 ∧
  ∀ (t : Addr) H' xs, H t = none → Deal H' dl l → Kept dl l H H' → TupI H' t xs → xs.length = n → (∀ i, -(2 ^ 100) < xs.getD i 0 ∧ xs.getD i 0 < 2 ^ 100) → Q (.ref t) H'
theorem LI.kept {H H' : Hp} {L d l : Addr} {xs : List Int} (h : LI H L xs) (k : Kept d l H H') (D : Deal H d l) (nl : L ≠ l) : LI H' L xs := by
  obtain ⟨z, n', ns, hd, hl, _⟩ := D.ex
  exact k _ _ h (ne_of (show H L = some (.lst _) from h) hd (by intro z; cases z)) nl
section
variable {P : Program} {w : World} {K : PySem.W.Frag} {mg : Str → Option Value} {base : Heap}
abbrev s_law_far : Stmt := top 26
abbrev N_law_far : List Str := ["_law_deal_here", "_law_many", "_law_found", "_law_turn", "_law_number"]
theorem sc_law_far : FnScope N_law_far ["_law_deal_here", "_law_many"] (defScope s_law_far) := ⟨rfl, rfl, rfl, by decide +kernel, rfl, by decide +kernel, by decide +kernel⟩
theorem ok_law_far {f : Addr} {fd : FuncData} (F : Fun K "_law_far" "_law_far" s_law_far f fd) (T : Glob mg) (D_law_draw : Df P w K mg base 1 "_law_draw" ["_law_deal_here", "_law_many"] spDraw) : FnOk P w K mg base CX0 2 f fd ["_law_deal_here", "_law_many"] spFar := by
  refine F.ok sc_law_far (fun vs H Q E h => ?_) (fun cdv A outer s H vs Q E hr h => ?_)
  · obtain ⟨dl, l, n, rfl, _⟩ := h
    rfl
  · obtain ⟨dl, l, n, rfl, D0, hn, kq⟩ := h
    have nd := sc_law_far.nd
    refine ⟨_, (pss_cons (ps_set (i := 2) nd rfl (Or.inl rfl) (pe_lst pa_nil))
    (pss_cons (ps_for PassesOwn.never rfl (pi_range1 (by rfl) T.g_range (pa_cons (pv 1) pa_nil)) (pg_name (i := 3) nd rfl (Or.inl rfl))
    (pss_cons (ps_set (i := 4) nd rfl (Or.inl rfl) (pe_call D_law_draw.ok (hr.mono (by decide)) (by rfl) D_law_draw.g D_law_draw.kp D_law_draw.b .nil pass0 (pa_cons (pv 0) (pa_cons (pe_ix ix_list (pe_lst (pa_cons pe_int (pa_cons (pe_op op_shl pe_int pe_int) (pa_cons (pe_op op_pow pe_int pe_int) pa_nil)))) (pe_call D_law_draw.ok (hr.mono (by decide)) (by rfl) D_law_draw.g D_law_draw.kp D_law_draw.b .nil pass0 (pa_cons (pv 0) (pa_cons pe_int pa_nil))) (fun _ _ => rfl)) pa_nil))))
    (pss_one (ps_expr (pe_bm PySem.F.plainAttrs_list PySem.F.slot_list_append PySem.F.type_list_append mt_append (pv 2) (pa_cons (pe_ix ix_list (pe_lst (pa_cons (pv 4) (pa_cons (pe_op op_sub pe_int (pv 4)) pa_nil))) (pe_call D_law_draw.ok (hr.mono (by decide)) (by rfl) D_law_draw.g D_law_draw.kp D_law_draw.b .nil pass0 (pa_cons (pv 0) (pa_cons pe_int pa_nil))) (fun _ _ => rfl)) pa_nil))))))
    (pss_one (ps_ret (pe_callTy call_tuple_of (by rfl) T.g_tuple (by decide +kernel) (pa_cons (pv 2) pa_nil)))))), ?_⟩
    have zl : 16777216 = sizeLine := sizeLine_eq.symm
    refine seq_by (fun σ H1 => ∃ L : Addr, σ = [some (.ref dl), some (.int (n : Int)), some (.ref L), none, none] ∧ Deal H1 dl l ∧ Kept dl l H H1 ∧ LI H1 L [] ∧ H L = none) (fun D' hD' => ?_) ?_
    · exact ⟨(by show 0 ≤ sizeLine; omega), fun L hL => hD' _ _ ⟨L, rfl, D0.new hL, Kept.of (new_same hL), upd_same, hL⟩⟩
    rintro σ H1 ⟨L, rfl, D1, k1, h1, hLn⟩
    obtain ⟨nLd, nLl⟩ := D0.free hLn
    refine ⟨_, rfl, (n : Int), rfl, by omega, by omega, ?_⟩
    rw [Int.toNat_natCast]
    refine for_range (lo := 0) (n := n) (fun i σ H2 => ∃ (a3 a4 : Option V) (xs : List Int), σ = [some (.ref dl), some (.int (n : Int)), some (.ref L), a3, a4] ∧ Deal H2 dl l ∧ Kept dl l H H2 ∧ LI H2 L xs ∧ xs.length = i ∧ ∀ i, -(2 ^ 100) < xs.getD i 0 ∧ xs.getD i 0 < 2 ^ 100)
      ⟨none, none, [], rfl, D1, k1, h1, rfl, fun i => ⟨by simp, by simp⟩⟩ ?_ ?_
    · clear D1 k1 h1
      rintro i σ H2 hi ⟨a3, a4, xs, rfl, D2, k2, h2, hxl, hb⟩
      refine seq_by (fun σ H3 => ∃ (z : Int), σ = [some (.ref dl), some (.int (n : Int)), some (.ref L), some (.int (0 + (i : Int))), some (.int z)] ∧ Deal H3 dl l ∧ Kept dl l H2 H3 ∧ 0 ≤ z ∧ z < 10 ^ 30) (fun D' hD' => ?_) ?_
      · refine ⟨_, rfl, _, _, rfl, rfl, ⟨by decide, by decide, by decide⟩, _, _, rfl, rfl, ⟨by decide, by decide, by decide⟩, (by show 3 ≤ sizeLine; omega), fun Z hZ => ?_⟩
        have hZ2 := new_same (o := .lst [V.int 9, .int (1 * 2 ^ (20 : Int).toNat), .int (10 ^ (29 : Int).toNat)]) hZ
        obtain ⟨nZd, nZl⟩ := D2.free hZ
        refine ⟨_, rfl, dl, l, 3, rfl, D2.new hZ, by decide, by decide, fun r H3 hr0 hr1 D3 k3 => ?_⟩
        have hsel : ∃ m : Int, atI [V.int 9, .int (1 * 2 ^ (20 : Int).toNat), .int (10 ^ (29 : Int).toNat)] r = some (.int m) ∧ 0 < m ∧ m.natAbs < 2 ^ 110 ∧ m ≤ 10 ^ 30 := by
          have : r = 0 ∨ r = 1 ∨ r = 2 := by omega
          rcases this with rfl | rfl | rfl
          · exact ⟨9, rfl, by decide, by decide, by decide⟩
          · exact ⟨1 * 2 ^ (20 : Int).toNat, rfl, by decide, by decide, by decide⟩
          · exact ⟨10 ^ (29 : Int).toNat, rfl, by decide, by decide, by decide⟩
        obtain ⟨m, m1, m2, m3, m4⟩ := hsel
        exact ⟨Z, _, _, _, rfl, rfl, SqL.of (k3 _ _ upd_same nZd nZl), m1, dl, l, m, rfl, D3, m2, m3, fun z H4 hz0 hz1 D4 k4 => hD' _ _ ⟨z, rfl, D4, ((Kept.of hZ2).trans k3).trans k4, hz0, by omega⟩⟩
      rintro σ H3 ⟨z, rfl, D3, k3, hz0, hz1⟩
      have h3 := h2.kept k3 D2 nLl
      refine ⟨_, rfl, .inl ⟨rfl, _, SqL.of h3⟩, _, rfl, _, rfl, _, _, rfl, rfl, (by show 2 ≤ sizeLine; omega), fun Z hZ => ?_⟩
      obtain ⟨nZd, nZl⟩ := D3.free hZ
      have sZ := new_same (o := .lst [V.int z, .int (0 - z)]) hZ
      refine ⟨_, rfl, dl, l, 2, rfl, D3.new hZ, by decide, by decide, fun r H4 hr0 hr1 D4 k4 => ?_⟩
      have h10 : (10 : Int) ^ 30 = 1000000000000000000000000000000 := by decide
      have h2p : (2 : Int) ^ 100 = 1267650600228229401496703205376 := by decide
      have hsel : ∃ m : Int, atI [V.int z, .int (0 - z)] r = some (.int m) ∧ -(2 ^ 100) < m ∧ m < 2 ^ 100 := by
        have : r = 0 ∨ r = 1 := by omega
        rcases this with rfl | rfl
        · exact ⟨z, rfl, by omega, by omega⟩
        · exact ⟨0 - z, rfl, by omega, by omega⟩
      obtain ⟨m, m1, m2, m3⟩ := hsel
      have k34 := (Kept.of sZ).trans k4
      have h4 := h3.kept k34 D3 nLl
      refine ⟨Z, _, _, _, rfl, rfl, SqL.of (k4 _ _ upd_same nZd nZl), m1, L, _, _, rfl, rfl, h4, by rw [List.length_map]; omega, ?_⟩
      refine ⟨_, _, xs ++ [m], rfl, D4.other nLd nLl, ((k2.trans k3).trans k34).new hLn, li_snoc, by rw [List.length_append, hxl]; rfl, fun j => ?_⟩
      by_cases e : j < xs.length
      · rw [List.getD_eq_getElem?_getD, List.getElem?_append_left e, ← List.getD_eq_getElem?_getD]
        exact hb j
      · rw [List.getD_eq_getElem?_getD, List.getElem?_append_right (by omega)]
        by_cases e2 : j - xs.length = 0
        · rw [e2]
          exact ⟨m2, m3⟩
        · rw [List.getElem?_eq_none (by show 1 ≤ j - xs.length; omega)]
          exact ⟨by decide, by decide⟩
    · rintro σ H2 ⟨a3, a4, xs, rfl, D2, k2, h2, hxl, hb⟩
      refine ⟨_, rfl, L, _, rfl, .inl ⟨SqL.of h2, fun t ht => ?_⟩⟩
      exact kq t _ xs (k2.free D2 ht) (D2.new ht) (k2.trans (Kept.of (new_same ht))) upd_same hxl hb
end
end My

set_option pp.maxSteps 400
set_option Elab.async false
set_option linter.all false
set_option maxRecDepth 100000
set_option maxHeartbeats 1000000
namespace My
open PySem L2 MyR RT
theorem walk_revT {K : PySem.W.Frag} {a : Addr} {xs : List V} : Walk (ItvT K a xs.length) xs.length (fun H => SqT K H a xs) (fun i H x H' => H' = H ∧ xs[xs.length - 1 - i]? = some x) :=
  ⟨fun i _ hi q => ⟨hi, xs, xs[xs.length - 1 - i]'(by omega), q, by simp [show xs.length - 1 - i < xs.length by omega]⟩, fun _ _ => Nat.le_refl _, fun _ _ _ _ _ q y => ⟨y.1, y.2 xs q⟩⟩
/-! ### residues -/
def leftR : List Nat → Int → Int
  | [], n => n
  | d :: r, n => leftR r (n / 2 ^ d)
def resR : List Nat → Int → List Int
  | [], _ => []
  | d :: r, n => n % 2 ^ d :: resR r (n / 2 ^ d)
theorem resR_snoc : ∀ (xs : List Nat) (d : Nat) (n : Int), resR (xs ++ [d]) n = resR xs n ++ [leftR xs n % 2 ^ d] ∧ leftR (xs ++ [d]) n = leftR xs n / 2 ^ d
  | [], d, n => ⟨rfl, rfl⟩
  | x :: xs, d, n => by
    obtain ⟨h1, h2⟩ := resR_snoc xs d (n / 2 ^ x)
    exact ⟨by show _ :: resR (xs ++ [d]) (n / 2 ^ x) = _; rw [h1]; rfl, h2⟩
theorem resR_len : ∀ (xs : List Nat) (n : Int), (resR xs n).length = xs.length
  | [], _ => rfl
  | x :: xs, n => by
    show (resR xs (n / 2 ^ x)).length + 1 = xs.length + 1
    rw [resR_len xs]
def resI (ds : List Nat) (n : Int) : List Int := (resR ds.reverse n).reverse
def spRes : Sp := fun vs H Q _ => ∃ (lt : Addr) (ds : List Nat) (n : Int), vs = [.ref lt, .int n] ∧ TupI H lt (dI ds) ∧ (∀ d ∈ ds, d ≤ 1000) ∧ ds.length ≤ 1000 ∧ ∀ (L : Addr) H', H L = none → Same H H' → LI H' L (resI ds n) → Q (.ref L) H'
/-- the greater depth in each place -/
def mxL (ds es : List Nat) : List Nat := (List.range ds.length).map fun i => if es.getD i 0 > ds.getD i 0 then es.getD i 0 else ds.getD i 0
def spGr : Sp := fun vs H Q _ => ∃ (a c : Addr) (ds es : List Nat), vs = [.ref a, .ref c] ∧ TupI H a (dI ds) ∧ TupI H c (dI es) ∧ ds.length = es.length ∧ ds.length ≤ 1000 ∧ ∀ (t : Addr) H', H t = none → Same H H' → TupI H' t (dI (mxL ds es)) → Q (.ref t) H'
section
variable {P : Program} {w : World} {K : PySem.W.Frag} {mg : Str → Option Value} {base : Heap}
abbrev N_residues : List Str := ["loss", "number", "found", "left", "depth"]
abbrev N_greater_loss : List Str := ["one", "other", "first", "second"]
abbrev s_vector_list : Stmt := top 7
abbrev N_vector_list : List Str := ["count", "bits", "found", "first", "used", "others"]
theorem sc_vector_list : FnScope N_vector_list ["count", "bits"] (defScope s_vector_list) := ⟨rfl, rfl, rfl, by decide +kernel, rfl, by decide +kernel, by decide +kernel⟩
theorem ok_vector_list {f : Addr} {fd : FuncData} (F : Fun K "vector_list" "vector_list" s_vector_list f fd) (T : Glob mg) (D_shares : Df P w K mg base 2 "shares" ["bits"] spShares) (g : mg "vector_list" = some (.ref f)) (kp : PySem.W.keepIn K (.ref f) = true) (bb : Binds K fd ["count", "bits"] []) :
    ∀ m, FnOk P w K mg base CX0 (m + 3) f fd ["count", "bits"] (spVecs m)
  | 0 => by
    refine F.ok sc_vector_list (fun vs H Q E h => ?_) (fun cdv A outer s H vs Q E hr h => ?_)
    · obtain ⟨b, rfl, _⟩ := h
      rfl
    · obtain ⟨b, rfl, hb1, hb, hv, hm, kq⟩ := h
      have nd := sc_vector_list.nd
      refine ⟨_, (pss_cons (ps_if (pt_cmpR op_eq (pv 0) pe_int (nomark _))
      (pss_one (ps_ret (pe_lst (pa_cons (pe_tup pa_nil) pa_nil))))
      pss_nil)
      (pss_cons ps_never (pss_cons ps_never (pss_one ps_never)))), ?_⟩
      refine ⟨_, rfl, rfl, _, rfl, iteT ?_⟩
      refine ⟨(by show 0 ≤ sizeLine; decide), fun t ht => ⟨(by show 1 ≤ sizeLine; decide), fun L hL => ?_⟩⟩
      have s1 := new_same (o := .tup []) ht
      have s2 := new_same (o := .lst [.ref t]) hL
      refine kq L _ (same_free s1 hL) (s1.trans s2) ⟨[t], upd_same, rfl, fun i xs e => ?_⟩
      match i, e with
      | 0, e =>
        cases e
        exact ⟨t, rfl, s2 _ _ upd_same⟩
      | i + 1, e => simp [dV, vecs] at e
  | m + 1 => by
    have ih := ok_vector_list F T D_shares g kp bb m
    refine F.ok sc_vector_list (fun vs H Q E h => ?_) (fun cdv A outer s H vs Q E hr h => ?_)
    · obtain ⟨b, rfl, _⟩ := h
      rfl
    · obtain ⟨b, rfl, hb1, hb, hv, hm, kq⟩ := h
      have nd := sc_vector_list.nd
      refine ⟨_, (pss_cons (ps_if (pt_cmpR op_eq (pv 0) pe_int (nomark _))
      (pss_one ps_never)
      pss_nil)
      (pss_cons (ps_set (i := 2) nd rfl (Or.inl rfl) (pe_lst pa_nil))
      (pss_cons (ps_for PassesOwn.never rfl (pi_enum (by rfl) T.g_enumerate (pa_cons (pe_call D_shares.ok (hr.mono (by omega)) (by rfl) D_shares.g D_shares.kp D_shares.b .nil pass0 (pa_cons (pv 1) pa_nil)) pa_nil)) (pg_tup (by rfl) (pgs_cons (pg_name (i := 3) nd rfl (Or.inl rfl)) (pgs_cons (pg_name (i := 4) nd rfl (Or.inl rfl)) pgs_nil)))
      (pss_one (ps_for PassesOwn.never rfl (pi_list (pe_call ih hr (by rfl) g kp bb .nil pass0 (pa_cons (pe_op op_sub (pv 0) pe_int) (pa_cons (pe_op op_sub (pv 1) (pv 4)) pa_nil)))) (pg_name (i := 5) nd rfl (Or.inl rfl))
      (pss_one (ps_expr (pe_bm PySem.F.plainAttrs_list PySem.F.slot_list_append PySem.F.type_list_append mt_append (pv 2) (pa_cons (pe_tup (pa_cons (pv 3) (StX.pa_star (pv 5) pa_nil))) pa_nil)))))))
      (pss_one (ps_ret (pv 2)))))), ?_⟩
      have zl : 16777216 = sizeLine := sizeLine_eq.symm
      have hm1 : ((m + 1 : Nat) : Int) ≠ 0 := by omega
      refine seq_by (fun σ H1 => H1 = H ∧ σ = [some (.int ((m + 1 : Nat) : Int)), some (.int (b : Int)), none, none, none, none]) (fun D' hD' => ?_) ?_
      · refine ⟨_, rfl, rfl, _, rfl, ?_⟩
        rw [decide_eq_false (fun z => hm1 (V.int.inj z))]
        exact iteF (hD' _ _ ⟨rfl, rfl⟩)
      rintro σ H1 ⟨rfl, rfl⟩
      refine seq_by (fun σ H2 => ∃ L : Addr, σ = [some (.int ((m + 1 : Nat) : Int)), some (.int (b : Int)), some (.ref L), none, none, none] ∧ Same H1 H2 ∧ LTI H2 L [] ∧ H1 L = none) (fun D' hD' => ?_) ?_
      · exact ⟨(by show 0 ≤ sizeLine; omega), fun L hL => hD' _ _ ⟨L, rfl, new_same hL, ⟨[], upd_same, rfl, fun i xs e => by simp at e⟩, hL⟩⟩
      rintro σ H2 ⟨L, rfl, s2, hl2, hLn⟩
      have hW := W_66 hb
      have htot : (vecsTo m b (W b)).length < 5000 := hv
      refine ⟨_, rfl, b, rfl, hb, fun S H3 hS s3 hl3 => ?_⟩
      have hsl : ((sharesL b).map V.int).length = W b := by rw [List.length_map]; unfold sharesL; rw [List.length_map, List.length_range]
      refine ⟨S, _, rfl, SqL.of hl3, ?_⟩
      refine for_it walk_enum (fun k σ H4 => ∃ a3 a4 a5 : Option V, σ = [some (.int ((m + 1 : Nat) : Int)), some (.int (b : Int)), some (.ref L), a3, a4, a5] ∧ Same H1 H4 ∧ LI H4 S (sharesL b) ∧ LTI H4 L ((vecsTo m b k).map dI) ∧ L ≠ S)
        ⟨none, none, none, rfl, s2.trans s3, hl3, hl2.same s3, (by obtain ⟨as, e1, _⟩ := hl2; exact ne_of_none e1 hS)⟩ (fun k σ H4 _ h => by obtain ⟨_, _, _, _, _, h, _⟩ := h; exact SqL.of h) ?_ ?_
      · rintro k x σ H4 H5 hk ⟨a3, a4, a5, rfl, s4, hS4, hl4, nLS⟩ ⟨T', x1, x2, rfl, hT, rfl, hx1, hx2⟩
        rw [hsl] at hk
        have htw := W_iff.mpr hk
        obtain rfl := Option.some.inj hx1
        have hx2 : ((sharesL b).map V.int)[k]? = some x2 := hx2
        rw [show ((sharesL b).map V.int)[k]? = some (V.int (tw k : Int)) from map_at_int (at_range (f := fun j => (tw j : Int)) hk)] at hx2
        obtain rfl := Option.some.inj hx2
        have st := new_same (o := .tup [V.int (k : Nat), .int (tw k : Int)]) hT
        have s5 := s4.trans st
        have hS5 := hS4.same st
        have hl5 := hl4.same st
        refine ⟨T', _, rfl, SqT.of upd_same, rfl, _, _, rfl, _, _, rfl, rfl, ?_⟩
        generalize upd H4 T' (.tup [V.int (k : Nat), .int (tw k : Int)]) = H5 at s5 hS5 hl5 ⊢
        have hle := vecsTo_le m b (k + 1) (W b) hk
        rw [vecsTo_succ, List.length_append, List.length_map] at hle
        refine ⟨_, rfl, _, _, rfl, rfl, _, rfl, _, rfl, _, _, rfl, rfl, b - tw k, ?_, by omega, by omega, by omega, by omega, fun V1 H6 hV1 s6 hl6 => ?_⟩
        · show [V.int (((m + 1 : Nat) : Int) - 1), V.int ((b : Int) - (tw k : Int))] ++ [] = _
          rw [show ((m + 1 : Nat) : Int) - 1 = (m : Int) by omega, show (b : Int) - (tw k : Int) = ((b - tw k : Nat) : Int) by omega]
          rfl
        obtain ⟨ws, hws⟩ : ∃ ws, LTV H6 V1 ws (dV (b - tw k) m) := hl6.lenV
        have nLV : L ≠ V1 := by obtain ⟨as, e1, _⟩ := hl5; exact ne_of_none e1 hV1
        refine ⟨V1, rfl, ⟨_, SqL.of hws.1⟩, ?_⟩
        refine for_list (xs := ws) (fun j σ H7 => ∃ a5 : Option V, σ = [some (.int ((m + 1 : Nat) : Int)), some (.int (b : Int)), some (.ref L), some (.int (k : Int)), some (.int (tw k : Int)), a5] ∧ Same H1 H7 ∧ LI H7 S (sharesL b) ∧ LTI H7 L (((vecsTo m b k) ++ ((vecs m (b - tw k)).take j).map (k :: ·)).map dI) ∧ LTV H7 V1 ws (dV (b - tw k) m))
          ⟨a5, rfl, s5.trans s6, hS5.same s6, by rw [List.take_zero, List.map_nil, List.append_nil]; exact hl5.same s6, hws⟩ (fun j σ H7 _ h => by obtain ⟨_, _, _, _, _, h⟩ := h; exact SqL.of h.1) ?_ ?_
        · rintro j x σ H7 hx ⟨b5, rfl, s7, hS7, hl7, hws7⟩
          obtain ⟨p, v, hj, hvj, rfl, hp7⟩ := hws7.at hx
          have hvv := hvj
          unfold dV at hvv
          rw [List.getElem?_map] at hvv
          obtain ⟨u, hu1, rfl⟩ := Option.map_eq_some_iff.mp hvv
          have hul := vecs_mem _ _ u (List.mem_of_getElem? hu1)
          have hjl := (List.getElem?_eq_some_iff.mp hu1).1
          obtain ⟨as7, e7, _⟩ := id hl7
          refine ⟨_, rfl, .inl ⟨rfl, _, SqL.of e7⟩, _, rfl, _, rfl, p, _, rfl, .inl (SqT.of hp7), ?_, fun t ht => ?_⟩
          · rw [List.length_cons, List.append_nil, List.length_map]
            unfold dI
            rw [List.length_map, hul]
            omega
          have st2 := new_same (o := .tup (V.int (k : Int) :: (((dI u).map V.int) ++ []))) ht
          have hn : TupI (upd H7 t (.tup (V.int (k : Int) :: (((dI u).map V.int) ++ [])))) t (dI (k :: u)) := by
            show upd _ t _ t = _
            rw [upd_same, List.append_nil]
            rfl
          obtain ⟨acc, b1, b2, b3⟩ := lti_app (hl7.same st2) hn (by
            rw [List.length_map, List.length_append, List.length_map, List.length_take]
            omega)
          refine ⟨L, _, _, rfl, rfl, b1, b2, ?_⟩
          refine ⟨_, rfl, same_up (s7.trans st2) hLn, (hS7.same st2).updN (Ne.symm nLS), ?_, (hws7.same st2).updL (Ne.symm nLV) b1⟩
          rw [List.take_succ, hu1]
          simp only [Option.toList_some, List.map_append, List.map_cons, List.map_nil]
          rw [List.map_append] at b3
          rw [← List.append_assoc]
          exact b3
        · rintro σ H7 ⟨b5, rfl, s7, hS7, hl7, hws7⟩
          have hwl : ws.length = (vecs m (b - tw k)).length := by rw [hws.2.1]; unfold dV; rw [List.length_map]
          rw [hwl, List.take_length, ← vecsTo_succ] at hl7
          exact ⟨_, _, _, rfl, s7, hS7, hl7, nLS⟩
      · rintro σ H4 ⟨a3, a4, a5, rfl, s4, _, hl4, _⟩
        rw [hsl] at hl4
        exact ⟨_, rfl, kq L H4 hLn s4 hl4⟩
end
end My

set_option pp.maxSteps 300
set_option Elab.async false
set_option linter.all false
set_option maxRecDepth 100000
set_option maxHeartbeats 1000000
namespace My
open PySem L2 MyR
/-! ### dicts whose keys and values are whole numbers -/
def kN (k : Nat) : Key := .inl (k : Int)
theorem kN_inj {a c : Nat} (h : kN a = kN c) : a = c := by
  have h : (a : Int) = (c : Int) := Sum.inl.inj h
  omega
def kiL (ks : List Nat) (g : Nat → Nat) : List (Key × V) := ks.map fun k => (kN k, V.int (g k : Int))
theorem ki_len (ks : List Nat) (g : Nat → Nat) : (kiL ks g).length = ks.length := List.length_map ..
theorem ki_in {g : Nat → Nat} {k : Nat} : ∀ {ks : List Nat}, k ∈ ks → valV (kiL ks g) (kN k) = some (.int (g k : Int))
  | a :: ks, h => by
    by_cases e : a = k
    · subst e
      exact valV_pos rfl
    · rw [show kiL (a :: ks) g = (kN a, V.int (g a : Int)) :: kiL ks g from rfl, valV_neg (fun z => e (kN_inj z))]
      rcases List.mem_cons.mp h with h | h
      · exact absurd h.symm e
      · exact ki_in h
theorem ki_out {g : Nat → Nat} {k : Nat} : ∀ {ks : List Nat}, k ∉ ks → valV (kiL ks g) (kN k) = none
  | [], _ => rfl
  | a :: ks, h => by
    have h1 : a ≠ k := fun e => h (e ▸ List.mem_cons_self ..)
    rw [show kiL (a :: ks) g = (kN a, V.int (g a : Int)) :: kiL ks g from rfl, valV_neg (fun z => h1 (kN_inj z))]
    exact ki_out fun e => h (List.mem_cons_of_mem _ e)
theorem ki_new {ks : List Nat} {g g' : Nat → Nat} {k : Nat} (h : k ∉ ks) (hg : ∀ j, j ∈ ks → g' j = g j) : putK (kiL ks g) (kN k) (.int (g' k : Int)) = kiL (ks ++ [k]) g' := by
  rw [putK_new _ (ki_out h)]
  unfold kiL
  rw [List.map_append]
  congr 1
  exact List.map_congr_left fun j hj => by rw [hg j hj]
theorem ki_old {ks : List Nat} {g g' : Nat → Nat} {k : Nat} (h : k ∈ ks) (hg : ∀ j, j ∈ ks → j ≠ k → g' j = g j) : putK (kiL ks g) (kN k) (.int (g' k : Int)) = kiL ks g' := by
  have e : ((kiL ks g).any fun kv => decide (kv.1 = kN k)) = true := List.any_eq_true.mpr ⟨_, List.mem_map.mpr ⟨k, h, rfl⟩, decide_eq_true rfl⟩
  unfold putK
  rw [e, if_pos rfl]
  unfold kiL
  rw [List.map_map]
  refine List.map_congr_left fun j hj => ?_
  show (if kN j = kN k then (kN j, V.int (g' k : Int)) else (kN j, V.int (g j : Int))) = (kN j, V.int (g' j : Int))
  by_cases q : j = k
  · rw [q, if_pos rfl]
  · rw [if_neg (fun z => q (kN_inj z)), hg j hj q]
/-! the places of a loss, and for each number the places that have it -/
def plN (b m p : Nat) : List Nat := (vecs m b).getD p []
def numN (b m i p : Nat) : Nat := (plN b m p).getD i 0
def HoldD (H : Hp) (d : Addr) (b m i n : Nat) : Prop := ∃ ks : List Nat, ks.Nodup ∧ (∀ p, p < n → numN b m i p ∈ ks) ∧ ks.length ≤ n ∧ H d = some (.dK (kiL ks fun k => maskN n fun p => decide (numN b m i p = k)))
theorem HoldD.same {H H' : Hp} {d : Addr} {b m i n : Nat} (h : HoldD H d b m i n) (s : Same H H') : HoldD H' d b m i n := let ⟨ks, h1, h2, h3, h4⟩ := h; ⟨ks, h1, h2, h3, s _ _ h4⟩
/-- one place more -/
theorem hold_put {b m i n : Nat} {ks : List Nat} (h1 : ks.Nodup) (h2 : ∀ p, p < n → numN b m i p ∈ ks) (h3 : ks.length ≤ n) :
    ∃ old : Nat, ((valV (kiL ks fun k => maskN n fun p => decide (numN b m i p = k)) (kN (numN b m i n))).getD (.int 0) = .int (old : Int)) ∧
      ∃ ks' : List Nat, ks'.Nodup ∧ (∀ p, p < n + 1 → numN b m i p ∈ ks') ∧ ks'.length ≤ n + 1 ∧
        putK (kiL ks fun k => maskN n fun p => decide (numN b m i p = k)) (kN (numN b m i n)) (.int ((old : Int) + 2 ^ n)) = kiL ks' fun k => maskN (n + 1) fun p => decide (numN b m i p = k) := by
  have step : ∀ k, maskN (n + 1) (fun p => decide (numN b m i p = k)) = maskN n (fun p => decide (numN b m i p = k)) + if numN b m i n = k then 2 ^ n else 0 := fun k => by
    show _ + (if decide (numN b m i n = k) = true then 2 ^ n else 0) = _
    by_cases e : numN b m i n = k
    · rw [if_pos (decide_eq_true e), if_pos e]
    · rw [if_neg (by rw [decide_eq_false e]; exact Bool.false_ne_true), if_neg e]
  have self : maskN (n + 1) (fun p => decide (numN b m i p = numN b m i n)) = maskN n (fun p => decide (numN b m i p = numN b m i n)) + 2 ^ n := by rw [step, if_pos rfl]
  have cast : ∀ x : Nat, ((x : Int) + 2 ^ n) = ((x + 2 ^ n : Nat) : Int) := fun x => by rw [Int.natCast_add, Int.natCast_pow]; rfl
  by_cases h : numN b m i n ∈ ks
  · refine ⟨_, by rw [ki_in h]; rfl, ks, h1, fun p hp => ?_, by omega, ?_⟩
    · by_cases e : p = n
      · rw [e]; exact h
      · exact h2 p (by omega)
    · rw [cast, ← self]
      exact ki_old (g' := fun k => maskN (n + 1) fun p => decide (numN b m i p = k)) h fun j _ q => by
        show maskN (n + 1) _ = _
        rw [step, if_neg (Ne.symm q), Nat.add_zero]
  · have z : maskN n (fun p => decide (numN b m i p = numN b m i n)) = 0 := by
      rw [mask_congr (fun p => decide (numN b m i p = numN b m i n)) (fun _ => false) n fun p hp => decide_eq_false fun (e : numN b m i p = numN b m i n) => h (by rw [← e]; exact h2 p hp), mask_none]
    refine ⟨0, by rw [ki_out h]; rfl, ks ++ [numN b m i n], nd_snoc h1 h, fun p hp => ?_, by rw [List.length_append]; show _ + 1 ≤ _; omega, ?_⟩
    · by_cases e : p = n
      · rw [e]; exact List.mem_append_right _ (List.mem_singleton.mpr rfl)
      · exact List.mem_append_left _ (h2 p (by omega))
    · have hz : ((0 : Nat) : Int) + 2 ^ n = ((maskN (n + 1) (fun p => decide (numN b m i p = numN b m i n)) : Nat) : Int) := by rw [cast, self, z]
      rw [hz]
      exact ki_new (g' := fun k => maskN (n + 1) fun p => decide (numN b m i p = k)) h fun j hj => by
        show maskN (n + 1) _ = _
        rw [step, if_neg (fun (e : numN b m i n = j) => h (by rw [e]; exact hj)), Nat.add_zero]
structure SeC (K : PySem.W.Frag) (C : Addr) : Prop where
  cl : Cls K C
  n1 : NoAttr K C "loss"
  n2 : NoAttr K C "bits"
  n3 : NoAttr K C "places"
  n4 : NoAttr K C "holding"
  n5 : NoAttr K C "equations"
  n6 : NoAttr K C "kept"
def spSets (C : Addr) : Sp := fun vs H Q _ => ∃ (s dx lt pl : Addr) (b m i : Nat), vs = [.ref s, .int (i : Int)] ∧ H s = some (.ins C dx [("loss", .ref lt), ("bits", .int (b : Int)), ("places", .ref pl)]) ∧ LTI H pl (dV b m) ∧ i < m ∧ (vecs m b).length ≤ 1000 ∧
  ∀ (D : Addr) H', H D = none → Same H H' → HoldD H' D b m i (vecs m b).length → Q (.ref D) H'
section
variable {P : Program} {w : World} {K : PySem.W.Frag} {mg : Str → Option Value} {base : Heap}
abbrev s_Seen_sets_by_number : Stmt := inClass (top 16) 1
abbrev N_Seen_sets_by_number : List Str := ["self", "at", "found", "index", "place"]
theorem sc_Seen_sets_by_number : FnScope N_Seen_sets_by_number ["self", "at"] (defScope s_Seen_sets_by_number) := ⟨rfl, rfl, rfl, by decide +kernel, rfl, by decide +kernel, by decide +kernel⟩
theorem ok_Seen_sets_by_number {f C : Addr} {fd : FuncData} (F : Fun K "sets_by_number" "Seen.sets_by_number" s_Seen_sets_by_number f fd) (T : Glob mg) (C0 : SeC K C) : FnOk P w K mg base CX0 1 f fd ["self", "at"] (spSets C) := by
  refine F.ok sc_Seen_sets_by_number (fun vs H Q E h => ?_) (fun cdv A outer s H vs Q E hr h => ?_)
  · obtain ⟨p, dx, lt, pl, b, m, i, rfl, _⟩ := h
    rfl
  · obtain ⟨p, dx, lt, pl, b, m, i, rfl, hp, hpl, him, hP, kq⟩ := h
    have hu := hu_of hr
    have nd := sc_Seen_sets_by_number.nd
    refine ⟨_, (pss_cons (ps_set (i := 2) nd rfl (Or.inl rfl) pe_dnewK)
    (pss_cons (ps_for PassesOwn.never rfl (pi_enum (by rfl) T.g_enumerate (pa_cons (pe_fld (pv 0) rfl) pa_nil)) (pg_tup (by rfl) (pgs_cons (pg_name (i := 3) nd rfl (Or.inl rfl)) (pgs_cons (pg_name (i := 4) nd rfl (Or.inl rfl)) pgs_nil)))
    (pss_one (ps_dput hu (pv 2) (pe_ix ix_tup (pv 4) (pv 1) (fun _ _ => rfl)) (pe_op op_add (pe_dget2 hu (pv 2) (pe_ix ix_tup (pv 4) (pv 1) (fun _ _ => rfl)) pe_int ⟨rfl, rfl, rfl, rfl⟩) (pe_op op_shl pe_int (pv 3))) rfl)))
    (pss_one (ps_ret (pv 2))))), ?_⟩
    have zl : 16777216 = sizeLine := sizeLine_eq.symm
    refine seq_by (fun σ H1 => ∃ D : Addr, σ = [some (.ref p), some (.int (i : Int)), some (.ref D), none, none] ∧ Same H H1 ∧ H1 D = some (.dK []) ∧ H D = none) (fun D' hD' => ?_) ?_
    · exact fun D hD => hD' _ _ ⟨D, rfl, new_same hD, upd_same, hD⟩
    rintro σ H1 ⟨D, rfl, s1, h1, hDn⟩
    obtain ⟨ws, hws⟩ : ∃ ws, LTV H1 pl ws (dV b m) := (hpl.same s1).lenV
    have hwl : ws.length = (vecs m b).length := by rw [hws.2.1]; unfold dV; rw [List.length_map]
    have nD : pl ≠ D := ne_of hws.1 h1 (by intro z; cases z)
    refine ⟨_, rfl, p, C, dx, _, _, rfl, s1 _ _ hp, C0.cl, C0.n3, rfl, pl, _, rfl, SqL.of hws.1, ?_⟩
    refine for_it walk_enum (fun n σ H2 => ∃ a3 a4 : Option V, σ = [some (.ref p), some (.int (i : Int)), some (.ref D), a3, a4] ∧ Same H H2 ∧ LTV H2 pl ws (dV b m) ∧ HoldD H2 D b m i n)
      ⟨none, none, rfl, s1, hws, [], List.nodup_nil, fun p hp => absurd hp (Nat.not_lt_zero _), Nat.le_refl _, h1⟩ (fun n σ H2 _ h => by obtain ⟨_, _, _, _, h, _⟩ := h; exact SqL.of h.1) ?_ ?_
    · rintro n x σ H2 H3 hn ⟨a3, a4, rfl, s2, hw2, hd2⟩ ⟨T', x1, x2, rfl, hT, rfl, hx1, hx2⟩
      rw [hwl] at hn
      obtain rfl := Option.some.inj hx1
      have hx2 : ws[n]? = some x2 := hx2
      obtain ⟨q, v, hn', hvj, rfl, hq2⟩ := hw2.at hx2
      have hvv := hvj
      unfold dV at hvv
      rw [List.getElem?_map] at hvv
      obtain ⟨u, hu1, rfl⟩ := Option.map_eq_some_iff.mp hvv
      have hum := List.mem_of_getElem? hu1
      have hul := vecs_mem _ _ u hum
      have hplu : plN b m n = u := by unfold plN; rw [List.getD_eq_getElem?_getD, hu1]; rfl
      have hnum : numN b m i n = u.getD i 0 := by unfold numN; rw [hplu]
      have hat : ((dI u).map V.int)[i]? = some (.int ((numN b m i n : Nat) : Int)) := by
        have e : (dI u)[i]? = some ((u.getD i 0 : Nat) : Int) := by
          unfold dI
          rw [List.getElem?_map, List.getD_eq_getElem?_getD, List.getElem?_eq_getElem (show i < u.length by omega)]
          rfl
        rw [hnum]
        exact map_at_int e
      have st := new_same (o := .tup [V.int (n : Nat), .ref q]) hT
      have s3 := s2.trans st
      have hw3 := hw2.same st
      have hd3 := hd2.same st
      have hq3 := hq2.same st
      refine ⟨T', _, rfl, SqT.of upd_same, rfl, _, _, rfl, _, _, rfl, rfl, ?_⟩
      generalize upd H2 T' (.tup [V.int (n : Nat), .ref q]) = H3 at s3 hw3 hd3 hq3 ⊢
      obtain ⟨ks, k1, k2, k3, k4⟩ := hd3
      obtain ⟨old, o1, ks', c1, c2, c3, c4⟩ := hold_put (b := b) (m := m) (i := i) k1 k2 k3
      refine ⟨_, rfl, D, rfl, .inl ⟨_, .inl k4⟩, _, rfl, _, rfl, q, _, _, _, rfl, rfl, SqT.of hq3, atI_nat hat, _, DGet.k (k := kN (numN b m i n)) k4, ?_⟩
      refine ⟨_, rfl, _, _, rfl, rfl, ⟨by omega, by omega, by decide⟩, (old : Int), _, o1, rfl, ?_⟩
      rw [Int.toNat_natCast, Int.one_mul]
      refine ⟨_, rfl, _, rfl, _, rfl, q, _, _, _, rfl, rfl, SqT.of hq3, atI_nat hat, D, _, rfl, DPut.k (k := kN (numN b m i n)) k4 (by rw [ki_len]; omega), ?_⟩
      rw [c4]
      refine ⟨_, _, rfl, same_up s3 hDn, ?_, ks', c1, c2, c3, upd_same⟩
      refine ⟨by rw [upd_ne nD]; exact hw3.1, hw3.2.1, fun j xs e => let ⟨t, q1, q2⟩ := hw3.2.2 j xs e; ⟨t, q1, ?_⟩⟩
      show upd H3 D _ t = _
      rw [upd_ne (ne_of (show H3 t = some (.tup _) from q2) k4 (by intro z; cases z))]
      exact q2
    · rintro σ H2 ⟨a3, a4, rfl, s2, hw2, hd2⟩
      rw [hwl] at hd2
      exact ⟨_, rfl, kq D _ hDn s2 hd2⟩
end
end My

set_option pp.maxSteps 300
set_option Elab.async false
set_option linter.all false
set_option maxRecDepth 100000
set_option maxHeartbeats 1000000
namespace My
open PySem L2 MyR
/-! ### what some points show -/
def pN (ds : List Nat) (b : Nat) : Nat := (vecs ds.length b).length
structure Sh37 (ds : List Nat) (b : Nat) : Prop where
  m : ds.length = 1 ∨ ds.length = 2
  s : ds.sum ≤ 8
  b1 : 1 ≤ b
  b64 : b ≤ 64
  c : 2 ^ ds.sum * pN ds b ≤ 8
  b6 : b ≤ 6
theorem Sh37.p {ds : List Nat} {b : Nat} (h : Sh37 ds b) : pN ds b ≤ 8 ∧ 2 ^ ds.sum ≤ 256 := by
  have h1 := h.c
  have h2 : 1 ≤ 2 ^ ds.sum := Nat.one_le_two_pow
  have h3 : 1 * pN ds b ≤ 2 ^ ds.sum * pN ds b := Nat.mul_le_mul_right _ h2
  have h4 : (2 : Nat) ^ ds.sum ≤ 2 ^ 8 := Nat.pow_le_pow_right (by decide) h.s
  have h5 : (2 : Nat) ^ 8 = 256 := by decide
  omega
def EqD (H : Hp) (d : Addr) (Ec : Nat → Option Nat) (P : Nat) : Prop := ∃ kvs : List (Key × V), H d = some (.dK kvs) ∧ (∀ h : Nat, valV kvs (kN h) = (Ec h).map fun (r : Nat) => V.int (r : Int)) ∧ kvs.length = rows37 P Ec
theorem EqD.same {H H' : Hp} {d : Addr} {Ec : Nat → Option Nat} {P : Nat} (h : EqD H d Ec P) (s : Same H H') : EqD H' d Ec P := let ⟨k, a, b, c⟩ := h; ⟨k, s _ _ a, b, c⟩
theorem EqD.upd {H : Hp} {d a : Addr} {o : HO} {Ec : Nat → Option Nat} {P : Nat} (h : EqD H d Ec P) (n : d ≠ a) : EqD (upd H a o) d Ec P := let ⟨k, x, b, c⟩ := h; ⟨k, by rw [upd_ne n]; exact x, b, c⟩
theorem HoldD.upd {H : Hp} {d a : Addr} {o : HO} {b m i n : Nat} (h : HoldD H d b m i n) (q : d ≠ a) : HoldD (L2.upd H a o) d b m i n := let ⟨ks, h1, h2, h3, h4⟩ := h; ⟨ks, h1, h2, h3, by rw [upd_ne q]; exact h4⟩
theorem HoldD.ne {H : Hp} {d a : Addr} {o : HO} {b m i n : Nat} (h : HoldD H d b m i n) (e : H a = some o) (hn : ∀ k, o ≠ .dK k) : d ≠ a := let ⟨_, _, _, _, h4⟩ := h; ne_of h4 e fun z => hn _ z.symm
theorem EqD.ne {H : Hp} {d a : Addr} {o : HO} {Ec : Nat → Option Nat} {P : Nat} (h : EqD H d Ec P) (e : H a = some o) (hn : ∀ k, o ≠ .dK k) : d ≠ a := let ⟨_, h4, _⟩ := h; ne_of h4 e fun z => hn _ z.symm
theorem rows_none (P : Nat) : rows37 P (fun _ => none) = 0 := by
  unfold rows37
  rw [List.filter_eq_nil_iff.mpr fun x _ => by simp]
  rfl
structure SN where
  C : Addr
  s : Addr
  dx : Addr
  lt : Addr
  pl : Addr
  ho : Addr
  eq : Addr
  ke : Addr
  es : List Addr
  hs : List Addr
structure SeenAt (N : SN) (H : Hp) (ds : List Nat) (b : Nat) (E : Eqs) (ks : List Nat) : Prop where
  o : H N.s = some (.ins N.C N.dx [("loss", .ref N.lt), ("bits", .int (b : Int)), ("places", .ref N.pl), ("holding", .ref N.ho), ("equations", .ref N.eq), ("kept", .ref N.ke)])
  l : TupI H N.lt (dI ds)
  p : LTI H N.pl (dV b ds.length)
  h0 : H N.ho = some (.lst (N.hs.map V.ref))
  hl : N.hs.length = ds.length
  h : ∀ j, j < ds.length → ∃ d, N.hs[j]? = some d ∧ HoldD H d b ds.length j (pN ds b)
  e0 : H N.eq = some (.lst (N.es.map V.ref))
  el : N.es.length = 2 ^ ds.sum
  en : N.es.Nodup
  e : ∀ c, c < 2 ^ ds.sum → ∃ d, N.es[c]? = some d ∧ EqD H d (E c) (pN ds b)
  sep : ∀ d ∈ N.es, d ∉ N.hs
  k : LI H N.ke (dI ks)
  k1 : N.ke ≠ N.pl
  k2 : N.ke ≠ N.ho
  k3 : N.ke ≠ N.eq
theorem SeenAt.same {N : SN} {H H' : Hp} {ds : List Nat} {b : Nat} {E : Eqs} {ks : List Nat} (h : SeenAt N H ds b E ks) (s : Same H H') : SeenAt N H' ds b E ks :=
  ⟨s _ _ h.o, h.l.same s, h.p.same s, s _ _ h.h0, h.hl, fun j hj => let ⟨d, a, c⟩ := h.h j hj; ⟨d, a, c.same s⟩, s _ _ h.e0, h.el, h.en, fun j hj => let ⟨d, a, c⟩ := h.e j hj; ⟨d, a, c.same s⟩, h.sep, h.k.same s, h.k1, h.k2, h.k3⟩
def spSeen (C : Addr) : Sp := fun vs H Q _ => ∃ (p dx lt : Addr) (ds : List Nat) (b : Nat), vs = [.ref p, .ref lt, .int (b : Int)] ∧ H p = some (.ins C dx []) ∧ TupI H lt (dI ds) ∧ Sh37 ds b ∧
  ∀ (N : SN) H', N.s = p → N.C = C → N.lt = lt → SeenAt N H' ds b (fun _ _ => none) [] → SameP p H H' → H N.ke = none → (∀ d ∈ N.es, H d = none) → Q .non H'
theorem LTI.upd {H : Hp} {a x : Addr} {o u : HO} {xss : List (List Int)} (h : LTI H a xss) (n : a ≠ x) (e : H x = some u) (ht : ∀ xs, u ≠ .tup xs) : LTI (L2.upd H x o) a xss :=
  let ⟨as, e1, e2, e3⟩ := h
  ⟨as, by rw [upd_ne n]; exact e1, e2, fun i xs q => let ⟨p, q1, q2⟩ := e3 i xs q; ⟨p, q1, by
    show L2.upd H x o p = _
    rw [upd_ne (ne_of (show H p = some (.tup _) from q2) e fun z => ht _ z.symm)]
    exact q2⟩⟩
section
variable {P : Program} {w : World} {K : PySem.W.Frag} {mg : Str → Option Value} {base : Heap}
theorem ok_vec12b {f : Addr} {fd : FuncData} (h : ∀ m, FnOk P w K mg base CX0 (m + 3) f fd ["count", "bits"] (spVecs m)) : FnOk P w K mg base CX0 5 f fd ["count", "bits"] spVec12 := by
  refine ⟨fun vs H Q E ⟨m, hm, e⟩ => (h m).len vs H Q E e, fun A outer s H args us vs Q E hr he hb hv ⟨m, hm, hs⟩ => ?_⟩
  exact ((h m).mono (show m + 3 ≤ 5 by omega)).run A outer s H args us vs Q E hr he hb hv hs
abbrev s_Seen_init : Stmt := inClass (top 16) 0
abbrev N_Seen_init : List Str := ["self", "loss", "bits", "count", "at", "_"]
theorem sc_Seen_init : FnScope N_Seen_init ["self", "loss", "bits"] (defScope s_Seen_init) := ⟨rfl, rfl, rfl, by decide +kernel, rfl, by decide +kernel, by decide +kernel⟩
theorem ok_Seen_init {f C : Addr} {fd : FuncData} {tk : Nat} (F : Fun K "__init__" "Seen.__init__" s_Seen_init f fd) (T : Glob mg) (C0 : SeC K C) (g_sum : mg "sum" = none) (hMP : mg "MOST_POINTS" = some (.int 400 tk)) (D_count_points : Df P w K mg base 4 "count_points" ["loss", "bits"] spCountQ) (D_vector_list : Df P w K mg base 5 "vector_list" ["count", "bits"] spVec12) (MS : Mt P w K mg base C 1 "sets_by_number" ["self", "at"] (spSets C)) :
    FnOk P w K mg base CX0 6 f fd ["self", "loss", "bits"] (spSeen C) := by
  refine F.ok sc_Seen_init (fun vs H Q E h => ?_) (fun cdv A outer s H vs Q E hr h => ?_)
  · obtain ⟨p, dx, lt, ds, b, rfl, _⟩ := h
    rfl
  · obtain ⟨p, dx, lt, ds, b, rfl, hp, hl, ok, kq⟩ := h
    have nd := sc_Seen_init.nd
    refine ⟨_, (pss_cons (ps_set (i := 3) nd rfl (Or.inl rfl) (pe_call D_count_points.ok (hr.mono (by decide)) (by rfl) D_count_points.g D_count_points.kp D_count_points.b .nil pass0 (pa_cons (pv 1) (pa_cons (pv 2) pa_nil))))
    (pss_cons (ps_if (pt_cmpR op_gt (pv 3) (pe_glob (v := .int 400) rfl hMP ⟨_, rfl⟩) (nomark _))
    (pss_one ps_never)
    pss_nil)
    (pss_cons (ps_fld (pv 0) (pv 1) rfl)
    (pss_cons (ps_fld (pv 0) (pv 2) rfl)
    (pss_cons (ps_fld (pv 0) (pe_call D_vector_list.ok (hr.mono (by decide)) (by rfl) D_vector_list.g D_vector_list.kp D_vector_list.b .nil pass0 (pa_cons (pe_callB call_len_seq (by rfl) T.g_len PySem.boot_len (pa_cons (pv 1) pa_nil)) (pa_cons (pv 2) pa_nil))) rfl)
    (pss_cons (ps_fld (pv 0) (pe_lc (own := [("at", 4)]) (g := gName 4) (tt := tYes) rfl nd (pi_range1 (by rfl) T.g_range (pa_cons (pe_callB call_len_seq (by rfl) T.g_len PySem.boot_len (pa_cons (pv 1) pa_nil)) pa_nil)) (blkOk_by (N := N_Seen_init) (sc := defScope s_Seen_init) (by decide +kernel)) (fun _ _ _ _ _ => pg_name (i := 4) nd rfl (Or.inl rfl)) (fun _ _ _ _ _ => pts_nil) (fun _ _ _ _ _ => (pe_meth (pv 0) C0.cl MS.m MS.ok (hr.mono (by decide)) MS.b .nil pass0 (pa_cons (pv 4) pa_nil)))) rfl)
    (pss_cons (ps_fld (pv 0) (pe_lc (own := [("_", 5)]) (g := gName 5) (tt := tYes) rfl nd (pi_range1 (by rfl) T.g_range (pa_cons (pe_op op_shl pe_int (pe_callB (cr_sumK (K := K) rfl rfl) (by rfl) g_sum (by decide +kernel) (pa_cons (pv 1) pa_nil))) pa_nil)) (blkOk_by (N := N_Seen_init) (sc := defScope s_Seen_init) (by decide +kernel)) (fun _ _ _ _ _ => pg_name (i := 5) nd rfl (Or.inl rfl)) (fun _ _ _ _ _ => pts_nil) (fun _ _ _ _ _ => pe_dnewK)) rfl)
    (pss_one (ps_fld (pv 0) (pe_lst pa_nil) rfl))))))))), ?_⟩
    have zl : 16777216 = sizeLine := sizeLine_eq.symm
    have hm := ok.m
    have hb1 := ok.b1
    have hb := ok.b64
    have hs8 := ok.s
    obtain ⟨hP, hC⟩ := ok.p
    have hc := ok.c
    have hPv : (vecs ds.length b).length ≤ 8 := hP
    have hdl : ((dI ds).map V.int).length = ds.length := by rw [List.length_map]; unfold dI; rw [List.length_map]
    have n_lp : lt ≠ p := fun z => by
      have hl : H lt = _ := hl
      rw [z, hp] at hl
      cases hl
    refine seq_by (fun σ H1 => ∃ n : Int, n ≤ 400 ∧ σ = [some (.ref p), some (.ref lt), some (.int (b : Int)), some (.int n), none, none] ∧ Same H H1) (fun D' hD' => ?_) ?_
    · refine ⟨_, rfl, _, rfl, lt, ds, b, rfl, hl, by omega, by omega, hb1, hb, by omega, fun H1 s1 => hD' _ _ ⟨_, ?_, rfl, s1⟩⟩
      have e : (((vecs ds.length b).length : Int) * 2 ^ ds.sum) = ((2 ^ ds.sum * pN ds b : Nat) : Int) := by
        rw [Int.natCast_mul, Int.mul_comm, Int.natCast_pow]
        rfl
      rw [e]
      omega
    rintro σ H1 ⟨n, hn, rfl, s1⟩
    refine seq_by (fun σ H2 => H2 = H1 ∧ σ = [some (.ref p), some (.ref lt), some (.int (b : Int)), some (.int n), none, none]) (fun D' hD' => ?_) ?_
    · exact ⟨_, rfl, _, _, rfl, rfl, _, rfl, ite2 (fun z => absurd (of_decide_eq_true z) (by omega)) (fun _ => hD' _ _ ⟨rfl, rfl⟩)⟩
    rintro σ H2 ⟨rfl, rfl⟩
    refine seq_by (fun σ H3 => σ = [some (.ref p), some (.ref lt), some (.int (b : Int)), some (.int n), none, none] ∧ H3 p = some (.ins C dx [("loss", .ref lt)]) ∧ SameP p H H3) (fun D' hD' => ?_) ?_
    · exact ⟨_, rfl, _, rfl, p, C, dx, _, rfl, s1 _ _ hp, C0.cl, C0.n1, (by show 0 < 1000; decide), hD' _ _ ⟨rfl, upd_same, (SameP.of s1).up⟩⟩
    clear s1
    rintro σ H3 ⟨rfl, h3, s3⟩
    refine seq_by (fun σ H4 => σ = [some (.ref p), some (.ref lt), some (.int (b : Int)), some (.int n), none, none] ∧ H4 p = some (.ins C dx [("loss", .ref lt), ("bits", .int (b : Int))]) ∧ SameP p H H4) (fun D' hD' => ?_) ?_
    · exact ⟨_, rfl, _, rfl, p, C, dx, _, rfl, h3, C0.cl, C0.n2, (by show 1 < 1000; decide), hD' _ _ ⟨rfl, upd_same, s3.up⟩⟩
    clear h3 s3
    rintro σ H4 ⟨rfl, h4, s4⟩
    refine seq_by (fun σ H5 => ∃ pl : Addr, σ = [some (.ref p), some (.ref lt), some (.int (b : Int)), some (.int n), none, none] ∧ H5 p = some (.ins C dx [("loss", .ref lt), ("bits", .int (b : Int)), ("places", .ref pl)]) ∧ SameP p H H5 ∧ LTI H5 pl (dV b ds.length) ∧ pl ≠ p) (fun D' hD' => ?_) ?_
    · have hl4 := hl.sp s4 n_lp
      refine ⟨_, rfl, lt, _, rfl, .inr (SqT.of hl4), _, rfl, ds.length, hm, b, ?_, hb1, hb, by omega, by omega, fun L H5 hL s5 hl5 => ?_⟩
      · rw [hdl]
        rfl
      have nLp : L ≠ p := (ne_of_none h4 hL).symm
      exact ⟨_, rfl, p, C, dx, _, rfl, s5 _ _ h4, C0.cl, C0.n3, (by show 2 < 1000; decide), hD' _ _ ⟨L, rfl, upd_same, (s4.trans (SameP.of s5)).up, hl5.upd nLp (s5 _ _ h4) (fun _ z => by cases z), nLp⟩⟩
    clear h4 s4
    rintro σ H5 ⟨pl, rfl, h5, s5, hp5, n_pp⟩
    have fr : ∀ {H6 : Hp}, SameP p H H6 → H6 p ≠ none → ∀ q : Addr, H6 q = none → H q = none ∧ q ≠ p := fun {H6} s6 n6 q hq => by
      have z : q ≠ p := fun z => n6 (z ▸ hq)
      cases e : H q with
      | none => exact ⟨rfl, z⟩
      | some o => rw [s6 q o e z] at hq; cases hq
    refine seq_by (fun σ H6 => ∃ (ho : Addr) (hs : List Addr), σ = [some (.ref p), some (.ref lt), some (.int (b : Int)), some (.int n), none, none] ∧ H6 p = some (.ins C dx [("loss", .ref lt), ("bits", .int (b : Int)), ("places", .ref pl), ("holding", .ref ho)]) ∧ SameP p H H6 ∧ LTI H6 pl (dV b ds.length) ∧ H6 ho = some (.lst (hs.map V.ref)) ∧ ho ≠ p ∧ hs.length = ds.length ∧ ∀ j, j < ds.length → ∃ d, hs[j]? = some d ∧ HoldD H6 d b ds.length j (pN ds b)) (fun D' hD' => ?_) ?_
    · have hl5 := hl.sp s5 n_lp
      refine ⟨_, rfl, lt, _, rfl, .inr (SqT.of hl5), (ds.length : Int), ?_, by omega, by omega, ?_⟩
      · rw [hdl]
      rw [Int.toNat_natCast]
      intro G hG
      have nGp : G ≠ p := (ne_of_none h5 hG).symm
      refine lc_range (lo := 0) (n := ds.length) (fun i H6 => Same H5 H6 ∧ ∃ hs : List Addr, H6 G = some (.lst (hs.map V.ref)) ∧ hs.length = i ∧ ∀ j, j < i → ∃ d, hs[j]? = some d ∧ HoldD H6 d b ds.length j (pN ds b))
        ⟨new_same hG, [], upd_same, rfl, fun j hj => absurd hj (Nat.not_lt_zero _)⟩ ?_ ?_
      · rintro i H6 hi ⟨s6, hs, g1, g2, g3⟩
        refine ⟨rfl, ?_⟩
        dsimp only [tYes]
        rw [if_pos rfl]
        refine ⟨_, rfl, p, dx, _, rfl, s6 _ _ h5, rfl, _, rfl, p, dx, lt, pl, b, ds.length, i, ?_, s6 _ _ h5, hp5.same s6, hi, by omega, fun D H7 hD s7 hd7 => ?_⟩
        · rw [Int.zero_add]
          rfl
        have g1' := s7 _ _ g1
        have nDG : D ≠ G := hd7.ne g1' fun _ z => by cases z
        refine ⟨_, g1', by rw [List.length_map]; omega, same_up (s6.trans s7) hG, hs ++ [D], by rw [upd_same, List.map_append]; rfl, by rw [List.length_append, g2]; rfl, fun j hj => ?_⟩
        by_cases e : j = i
        · subst e
          exact ⟨D, by rw [List.getElem?_append_right (by omega), g2, Nat.sub_self]; rfl, hd7.upd nDG⟩
        · obtain ⟨d, q1, q2⟩ := g3 j (by omega)
          have q2' := q2.same s7
          exact ⟨d, by rw [List.getElem?_append_left (by omega)]; exact q1, q2'.upd (q2'.ne g1' fun _ z => by cases z)⟩
      · rintro H6 ⟨s6, hs, g1, g2, g3⟩
        have h6 := s6 _ _ h5
        exact ⟨_, rfl, p, C, dx, _, rfl, h6, C0.cl, C0.n4, (by show 3 < 1000; decide), hD' _ _ ⟨G, hs, rfl, upd_same, (s5.trans (SameP.of s6)).up, (hp5.same s6).upd n_pp h6 (fun _ z => by cases z), by rw [upd_ne nGp]; exact g1, nGp, g2, fun j hj => let ⟨d, q1, q2⟩ := g3 j hj; ⟨d, q1, q2.upd (q2.ne h6 fun _ z => by cases z)⟩⟩⟩
    clear h5 s5 hp5
    rintro σ H6 ⟨ho, hs, rfl, h6, s6, hp6, hh6, n_hp, hhl, hh⟩
    refine seq_by (fun σ H7 => ∃ (eq : Addr) (es : List Addr), σ = [some (.ref p), some (.ref lt), some (.int (b : Int)), some (.int n), none, none] ∧ H7 p = some (.ins C dx [("loss", .ref lt), ("bits", .int (b : Int)), ("places", .ref pl), ("holding", .ref ho), ("equations", .ref eq)]) ∧ SameP p H H7 ∧ LTI H7 pl (dV b ds.length) ∧ H7 ho = some (.lst (hs.map V.ref)) ∧ (∀ j, j < ds.length → ∃ d, hs[j]? = some d ∧ HoldD H7 d b ds.length j (pN ds b)) ∧ H7 eq = some (.lst (es.map V.ref)) ∧ eq ≠ p ∧ es.length = 2 ^ ds.sum ∧ es.Nodup ∧ ∀ d ∈ es, H6 d = none ∧ H7 d = some (.dK [])) (fun D' hD' => ?_) ?_
    · have hl6 := hl.sp s6 n_lp
      refine ⟨_, rfl, true, lt, _, rfl, sqK_t (SqT.of hl6), ?_⟩
      rw [show (dI ds).sum = (ds.sum : Int) from nat_sum ds]
      obtain ⟨Cn, hCn⟩ : ∃ Cn : Nat, Cn = 2 ^ ds.sum := ⟨_, rfl⟩
      have hNi : (1 : Int) * 2 ^ (ds.sum : Int).toNat = (Cn : Int) := by
        rw [hCn, Int.toNat_natCast, Int.one_mul, Int.natCast_pow]
        rfl
      have hC' : Cn ≤ 256 := by rw [hCn]; exact hC
      refine ⟨_, _, rfl, rfl, ⟨by omega, by omega, by decide⟩, (Cn : Int), (by show [V.int _] = [V.int _]; rw [hNi]), by omega, by omega, ?_⟩
      rw [Int.toNat_natCast]
      intro G hG
      have nGp : G ≠ p := (ne_of_none h6 hG).symm
      refine lc_range (lo := 0) (n := Cn) (fun i H7 => Same H6 H7 ∧ ∃ es : List Addr, H7 G = some (.lst (es.map V.ref)) ∧ es.length = i ∧ es.Nodup ∧ ∀ d ∈ es, H6 d = none ∧ H7 d = some (.dK []))
        ⟨new_same hG, [], upd_same, rfl, List.nodup_nil, fun d hd => absurd hd (by simp)⟩ ?_ ?_
      · rintro i H7 hi ⟨s7, es, g1, g2, g3, g4⟩
        refine ⟨rfl, ?_⟩
        dsimp only [tYes]
        rw [if_pos rfl]
        intro D hD
        have sD := new_same (o := .dK []) hD
        have nGD : G ≠ D := ne_of_none g1 hD
        have hDes : D ∉ es := fun z => by
          rw [(g4 D z).2] at hD
          cases hD
        refine ⟨_, sD _ _ g1, by rw [List.length_map]; omega, same_up (s7.trans sD) hG, es ++ [D], by rw [upd_same, List.map_append]; rfl, by rw [List.length_append, g2]; rfl, nd_snoc g3 hDes, fun d hd => ?_⟩
        rcases List.mem_append.mp hd with hd | hd
        · obtain ⟨q1, q2⟩ := g4 d hd
          have nd' : d ≠ G := ne_of q2 g1 (by intro z; cases z)
          exact ⟨q1, by rw [upd_ne nd']; exact sD _ _ q2⟩
        · rw [List.mem_singleton.mp hd]
          exact ⟨same_free s7 hD, by rw [upd_ne (Ne.symm nGD)]; exact upd_same⟩
      · rintro H7 ⟨s7, es, g1, g2, g3, g4⟩
        have h7 := s7 _ _ h6
        refine ⟨_, rfl, p, C, dx, _, rfl, h7, C0.cl, C0.n5, (by show 4 < 1000; decide), hD' _ _ ⟨G, es, rfl, upd_same, (s6.trans (SameP.of s7)).up, (hp6.same s7).upd n_pp h7 (fun _ z => by cases z), by rw [upd_ne n_hp]; exact s7 _ _ hh6, fun j hj => ?_, by rw [upd_ne nGp]; exact g1, nGp, g2.trans hCn, g3, fun d hd => ?_⟩⟩
        · obtain ⟨d, q1, q2⟩ := hh j hj
          have q2' := q2.same s7
          exact ⟨d, q1, q2'.upd (q2'.ne h7 fun _ z => by cases z)⟩
        · obtain ⟨q1, q2⟩ := g4 d hd
          exact ⟨q1, by rw [upd_ne (ne_of q2 h7 (by intro z; cases z))]; exact q2⟩
    have sepF : ∀ {es : List Addr}, (∀ d ∈ es, H6 d = none) → ∀ d ∈ es, d ∉ hs := fun {es} g d hd hh' => by
      obtain ⟨j, hj, e⟩ := List.getElem_of_mem hh'
      obtain ⟨d', q1, ks, _, _, _, q2⟩ := hh j (by omega)
      rw [List.getElem?_eq_getElem hj, e] at q1
      obtain rfl := Option.some.inj q1
      rw [g _ hd] at q2
      cases q2
    have frE : ∀ {es : List Addr}, (∀ d ∈ es, H6 d = none) → ∀ d ∈ es, H d = none := fun {es} g d hd => (fr s6 (by rw [h6]; exact fun z => by cases z) d (g d hd)).1
    clear hh hh6
    rintro σ H7 ⟨eq, es, rfl, h7, s7, hp7, hh7, hh, he7, n_ep, hel, hen, hes⟩
    refine ⟨(by show 0 ≤ sizeLine; omega), fun L hL => ?_⟩
    have nLp : L ≠ p := (ne_of_none h7 hL).symm
    have sL := new_same (o := .lst []) hL
    obtain ⟨frL, _⟩ := fr s7 (by rw [h7]; exact fun z => by cases z) L hL
    refine ⟨_, rfl, p, C, dx, _, rfl, sL _ _ h7, C0.cl, C0.n6, (by show 5 < 1000; decide), ?_⟩
    have h8 : (upd H7 L (.lst [])) p = _ := sL _ _ h7
    have sp8 : SameP p H (upd (upd H7 L (.lst [])) p (.ins C dx [("loss", .ref lt), ("bits", .int (b : Int)), ("places", .ref pl), ("holding", .ref ho), ("equations", .ref eq), ("kept", .ref L)])) := (s7.trans (SameP.of sL)).up
    refine kq ⟨C, p, dx, lt, pl, ho, eq, L, es, hs⟩ _ rfl rfl rfl ?_ sp8 frL (frE fun d hd => (hes d hd).1)
    have up : ∀ {a : Addr} {o : HO}, H7 a = some o → a ≠ p → (upd (upd H7 L (.lst [])) p (.ins C dx [("loss", .ref lt), ("bits", .int (b : Int)), ("places", .ref pl), ("holding", .ref ho), ("equations", .ref eq), ("kept", .ref L)])) a = some o := fun {a o} e n => by
      rw [upd_ne n]
      exact sL _ _ e
    have hpl : pl ≠ L := by
      obtain ⟨as, e1, _⟩ := hp7
      exact ne_of_none e1 hL
    exact { o := upd_same
            l := hl.sp sp8 n_lp
            p := (hp7.same sL).upd n_pp h8 (fun _ z => by cases z)
            h0 := up hh7 n_hp
            hl := hhl
            h := fun j hj => by
              obtain ⟨d, q1, q2⟩ := hh j hj
              have q2' := q2.same sL
              exact ⟨d, q1, q2'.upd (q2'.ne h8 fun _ z => by cases z)⟩
            e0 := up he7 n_ep
            el := hel
            en := hen
            e := fun c hc' => by
              have hce : c < es.length := by rw [hel]; exact hc'
              have hm' := List.getElem_mem hce
              have q := (hes _ hm').2
              exact ⟨es[c], List.getElem?_eq_getElem hce, [], up q (ne_of q h7 (by intro z; cases z)), fun h => rfl, (rows_none _).symm⟩
            sep := sepF fun d hd => (hes d hd).1
            k := by
              show upd _ p _ L = _
              rw [upd_ne nLp]
              exact upd_same
            k1 := Ne.symm hpl
            k2 := Ne.symm (ne_of_none hh7 hL)
            k3 := Ne.symm (ne_of_none he7 hL) }
end
end My

set_option pp.maxSteps 300
set_option Elab.async false
set_option linter.all false
set_option maxRecDepth 100000
set_option maxHeartbeats 1000000
namespace My
open PySem L2 MyR
/-! ### the vectors whose binomials are odd -/
theorem map_getX {α : Type} (d : α) : ∀ (xs : List α), (List.range xs.length).map (fun k => xs.getD k d) = xs := fun xs => by
  refine List.ext_getElem (by simp) fun i h1 h2 => ?_
  simp [List.getD_eq_getElem?_getD, List.getElem?_eq_getElem h2]
theorem unlock_same {H H' : Hp} {d : Addr} {u : HO} {od : PySem.Obj} (hd : H d = some u) (s : Same (upd H d (.frz od u)) H') : Same H (upd H' d u) := fun a o e => by
  by_cases h : a = d
  · rw [h, upd_same]
    rw [h, hd] at e
    exact e
  · rw [upd_ne h]
    exact s a o (by rw [upd_ne h]; exact e)
theorem plN_len {b m p : Nat} (hp : p < (vecs m b).length) : (plN b m p).length = m := by
  unfold plN
  rw [List.getD_eq_getElem?_getD, List.getElem?_eq_getElem hp]
  exact vecs_mem _ _ _ (List.getElem_mem hp)
theorem fold_odd (b m : Nat) (zs : List Int) (hz : zs.length = m) : foldM (vecs m b).length (fun p k => numN b m k p) (fun k => zs.getD k 0) m = oddM (vecs m b).length (plN b m) zs := by
  rw [foldM_eq]
  unfold oddM
  refine mask_congr _ _ _ fun p hp => ?_
  have h1 : (List.range m).map (fun k => zs.getD k 0) = zs := by rw [← hz]; exact map_getX 0 zs
  have h2 : (List.range m).map (fun k => numN b m k p) = plN b m p := by
    have := map_getX 0 (plN b m p)
    rw [plN_len hp] at this
    exact this
  rw [h1, h2]
theorem sum_nats : ∀ ns : List Nat, (ns.map fun (n : Nat) => (n : Int)).sum = ((ns.foldr (· + ·) 0 : Nat) : Int)
  | [] => rfl
  | n :: ns => by
    rw [List.map_cons, List.sum_cons, sum_nats ns, List.foldr_cons, Int.natCast_add]
theorem and_nats (a c : Nat) : Builtin.bitAnd (a : Int) (c : Int) = ((a &&& c : Nat) : Int) := by
  rw [PyProof.Rows.bitAnd_pp (by omega) (by omega), Int.toNat_natCast, Int.toNat_natCast]
/-- the masks of the numbers that have only bits of z, out of the dict -/
def selD (ks : List Nat) (P : Nat) (num : Nat → Nat) (z : Int) : List Nat := (ks.filter (lu z)).map fun k => maskN P fun p => decide (num p = k)
def spOdd (C : Addr) : Sp := fun vs H Q _ => ∃ (N : SN) (zl : Addr) (ds : List Nat) (b : Nat) (E : Eqs) (ks : List Nat) (zs : List Int), vs = [.ref N.s, .ref zl] ∧ N.C = C ∧ SeenAt N H ds b E ks ∧ Sh37 ds b ∧ LI H zl zs ∧ zs.length = ds.length ∧
  ∀ H', Same H H' → Q (.int (oddM (pN ds b) (plN b ds.length) zs : Int)) H'
section
variable {P : Program} {w : World} {K : PySem.W.Frag} {mg : Str → Option Value} {base : Heap}
abbrev s_Seen_odd_at : Stmt := inClass (top 16) 2
abbrev N_Seen_odd_at : List Str := ["self", "place", "found", "sets", "z", "number", "members"]
theorem sc_Seen_odd_at : FnScope N_Seen_odd_at ["self", "place"] (defScope s_Seen_odd_at) := ⟨rfl, rfl, rfl, by decide +kernel, rfl, by decide +kernel, by decide +kernel⟩
theorem ok_Seen_odd_at {f C : Addr} {fd : FuncData} (F : Fun K "odd_at" "Seen.odd_at" s_Seen_odd_at f fd) (T : Glob mg) (g_sum : mg "sum" = none) (C0 : SeC K C) : FnOk P w K mg base CX0 1 f fd ["self", "place"] (spOdd C) := by
  refine F.ok sc_Seen_odd_at (fun vs H Q E h => ?_) (fun cdv A outer s H vs Q E hr h => ?_)
  · obtain ⟨N, zl, ds, b, E, ks, zs, rfl, _⟩ := h
    rfl
  · obtain ⟨N, zl, ds, b, E, ks, zs, rfl, rfl, S, ok, hz, hzl, kq⟩ := h
    have nd := sc_Seen_odd_at.nd
    refine ⟨_, (pss_cons (ps_set (i := 2) nd rfl (Or.inl rfl) (pe_op op_sub (pe_op op_shl pe_int (pe_callB call_len_seq (by rfl) T.g_len PySem.boot_len (pa_cons (pe_fld (pv 0) rfl) pa_nil))) pe_int))
    (pss_cons (ps_for PassesOwn.never rfl (pi_zipK (by rfl) T.g_zip (pa_cons (pe_fld (pv 0) rfl) (pa_cons (pv 1) pa_nil))) (pg_tup (by rfl) (pgs_cons (pg_name (i := 3) nd rfl (Or.inl rfl)) (pgs_cons (pg_name (i := 4) nd rfl (Or.inr rfl)) pgs_nil)))
    (pss_one (ps_set (i := 2) nd rfl (Or.inl rfl) (pe_op op_and (pv 2) (pe_callB (cr_sum rfl) (by rfl) g_sum (by decide +kernel) (pa_cons (pe_lock (pe_lc (own := [("number", 5), ("members", 6)]) (g := gTup K 2 (gCons (gName 5) (gCons (gName 6) gNil))) rfl nd (pi_items (pv 3)) (blkOk_by (N := N_Seen_odd_at) (sc := defScope s_Seen_odd_at) (by decide +kernel)) (fun _ _ _ _ _ => pg_tup (by rfl) (pgs_cons (pg_name (i := 5) nd rfl (Or.inl rfl)) (pgs_cons (pg_name (i := 6) nd rfl (Or.inl rfl)) pgs_nil))) (fun _ _ _ _ _ => pts_one (pt_cmpR op_eq (pe_op op_and (pv 5) (pe_un un_inv (pv 4))) pe_int (nomark _))) (fun _ _ _ _ _ => (pv 6)))) pa_nil))))))
    (pss_one (ps_ret (pv 2))))), ?_⟩
    have zl' : 16777216 = sizeLine := sizeLine_eq.symm
    obtain ⟨hP, hC⟩ := ok.p
    have hPv : (vecs ds.length b).length ≤ 8 := hP
    obtain ⟨m, hmm⟩ : ∃ m, m = ds.length := ⟨_, rfl⟩
    have hm := ok.m
    obtain ⟨Pn, hPn⟩ : ∃ Pn, Pn = pN ds b := ⟨_, rfl⟩
    refine seq_by (fun σ H1 => H1 = H ∧ σ = [some (.ref N.s), some (.ref zl), some (.int ((2 ^ Pn - 1 : Nat) : Int)), none, none, none, none]) (fun D' hD' => ?_) ?_
    · obtain ⟨as, e1, e2, e3⟩ := S.p
      have e4 : (as.map V.ref).length = Pn := by rw [List.length_map, e2, hPn]; unfold dV pN; rw [List.length_map]
      refine ⟨_, rfl, N.s, N.C, N.dx, _, _, rfl, S.o, C0.cl, C0.n3, rfl, N.pl, _, rfl, .inl (SqL.of e1), _, _, rfl, rfl, ⟨by omega, by rw [e4]; omega, by decide⟩, _, _, rfl, rfl, hD' _ _ ⟨rfl, ?_⟩⟩
      rw [e4, Int.toNat_natCast, Int.one_mul]
      have h2 : 1 ≤ 2 ^ Pn := Nat.one_le_two_pow
      have e5 : ((2 ^ Pn - 1 : Nat) : Int) = 2 ^ Pn - 1 := by
        rw [Int.natCast_sub h2, Int.natCast_pow]
        rfl
      rw [e5]
      rfl
    rintro σ H1 ⟨rfl, rfl⟩
    have hhl : (N.hs.map V.ref).length = ds.length := by rw [List.length_map, S.hl]
    have hzz : (zs.map V.int).length = ds.length := by rw [List.length_map, hzl]
    refine ⟨_, rfl, N.s, N.C, N.dx, _, _, rfl, S.o, C0.cl, C0.n4, rfl, _, rfl, false, false, N.ho, zl, _, _, rfl, sqK_l (SqL.of S.h0), sqK_l (SqL.of hz), ?_⟩
    refine for_it (walk_zipK (xs := N.hs.map V.ref) (ys := zs.map V.int) (by rw [hhl, hzz])) (fun i σ H2 => ∃ a3 a4 : Option V, σ = [some (.ref N.s), some (.ref zl), some (.int ((foldM Pn (fun p k => numN b ds.length k p) (fun k => zs.getD k 0) i : Nat) : Int)), a3, a4, none, none] ∧ Same H1 H2)
      ⟨none, none, rfl, fun _ _ e => e⟩ (fun i σ H2 _ h => by obtain ⟨_, _, _, h⟩ := h; exact ⟨sqK_l (SqL.of (h _ _ S.h0)), sqK_l (SqL.of (hz.same h))⟩) ?_ ?_
    · rintro i x σ H2 H3 hi ⟨a3, a4, rfl, s2⟩ ⟨T', x1, x2, rfl, hT, rfl, hx1, hx2⟩
      rw [hhl] at hi
      obtain ⟨d, q1, ks', c1, c2, c3, q2⟩ := S.h i hi
      have hx1 : (N.hs.map V.ref)[i]? = some x1 := hx1
      have hx2 : (zs.map V.int)[i]? = some x2 := hx2
      rw [List.getElem?_map, q1] at hx1
      obtain rfl := Option.some.inj hx1
      have hzi : zs[i]? = some (zs.getD i 0) := by rw [List.getD_eq_getElem?_getD, List.getElem?_eq_getElem (show i < zs.length by omega)]; rfl
      rw [map_at_int hzi] at hx2
      obtain rfl := Option.some.inj hx2
      have st := new_same (o := .tup [V.ref d, .int (zs.getD i 0)]) hT
      have s3 := s2.trans st
      refine ⟨T', _, rfl, SqT.of upd_same, rfl, _, _, rfl, _, _, rfl, rfl, ?_⟩
      generalize upd H2 T' (.tup [V.ref d, .int (zs.getD i 0)]) = H3 at s3 ⊢
      have hd3 := s3 _ _ q2
      rw [← hPn] at hd3 c2 c3
      refine ⟨_, rfl, d, _, hd3, trivial, fun od => ⟨_, rfl, d, od, _, rfl, upd_same, fun D hD => ?_⟩⟩
      refine lc_it walk_items (fun j H5 => Same (upd H3 d (.frz od (.dK (kiL ks' fun k => maskN Pn fun p => decide (numN b ds.length i p = k))))) H5 ∧ LI H5 D ((selD (ks'.take j) Pn (numN b ds.length i) (zs.getD i 0)).map fun (n : Nat) => (n : Int))) ⟨new_same hD, upd_same⟩ (fun j H5 _ h => h.1 _ _ upd_same) ?_ ?_
      · rintro j x H5 H6 hj ⟨s5, h5⟩ ⟨T2, y1, y2, rfl, hT2, rfl, hy1, hy2⟩
        rw [ki_len] at hj
        have hkj : ks'[j]? = some ks'[j] := List.getElem?_eq_getElem hj
        have hent : (kiL ks' fun k => maskN Pn fun p => decide (numN b ds.length i p = k))[j]? = some (kN ks'[j], V.int ((maskN Pn fun p => decide (numN b ds.length i p = ks'[j]) : Nat) : Int)) := by
          unfold kiL
          rw [List.getElem?_map, hkj]
          rfl
        have hy1 : ((kiL ks' fun k => maskN Pn fun p => decide (numN b ds.length i p = k))[j]?.map fun kv => kV kv.1) = some y1 := hy1
        have hy2 : ((kiL ks' fun k => maskN Pn fun p => decide (numN b ds.length i p = k))[j]?.map Prod.snd) = some y2 := hy2
        rw [hent] at hy1 hy2
        obtain rfl : V.int (ks'[j] : Int) = y1 := Option.some.inj hy1
        obtain rfl := Option.some.inj hy2
        have st2 := new_same (o := .tup [V.int (ks'[j] : Int), .int ((maskN Pn fun p => decide (numN b ds.length i p = ks'[j]) : Nat) : Int)]) hT2
        have s6 := s5.trans st2
        have h6 := h5.same st2
        refine ⟨T2, _, rfl, SqT.of upd_same, rfl, _, _, rfl, _, _, rfl, rfl, rfl, ?_⟩
        generalize upd H5 T2 (.tup [V.int (ks'[j] : Int), .int ((maskN Pn fun p => decide (numN b ds.length i p = ks'[j]) : Nat) : Int)]) = H6 at s6 h6 ⊢
        have sel : selD (ks'.take (j + 1)) Pn (numN b ds.length i) (zs.getD i 0) = selD (ks'.take j) Pn (numN b ds.length i) (zs.getD i 0) ++ if lu (zs.getD i 0) ks'[j] = true then [maskN Pn fun p => decide (numN b ds.length i p = ks'[j])] else [] := by
          unfold selD
          rw [List.take_succ, hkj, List.filter_append, List.map_append]
          congr 1
          show List.map _ (List.filter _ [ks'[j]]) = _
          by_cases e : lu (zs.getD i 0) ks'[j] = true
          · rw [if_pos e, List.filter_cons, if_pos e]
            rfl
          · rw [if_neg e, List.filter_cons, if_neg e]
            rfl
        have slen : ((selD (ks'.take j) Pn (numN b ds.length i) (zs.getD i 0)).map fun (n : Nat) => (n : Int)).length ≤ 100 := by
          rw [List.length_map]
          unfold selD
          rw [List.length_map]
          have h1 := List.length_filter_le (lu (zs.getD i 0)) (ks'.take j)
          rw [List.length_take] at h1
          omega
        refine ⟨_, rfl, _, rfl, _, rfl, _, _, rfl, rfl, rfl, _, rfl, ?_⟩
        refine ite2 (fun hz2 => ?_) (fun hz2 => ?_)
        · have hz2 : Builtin.bitAnd (ks'[j] : Int) (Builtin.bitNot (zs.getD i 0)) = 0 := V.int.inj (of_decide_eq_true hz2)
          have hz3 := (lu_test _ _).mp hz2
          refine ⟨_, rfl, _, h6, by rw [List.length_map]; omega, same_up s6 hD, ?_⟩
          rw [sel, if_pos hz3, List.map_append]
          exact li_snoc
        · have hz3 : ¬ lu (zs.getD i 0) ks'[j] = true := fun q => hz2 (decide_eq_true (congrArg V.int ((lu_test _ _).mpr q)))
          refine ⟨s6, ?_⟩
          rw [sel, if_neg hz3, List.append_nil]
          exact h6
      · rintro H5 ⟨s5, h5⟩
        rw [ki_len, List.take_length] at h5
        have hd5 := s5 _ _ upd_same
        have nDd : D ≠ d := fun z => by
          rw [z, upd_same] at hD
          cases hD
        have s35 := unlock_same hd3 s5
        have h6 : LI (upd H5 d (.dK (kiL ks' fun k => maskN Pn fun p => decide (numN b ds.length i p = k)))) D ((selD ks' Pn (numN b ds.length i) (zs.getD i 0)).map fun (n : Nat) => (n : Int)) := by
          show upd _ _ _ _ = _
          rw [upd_ne nDd]
          exact h5
        generalize upd H5 d (.dK (kiL ks' fun k => maskN Pn fun p => decide (numN b ds.length i p = k))) = H6 at s35 h6 ⊢
        refine ⟨hd5, D, _, rfl, SqL.of h6, _, _, rfl, rfl, ?_⟩
        have e : (selD ks' Pn (numN b ds.length i) (zs.getD i 0)).foldr (· + ·) 0 = maskN Pn fun p => lu (zs.getD i 0) (numN b ds.length i p) := mask_test Pn (numN b ds.length i) (lu (zs.getD i 0)) ks' c1 c2
        refine ⟨some (.ref d), some (.int (zs.getD i 0)), ?_, s3.trans s35⟩
        rw [sum_nats, e]
        dsimp only
        rw [and_nats]
        rfl
    · rintro σ H2 ⟨a3, a4, rfl, s2⟩
      rw [hhl, hPn] at *
      refine ⟨_, rfl, ?_⟩
      have e : foldM (pN ds b) (fun p k => numN b ds.length k p) (fun k => zs.getD k 0) ds.length = oddM (pN ds b) (plN b ds.length) zs := fold_odd b ds.length zs hzl
      rw [e]
      exact kq H2 s2
end
end My

set_option pp.maxSteps 300
set_option Elab.async false
set_option linter.all false
set_option maxRecDepth 100000
set_option maxHeartbeats 1000000
namespace My
open PySem L2 MyR
/-! ### a point is looked at -/
def varsI (ds : List Nat) (xs : List Int) : List Int := (List.range ds.length).map (vrI ds xs)
def clsN (ds : List Nat) (xs : List Int) : Nat := (gA ds xs ds.length).toNat
def oddV (ds : List Nat) (b : Nat) (xs : List Int) : Nat := oddM (pN ds b) (plN b ds.length) (varsI ds xs)
theorem cls_int (ds : List Nat) (xs : List Int) : ((clsN ds xs : Nat) : Int) = gA ds xs ds.length := by
  unfold clsN
  have := (gA_lt ds xs ds.length).1
  omega
theorem cls_lt {ds : List Nat} {b : Nat} (ok : Sh37 ds b) (xs : List Int) : clsN ds xs < 2 ^ ds.sum := by
  have h := (gA_lt ds xs ds.length).2
  have h2 := (sA_le ok.m ok.s ds.length (Nat.le_refl _)).2
  rw [h2, ← cls_int] at h
  have e : ((2 ^ ds.sum : Nat) : Int) = 2 ^ ds.sum := by rw [Int.natCast_pow]; rfl
  rw [← e] at h
  exact Int.ofNat_lt.mp h
theorem oddV_lt (ds : List Nat) (b : Nat) (xs : List Int) : oddV ds b xs < 2 ^ pN ds b := oddM_lt _ _ _
theorem upd_keep {H : Hp} {a x : Addr} {o u : HO} (e : H a = some o) (n : a ≠ x) : upd H x u a = some o := by rw [upd_ne n]; exact e
theorem xor_nats (a c : Nat) : Builtin.bitXor (a : Int) (c : Int) = ((a ^^^ c : Nat) : Int) := by
  rw [Bits.bitXor_pp (by omega) (by omega), Int.toNat_natCast, Int.toNat_natCast]
theorem eq_get {H : Hp} {d : Addr} {kvs : List (Key × V)} (h : Nat) (e : H d = some (.dK kvs)) : DGet H d (.int (h : Int)) (valV kvs (kN h)) := DGet.k (k := kN h) e
theorem SeenAt.put {N : SN} {H : Hp} {ds : List Nat} {b : Nat} {E : Eqs} {ks : List Nat} {c r at' : Nat} {d : Addr} {kvs : List (Key × V)} (S : SeenAt N H ds b E ks) (hc : c < 2 ^ ds.sum) (hd : N.es[c]? = some d) (hk : H d = some (.dK kvs))
    (hv : ∀ h : Nat, valV kvs (kN h) = (E c h).map fun (r : Nat) => V.int (r : Int)) (hl : kvs.length = rows37 (pN ds b) (E c)) (hn : E c r.log2 = none) (hr : r.log2 < pN ds b) :
    SeenAt N (upd (upd H d (.dK (putK kvs (kN r.log2) (.int (r : Int))))) N.ke (.lst ((dI ks).map V.int ++ [.int (at' : Int)]))) ds b (putE E c r) (ks ++ [at']) := by
  have hke : H N.ke = some (.lst ((dI ks).map V.int)) := S.k
  have ndk : d ≠ N.ke := ne_of hk hke (by intro z; cases z)
  have up : ∀ {a : Addr} {o : HO}, H a = some o → a ≠ d → a ≠ N.ke → upd (upd H d (.dK (putK kvs (kN r.log2) (.int (r : Int))))) N.ke (.lst ((dI ks).map V.int ++ [.int (at' : Int)])) a = some o := fun {a o} e n1 n2 => by rw [upd_ne n2, upd_ne n1]; exact e
  have upL : ∀ {a : Addr} {vs : List V}, H a = some (.lst vs) → a ≠ N.ke → upd (upd H d (.dK (putK kvs (kN r.log2) (.int (r : Int))))) N.ke (.lst ((dI ks).map V.int ++ [.int (at' : Int)])) a = some (.lst vs) := fun {a vs} e n2 => up e (ne_of e hk (by intro z; cases z)) n2
  have upT : ∀ {a : Addr} {vs : List V}, H a = some (.tup vs) → upd (upd H d (.dK (putK kvs (kN r.log2) (.int (r : Int))))) N.ke (.lst ((dI ks).map V.int ++ [.int (at' : Int)])) a = some (.tup vs) := fun {a vs} e => up e (ne_of e hk (by intro z; cases z)) (ne_of e hke (by intro z; cases z))
  have upD : ∀ {a : Addr} {vs : List (Key × V)}, H a = some (.dK vs) → a ≠ d → upd (upd H d (.dK (putK kvs (kN r.log2) (.int (r : Int))))) N.ke (.lst ((dI ks).map V.int ++ [.int (at' : Int)])) a = some (.dK vs) := fun {a vs} e n => up e n (ne_of e hke (by intro z; cases z))
  have hdm : d ∈ N.es := List.mem_of_getElem? hd
  refine { o := up S.o (ne_of S.o hk (by intro z; cases z)) (ne_of S.o hke (by intro z; cases z)), l := upT S.l, p := ?_, h0 := upL S.h0 (Ne.symm S.k2), hl := S.hl, h := ?_, e0 := upL S.e0 (Ne.symm S.k3), el := S.el, en := S.en, e := ?_, sep := S.sep, k := ?_, k1 := S.k1, k2 := S.k2, k3 := S.k3 }
  · obtain ⟨as, e1, e2, e3⟩ := S.p
    exact ⟨as, upL e1 (Ne.symm S.k1), e2, fun i xs q => let ⟨p, q1, q2⟩ := e3 i xs q; ⟨p, q1, upT q2⟩⟩
  · intro j hj
    obtain ⟨x, q1, zs, z1, z2, z3, q2⟩ := S.h j hj
    refine ⟨x, q1, zs, z1, z2, z3, upD q2 fun z => S.sep d hdm ?_⟩
    rw [← z]
    exact List.mem_of_getElem? q1
  · intro c' hc'
    by_cases e : c' = c
    · subst e
      refine ⟨d, hd, putK kvs (kN r.log2) (.int (r : Int)), by rw [upd_ne ndk, upd_same], fun h => ?_, ?_⟩
      · rw [valV_put]
        by_cases z : h = r.log2
        · rw [if_pos (by rw [z]), z, putE_same]
          rfl
        · rw [if_neg (fun q => z (kN_inj q)), putE_other (fun q => z q.2), hv]
      · have hnone : valV kvs (kN r.log2) = none := by rw [hv, hn]; rfl
        rw [putK_new _ hnone, List.length_append, hl, rows_put hn hr]
        rfl
    · obtain ⟨x, q1, kv', w1, w2, w3⟩ := S.e c' hc'
      have hE : putE E c r c' = E c' := funext fun k => putE_other fun hh => e hh.1
      refine ⟨x, q1, kv', upD w1 fun z => e ?_, fun h => by rw [hE]; exact w2 h, by rw [hE]; exact w3⟩
      refine (List.getElem?_inj (by rw [S.el]; exact hc') S.en).mp ?_
      rw [q1, hd, z]
  · unfold dI
    rw [List.map_append]
    show upd _ _ _ _ = _
    rw [upd_same, List.map_append]
    rfl
/-- what stood but what the object keeps stands as it was -/
def KeptS (N : SN) (H H' : Hp) : Prop := ∀ a o, H a = some o → a ≠ N.ke → a ∉ N.es → H' a = some o
def nextE (ds : List Nat) (b : Nat) (E : Eqs) (xs : List Int) : Eqs := if redE (E (clsN ds xs)) (pN ds b) (oddV ds b xs) = 0 then E else putE E (clsN ds xs) (redE (E (clsN ds xs)) (pN ds b) (oddV ds b xs))
def nextK (ds : List Nat) (b : Nat) (E : Eqs) (ks : List Nat) (at' : Nat) (xs : List Int) : List Nat := if redE (E (clsN ds xs)) (pN ds b) (oddV ds b xs) = 0 then ks else ks ++ [at']
def spLook (C : Addr) : Sp := fun vs H Q _ => ∃ (N : SN) (pt : Addr) (ds : List Nat) (b : Nat) (E : Eqs) (ks : List Nat) (xs : List Int) (at' : Nat), vs = [.ref N.s, .int (at' : Int), .ref pt] ∧ N.C = C ∧ SeenAt N H ds b E ks ∧ Sh37 ds b ∧ EchAll E ∧ TupI H pt xs ∧ xs.length = ds.length ∧ ks.length ≤ 1000 ∧
  ∀ H', KeptS N H H' → SeenAt N H' ds b (nextE ds b E xs) (nextK ds b E ks at' xs) → Q .non H'
section
variable {P : Program} {w : World} {K : PySem.W.Frag} {mg : Str → Option Value} {base : Heap}
abbrev s_Seen_look : Stmt := inClass (top 16) 3
abbrev N_Seen_look : List Str := ["self", "at", "point", "number", "place", "depth", "x", "equations", "left"]
theorem sc_Seen_look : FnScope N_Seen_look ["self", "at", "point"] (defScope s_Seen_look) := ⟨rfl, rfl, rfl, by decide +kernel, rfl, by decide +kernel, by decide +kernel⟩
theorem ok_Seen_look {f C : Addr} {fd : FuncData} (F : Fun K "look" "Seen.look" s_Seen_look f fd) (T : Glob mg) (C0 : SeC K C) (D_highest : Df P w K mg base 1 "highest" ["members"] spHigh) (MO : Mt P w K mg base C 1 "odd_at" ["self", "place"] (spOdd C)) : FnOk P w K mg base CX0 2 f fd ["self", "at", "point"] (spLook C) := by
  refine F.ok sc_Seen_look (fun vs H Q E h => ?_) (fun cdv A outer s H vs Q E hr h => ?_)
  · obtain ⟨N, pt, ds, b, E, ks, xs, at', rfl, _⟩ := h
    rfl
  · obtain ⟨N, pt, ds, b, E, ks, xs, at', rfl, rfl, S, ok, hE, hx, hxl, hks, kq⟩ := h
    have hu := hu_of hr
    have nd := sc_Seen_look.nd
    refine ⟨_, (pss_cons (ps_set (i := 3) nd rfl (Or.inl rfl) pe_int)
    (pss_cons (ps_set (i := 4) nd rfl (Or.inl rfl) (pe_lst pa_nil))
    (pss_cons (ps_for PassesOwn.never rfl (pi_zipK (by rfl) T.g_zip (pa_cons (pe_fld (pv 0) rfl) (pa_cons (pv 2) pa_nil))) (pg_tup (by rfl) (pgs_cons (pg_name (i := 5) nd rfl (Or.inl rfl)) (pgs_cons (pg_name (i := 6) nd rfl (Or.inl rfl)) pgs_nil)))
    (pss_cons (ps_set (i := 3) nd rfl (Or.inl rfl) (pe_op op_add (pe_op op_shl (pv 3) (pv 5)) (pe_op op_andM (pv 6) (pe_op op_sub (pe_op op_shl pe_int (pv 5)) pe_int))))
    (pss_one (ps_expr (pe_bm PySem.F.plainAttrs_list PySem.F.slot_list_append PySem.F.type_list_append mt_append (pv 4) (pa_cons (pe_op op_shrN (pv 6) (pv 5)) pa_nil))))))
    (pss_cons (ps_set (i := 7) nd rfl (Or.inl rfl) (pe_ix ix_list (pe_fld (pv 0) rfl) (pv 3) (fun _ _ => rfl)))
    (pss_cons (ps_set (i := 8) nd rfl (Or.inl rfl) (pe_meth (pv 0) C0.cl MO.m MO.ok (hr.mono (by decide)) MO.b .nil pass0 (pa_cons (pv 4) pa_nil)))
    (pss_cons (ps_while PassesOwn.never (PW.pt (pw_and (pt_cmpR op_ne (pv 8) pe_int (nomark _)) (pw_and1 (pt_cmp (pc_din hu (pe_call D_highest.ok (hr.mono (by decide)) (by rfl) D_highest.g D_highest.kp D_highest.b .nil pass0 (pa_cons (pv 8) pa_nil)) (pv 7))))))
    (pss_one (ps_set (i := 8) nd rfl (Or.inl rfl) (pe_op op_xor (pv 8) (pe_dget hu (pv 7) (pe_call D_highest.ok (hr.mono (by decide)) (by rfl) D_highest.g D_highest.kp D_highest.b .nil pass0 (pa_cons (pv 8) pa_nil)) (fun _ _ => rfl))))))
    (pss_one (ps_if (pt_cmpR op_ne (pv 8) pe_int (nomark _))
    (pss_cons (ps_dput hu (pv 7) (pe_call D_highest.ok (hr.mono (by decide)) (by rfl) D_highest.g D_highest.kp D_highest.b .nil pass0 (pa_cons (pv 8) pa_nil)) (pv 8) rfl)
    (pss_one (ps_expr (pe_bm PySem.F.plainAttrs_list PySem.F.slot_list_append PySem.F.type_list_append mt_append (pe_fld (pv 0) rfl) (pa_cons (pv 1) pa_nil)))))
    pss_nil)))))))), ?_⟩
    have zl' : 16777216 = sizeLine := sizeLine_eq.symm
    obtain ⟨hP, hC⟩ := ok.p
    have hm := ok.m
    have hs8 := ok.s
    have hdl : ((dI ds).map V.int).length = ds.length := by rw [List.length_map]; unfold dI; rw [List.length_map]
    have hxx : (xs.map V.int).length = ds.length := by rw [List.length_map, hxl]
    refine seq_by (fun σ H1 => H1 = H ∧ σ = [some (.ref N.s), some (.int (at' : Int)), some (.ref pt), some (.int 0), none, none, none, none, none]) (fun D' hD' => hD' _ _ ⟨rfl, rfl⟩) ?_
    rintro σ H ⟨rfl, rfl⟩
    refine seq_by (fun σ H1 => ∃ zl : Addr, σ = [some (.ref N.s), some (.int (at' : Int)), some (.ref pt), some (.int 0), some (.ref zl), none, none, none, none] ∧ Same H H1 ∧ LI H1 zl [] ∧ H zl = none) (fun D' hD' => ?_) ?_
    · exact ⟨(by show 0 ≤ sizeLine; omega), fun L hL => hD' _ _ ⟨L, rfl, new_same hL, upd_same, hL⟩⟩
    rintro σ H1 ⟨zl, rfl, s1, hz1, hzn⟩
    have S1 := S.same s1
    refine seq_by (fun σ H2 => ∃ a5 a6 : Option V, σ = [some (.ref N.s), some (.int (at' : Int)), some (.ref pt), some (.int ((clsN ds xs : Nat) : Int)), some (.ref zl), a5, a6, none, none] ∧ Same H H2 ∧ LI H2 zl (varsI ds xs)) (fun D' hD' => ?_) ?_
    · refine ⟨_, rfl, N.s, N.C, N.dx, _, _, rfl, S1.o, C0.cl, C0.n1, rfl, _, rfl, true, true, N.lt, pt, _, _, rfl, sqK_t (SqT.of S1.l), sqK_t (SqT.of (hx.same s1)), ?_⟩
      refine for_it (walk_zipK (xs := (dI ds).map V.int) (ys := xs.map V.int) (by rw [hdl, hxx])) (fun i σ H2 => ∃ a5 a6 : Option V, σ = [some (.ref N.s), some (.int (at' : Int)), some (.ref pt), some (.int (gA ds xs i)), some (.ref zl), a5, a6, none, none] ∧ Same H H2 ∧ LI H2 zl ((List.range i).map (vrI ds xs)))
        ⟨none, none, rfl, s1, hz1⟩ (fun i σ H2 _ h => by obtain ⟨_, _, _, h, _⟩ := h; exact ⟨sqK_t (SqT.of (S.l.same h)), sqK_t (SqT.of (hx.same h))⟩) ?_ ?_
      · rintro i x σ H2 H3 hi ⟨a5, a6, rfl, s2, h2⟩ ⟨T', x1, x2, rfl, hT, rfl, hx1, hx2⟩
        rw [hdl] at hi
        have hx1 : ((dI ds).map V.int)[i]? = some x1 := hx1
        have hx2 : (xs.map V.int)[i]? = some x2 := hx2
        have hdi : ds[i]? = some (ds.getD i 0) := by rw [List.getD_eq_getElem?_getD, List.getElem?_eq_getElem hi]; rfl
        have hxi : xs[i]? = some (xs.getD i 0) := by rw [List.getD_eq_getElem?_getD, List.getElem?_eq_getElem (show i < xs.length by omega)]; rfl
        rw [map_at_int hxi] at hx2
        have hdI : (dI ds)[i]? = some ((ds.getD i 0 : Nat) : Int) := by unfold dI; rw [List.getElem?_map, hdi]; rfl
        rw [map_at_int hdI] at hx1
        obtain rfl := Option.some.inj hx1
        obtain rfl := Option.some.inj hx2
        have st := new_same (o := .tup [V.int ((ds.getD i 0 : Nat) : Int), .int (xs.getD i 0)]) hT
        have s4 := s2.trans st
        have h4 := h2.same st
        refine ⟨T', _, rfl, SqT.of upd_same, rfl, _, _, rfl, _, _, rfl, rfl, ?_⟩
        generalize upd H2 T' (.tup [V.int ((ds.getD i 0 : Nat) : Int), .int (xs.getD i 0)]) = H4 at s4 h4 ⊢
        have hd8 := d_le8 hm hs8 i hi
        have hg := gA_256 hm hs8 xs i (by omega)
        refine ⟨_, rfl, _, rfl, _, _, rfl, rfl, ⟨by omega, by omega, by omega⟩, _, rfl, _, rfl, _, _, rfl, rfl, ⟨by omega, by omega, by decide⟩, _, _, rfl, rfl, _, ds.getD i 0, rfl, ?_, _, _, rfl, rfl, ?_⟩
        · rw [Int.toNat_natCast, Int.one_mul]
        refine ⟨_, rfl, .inl ⟨rfl, _, SqL.of h4⟩, _, rfl, _, rfl, _, ds.getD i 0, rfl, rfl, zl, _, _, rfl, rfl, h4, by rw [List.length_map, List.length_map, List.length_range]; omega, ?_⟩
        refine ⟨some (.int ((ds.getD i 0 : Nat) : Int)), some (.int (xs.getD i 0)), ?_, same_up s4 hzn, ?_⟩
        · dsimp only
          rw [Int.toNat_natCast]
          rfl
        · rw [List.range_succ, List.map_append]
          exact li_snoc
      · rintro σ H2 ⟨a5, a6, rfl, s2, h2⟩
        rw [hdl] at h2
        refine hD' _ _ ⟨a5, a6, ?_, s2, h2⟩
        rw [hdl, cls_int]
    clear s1 hz1 S1
    rintro σ H2 ⟨a5, a6, rfl, s2, h2⟩
    have S2 := S.same s2
    have hc := cls_lt ok xs
    obtain ⟨d, hd, kvs, k1, k2, k3⟩ := S2.e _ hc
    have hvl : (varsI ds xs).length = ds.length := by unfold varsI; rw [List.length_map, List.length_range]
    refine seq_by (fun σ H3 => H3 = H2 ∧ σ = [some (.ref N.s), some (.int (at' : Int)), some (.ref pt), some (.int ((clsN ds xs : Nat) : Int)), some (.ref zl), a5, a6, some (.ref d), none]) (fun D' hD' => ?_) ?_
    · exact ⟨_, rfl, N.s, N.C, N.dx, _, _, rfl, S2.o, C0.cl, C0.n5, rfl, _, rfl, N.eq, _, _, _, rfl, rfl, SqL.of S2.e0, atI_nat (by rw [List.getElem?_map, hd]; rfl), hD' _ _ ⟨rfl, rfl⟩⟩
    rintro σ H3 ⟨rfl, rfl⟩
    refine seq_by (fun σ H4 => σ = [some (.ref N.s), some (.int (at' : Int)), some (.ref pt), some (.int ((clsN ds xs : Nat) : Int)), some (.ref zl), a5, a6, some (.ref d), some (.int ((oddV ds b xs : Nat) : Int))] ∧ Same H H4) (fun D' hD' => ?_) ?_
    · exact ⟨_, rfl, N.s, N.dx, _, rfl, S2.o, rfl, _, rfl, N, zl, ds, b, E, ks, varsI ds xs, rfl, rfl, S2, ok, h2, hvl, fun H4 s4 => hD' _ _ ⟨rfl, s2.trans s4⟩⟩
    clear S2 h2 k1 s2
    rintro σ H4 ⟨rfl, s4⟩
    have S4 := S.same s4
    obtain ⟨d', hd', kvs', k1', k2', k3'⟩ := S4.e _ hc
    rw [hd] at hd'
    obtain rfl := Option.some.inj hd'
    clear k2 k3 kvs
    refine seq_by (fun σ H5 => H5 = H4 ∧ σ = [some (.ref N.s), some (.int (at' : Int)), some (.ref pt), some (.int ((clsN ds xs : Nat) : Int)), some (.ref zl), a5, a6, some (.ref d), some (.int ((redE (E (clsN ds xs)) (pN ds b) (oddV ds b xs) : Nat) : Int))]) (fun D' hD' => ?_) ?_
    · refine while_by (fun σ H5 => H5 = H4 ∧ ∃ n v : Nat, σ = [some (.ref N.s), some (.int (at' : Int)), some (.ref pt), some (.int ((clsN ds xs : Nat) : Int)), some (.ref zl), a5, a6, some (.ref d), some (.int (v : Int))] ∧ v < 2 ^ n ∧ redE (E (clsN ds xs)) n v = redE (E (clsN ds xs)) (pN ds b) (oddV ds b xs))
        (fun σ _ => match σ[8]? with | some (some (V.int z)) => z.toNat | _ => 0) ⟨rfl, pN ds b, oddV ds b xs, rfl, oddV_lt ds b xs, rfl⟩ ?_ ?_
      · rintro σ H5 ⟨rfl, n, v, rfl, hv, hR⟩
        refine ⟨_, rfl, rfl, _, rfl, ?_⟩
        by_cases h0 : v = 0
        · subst h0
          have e0 : redE (E (clsN ds xs)) n 0 = 0 := by cases n <;> rfl
          rw [e0] at hR
          refine ite2 (fun z => ?_) (fun _ => iteF ?_)
          · exact absurd z (by decide)
          · exact hD' _ _ ⟨rfl, by rw [← hR]⟩
        · refine ite2 (fun _ => ?_) (fun z => ?_)
          rotate_left
          · exact absurd (by
              show (!decide (V.int (v : Int) = V.int 0)) = true
              rw [decide_eq_false fun q => h0 (by have := V.int.inj q; omega)]
              rfl) z
          have hn : n ≠ 0 := fun z => by subst z; omega
          obtain ⟨n', rfl⟩ := Nat.exists_eq_succ_of_ne_zero hn
          have hun : redE (E (clsN ds xs)) (n' + 1) v = match E (clsN ds xs) v.log2 with | none => v | some r => redE (E (clsN ds xs)) n' (v ^^^ r) := by
            show (if v = 0 then 0 else _) = _
            refine (if_neg h0).trans ?_
            cases E (clsN ds xs) v.log2 <;> rfl
          refine ⟨_, rfl, v, rfl, h0, _, rfl, d, _, rfl, eq_get _ k1', _, rfl, ?_⟩
          rw [k2']
          rcases Option.eq_none_or_eq_some (E (clsN ds xs) v.log2) with e | ⟨r, e⟩
          · rw [e] at hun
            rw [e]
            refine iteF (hD' _ _ ⟨rfl, ?_⟩)
            rw [← hR]
            show _ = [_, _, _, _, _, _, _, _, some (V.int ((redE (E (clsN ds xs)) (n' + 1) v : Nat) : Int))]
            rw [hun]
          · rw [e] at hun
            rw [e]
            obtain ⟨r1, r2⟩ := hE _ _ _ e
            have hlt := xor_less (bit_log2 h0) (Nat.lt_log2_self) r1 r2
            have hself := Nat.log2_self_le h0
            have hlog : v.log2 ≤ n' := by
              have := (Nat.log2_lt h0).mpr hv
              omega
            refine iteT ⟨_, rfl, _, rfl, _, rfl, v, rfl, h0, d, _, rfl, (by have q := eq_get (H := H5) v.log2 k1'; rw [k2', e] at q; exact q), _, _, rfl, rfl, ?_⟩
            refine ⟨⟨rfl, n', v ^^^ r, ?_, Nat.lt_of_lt_of_le hlt (Nat.pow_le_pow_right (by decide) hlog), ?_⟩, ?_⟩
            · dsimp only
              rw [xor_nats]
              rfl
            · rw [← hR]
              exact hun.symm
            · show (Builtin.bitXor (v : Int) (r : Int)).toNat < (v : Int).toNat
              rw [xor_nats]
              omega
      · intro σ H5 Q1 Q2 hq hcx
        obtain ⟨x, e1, sc, b1, eb, hcx⟩ := hcx
        refine ⟨x, e1, sc, b1, eb, ?_⟩
        revert hcx
        cases b1 with
        | false => exact fun hcx => hq _ _ hcx
        | true =>
          intro hcx
          obtain ⟨x2, e2, v, ev, hv, x3, e3, a, o, ea, hg, c, ec, hcx⟩ := hcx
          exact ⟨x2, e2, v, ev, hv, x3, e3, a, o, ea, hg, c, ec, hq _ _ hcx⟩
    rintro σ H5 ⟨rfl, rfl⟩
    obtain ⟨R, hR⟩ : ∃ R, R = redE (E (clsN ds xs)) (pN ds b) (oddV ds b xs) := ⟨_, rfl⟩
    unfold nextE nextK at kq
    rw [← hR] at kq ⊢
    refine ⟨_, rfl, rfl, _, rfl, ?_⟩
    by_cases h0 : R = 0
    · rw [if_pos h0, if_pos h0] at kq
      refine ite2 (fun z => ?_) (fun _ => ?_)
      · rw [h0] at z
        exact absurd z (by decide)
      · exact kq H5 (fun a o e _ _ => s4 a o e) S4
    · rw [if_neg h0, if_neg h0] at kq
      refine ite2 (fun _ => ?_) (fun z => ?_)
      rotate_left
      · exact absurd (by
          show (!decide (V.int (R : Int) = V.int 0)) = true
          rw [decide_eq_false fun q => h0 (by have := V.int.inj q; omega)]
          rfl) z
      obtain ⟨t1, t2, t3⟩ := red_top (hE (clsN ds xs)) (oddV_lt ds b xs) (by rw [← hR]; exact h0)
      rw [← hR] at t1 t2 t3
      have hkl : kvs'.length ≤ 8 := by
        rw [k3']
        exact Nat.le_trans (rows_le _ _) hP
      refine ⟨_, rfl, _, rfl, _, rfl, R, rfl, h0, d, _, rfl, DPut.k (k := kN R.log2) k1' (by omega), ?_⟩
      have ndo : N.s ≠ d := ne_of S4.o k1' (by intro z; cases z)
      have nkd : N.ke ≠ d := ne_of (show H5 N.ke = some (.lst _) from S4.k) k1' (by intro z; cases z)
      have hk6 : upd H5 d (.dK (putK kvs' (kN R.log2) (.int (R : Int)))) N.ke = some (.lst ((dI ks).map V.int)) := by rw [upd_ne nkd]; exact S4.k
      refine ⟨_, rfl, N.s, N.C, N.dx, _, _, rfl, upd_keep S4.o ndo, C0.cl, C0.n6, rfl, .inl ⟨rfl, _, SqL.of hk6⟩, _, rfl, N.ke, _, _, rfl, rfl, hk6, (by rw [List.length_map]; unfold dI; rw [List.length_map]; omega), ?_⟩
      refine kq _ (fun a o e n1 n2 => ?_) (S4.put hc hd k1' k2' k3' t2 t3)
      rw [upd_ne n1, upd_ne fun (z : a = d) => n2 (by rw [z]; exact List.mem_of_getElem? hd)]
      exact s4 a o e
end
end My

set_option pp.maxSteps 300
set_option Elab.async false
set_option linter.all false
set_option maxRecDepth 100000
set_option maxHeartbeats 1000000
namespace My
open PySem L2 MyR
/-! ### whether something is undecided; points seen one after another -/
def FullE (ds : List Nat) (b : Nat) (E : Eqs) : Prop := ∀ c h, c < 2 ^ ds.sum → h < pN ds b → (E c h).isSome = true
def spUndec (C : Addr) : Sp := fun vs H Q _ => ∃ (N : SN) (ds : List Nat) (b : Nat) (E : Eqs) (ks : List Nat), vs = [.ref N.s] ∧ N.C = C ∧ SeenAt N H ds b E ks ∧ Sh37 ds b ∧
  ∀ v H', Same H H' → ((v = .non ∧ FullE ds b E) ∨ ((∃ n : Int, v = .int n) ∧ ¬ FullE ds b E)) → Q v H'
def cv (ds : List Nat) (b : Nat) (xs : List Int) : Nat × Nat := (clsN ds xs, oddV ds b xs)
def E0 : Eqs := fun _ _ => none
theorem E0_ech : EchAll E0 := fun c h r e => absurd e (by unfold E0; simp)
theorem endK_snoc (P : Nat) (z : Nat × Nat) : ∀ (vs : List (Nat × Nat)) (E : Eqs), endK P E (vs ++ [z]) = if redE (endK P E vs z.1) P z.2 = 0 then endK P E vs else putE (endK P E vs) z.1 (redE (endK P E vs z.1) P z.2)
  | [], E => rfl
  | (c, v) :: rest, E => by
    rw [List.cons_append]
    unfold endK
    by_cases h : redE (E c) P v = 0
    · rw [if_pos h, if_pos h]
      exact endK_snoc P z rest E
    · rw [if_neg h, if_neg h]
      exact endK_snoc P z rest _
theorem keptK_snoc (P : Nat) (z : Nat × Nat) : ∀ (vs : List (Nat × Nat)) (E : Eqs) (a : Nat), keptK P E a (vs ++ [z]) = if redE (endK P E vs z.1) P z.2 = 0 then keptK P E a vs else keptK P E a vs ++ [a + vs.length]
  | [], E, a => by
    obtain ⟨c, v⟩ := z
    show (if _ then _ else _) = _
    rfl
  | (c, v) :: rest, E, a => by
    rw [List.cons_append]
    unfold keptK endK
    by_cases h : redE (E c) P v = 0
    · rw [if_pos h, if_pos h, if_pos h, keptK_snoc P z rest E (a + 1), List.length_cons, show a + 1 + rest.length = a + (rest.length + 1) by omega]
    · rw [if_neg h, if_neg h, if_neg h, keptK_snoc P z rest _ (a + 1), List.length_cons, show a + 1 + rest.length = a + (rest.length + 1) by omega]
      split <;> rfl
def seenE (ds : List Nat) (b : Nat) (pts : List (List Int)) : Eqs := endK (pN ds b) E0 (pts.map (cv ds b))
def seenK (ds : List Nat) (b : Nat) (pts : List (List Int)) : List Nat := keptK (pN ds b) E0 0 (pts.map (cv ds b))
def spSeenAt (C : Addr) : Sp := fun vs H Q _ => ∃ (L lt : Addr) (pts : List (List Int)) (ds : List Nat) (b : Nat), vs = [.ref L, .ref lt, .int (b : Int)] ∧ LTI H L pts ∧ TupI H lt (dI ds) ∧ Sh37 ds b ∧ (∀ x ∈ pts, x.length = ds.length) ∧ pts.length ≤ 1000 ∧
  ∀ (N : SN) H', N.C = C → Same H H' → SeenAt N H' ds b (seenE ds b pts) (seenK ds b pts) → Q (.ref N.s) H'
theorem kept_le (P : Nat) (vs : List (Nat × Nat)) (E : Eqs) (a : Nat) : (keptK P E a vs).length ≤ vs.length := by
  rw [kept_len]
  exact few_le P vs E
structure SeX (P : Program) (w : World) (K : PySem.W.Frag) (mg : Str → Option Value) (base : Heap) (C : Addr) where
  f : Addr
  fd : FuncData
  m : Mk K C f
  ok : FnOk P w K mg base CX0 6 f fd ["self", "loss", "bits"] (spSeen C)
  g : mg "Seen" = some (.ref C)
  b : Binds K fd ["self", "loss", "bits"] []
  cl : Cls K C
section
variable {P : Program} {w : World} {K : PySem.W.Frag} {mg : Str → Option Value} {base : Heap}
abbrev s_Seen_undecided : Stmt := inClass (top 16) 4
abbrev N_Seen_undecided : List Str := ["self", "number", "equations"]
theorem sc_Seen_undecided : FnScope N_Seen_undecided ["self"] (defScope s_Seen_undecided) := ⟨rfl, rfl, rfl, by decide +kernel, rfl, by decide +kernel, by decide +kernel⟩
theorem ok_Seen_undecided {f C : Addr} {fd : FuncData} (F : Fun K "undecided" "Seen.undecided" s_Seen_undecided f fd) (T : Glob mg) (C0 : SeC K C) : FnOk P w K mg base CX0 1 f fd ["self"] (spUndec C) := by
  refine F.ok sc_Seen_undecided (fun vs H Q E h => ?_) (fun cdv A outer s H vs Q E hr h => ?_)
  · obtain ⟨N, ds, b, E, ks, rfl, _⟩ := h
    rfl
  · obtain ⟨N, ds, b, E, ks, rfl, rfl, S, ok, kq⟩ := h
    have nd := sc_Seen_undecided.nd
    refine ⟨_, (pss_cons (ps_for PassesOwn.never rfl (pi_enum (by rfl) T.g_enumerate (pa_cons (pe_fld (pv 0) rfl) pa_nil)) (pg_tup (by rfl) (pgs_cons (pg_name (i := 1) nd rfl (Or.inl rfl)) (pgs_cons (pg_name (i := 2) nd rfl (Or.inl rfl)) pgs_nil)))
    (pss_one (ps_if (pt_cmpR op_lt (pe_callB call_lenD (by rfl) T.g_len PySem.boot_len (pa_cons (pv 2) pa_nil)) (pe_callB call_len_seq (by rfl) T.g_len PySem.boot_len (pa_cons (pe_fld (pv 0) rfl) pa_nil)) (nomark _))
    (pss_one (ps_ret (pv 1)))
    pss_nil)))
    (pss_one (ps_ret pe_non))), ?_⟩
    refine ⟨_, rfl, N.s, N.C, N.dx, _, _, rfl, S.o, C0.cl, C0.n5, rfl, N.eq, _, rfl, SqL.of S.e0, ?_⟩
    refine for_it walk_enum (fun i σ H1 => ∃ a1 a2 : Option V, σ = [some (.ref N.s), a1, a2] ∧ Same H H1 ∧ ∀ c, c < i → rows37 (pN ds b) (E c) = pN ds b)
      ⟨none, none, rfl, fun _ _ e => e, fun c hc => absurd hc (Nat.not_lt_zero _)⟩ (fun i σ H1 _ h => by obtain ⟨_, _, _, h, _⟩ := h; exact SqL.of (h _ _ S.e0)) ?_ ?_
    · rintro i x σ H1 H2 hi ⟨a1, a2, rfl, s1, hall⟩ ⟨T', x1, x2, rfl, hT, rfl, hx1, hx2⟩
      rw [List.length_map, S.el] at hi
      obtain rfl := Option.some.inj hx1
      have hx2 : (N.es.map V.ref)[i]? = some x2 := hx2
      obtain ⟨d, hd, kvs, k1, k2, k3⟩ := S.e i hi
      rw [List.getElem?_map, hd] at hx2
      obtain rfl := Option.some.inj hx2
      have st := new_same (o := .tup [V.int (i : Nat), .ref d]) hT
      have s2 := s1.trans st
      refine ⟨T', _, rfl, SqT.of upd_same, rfl, _, _, rfl, _, _, rfl, rfl, ?_⟩
      generalize upd H1 T' (.tup [V.int (i : Nat), .ref d]) = H2 at s2 ⊢
      obtain ⟨as, e1, e2, e3⟩ := S.p.same s2
      have e4 : (as.map V.ref).length = pN ds b := by rw [List.length_map, e2]; unfold dV pN; rw [List.length_map]
      refine ⟨_, rfl, d, kvs, rfl, s2 _ _ k1, _, rfl, N.s, N.C, N.dx, _, _, rfl, s2 _ _ S.o, C0.cl, C0.n3, rfl, N.pl, _, rfl, .inl (SqL.of e1), _, _, rfl, rfl, _, rfl, ?_⟩
      rw [e4]
      have hle := rows_le (pN ds b) (E i)
      refine ite2 (fun z => ?_) (fun z => ?_)
      · have z : ((kvs.length : Nat) : Int) < ((pN ds b : Nat) : Int) := of_decide_eq_true z
        refine ⟨_, rfl, kq _ H2 s2 (.inr ⟨⟨_, rfl⟩, fun full => ?_⟩)⟩
        have := (rows_full (pN ds b) (E i)).mpr fun h hh => full i h hi hh
        omega
      · have z : ¬ ((kvs.length : Nat) : Int) < ((pN ds b : Nat) : Int) := fun q => z (decide_eq_true q)
        refine ⟨_, _, rfl, s2, fun c hc => ?_⟩
        by_cases e : c = i
        · rw [e]
          omega
        · exact hall c (by omega)
    · rintro σ H1 ⟨a1, a2, rfl, s1, hall⟩
      rw [List.length_map, S.el] at hall
      exact kq _ H1 s1 (.inl ⟨rfl, fun c h hc hh => (rows_full (pN ds b) (E c)).mp (hall c hc) h hh⟩)
abbrev s_seen_at : Stmt := top 14
abbrev N_seen_at : List Str := ["points", "loss", "bits", "seen", "at", "point"]
theorem sc_seen_at : FnScope N_seen_at ["points", "loss", "bits"] (defScope s_seen_at) := ⟨rfl, rfl, rfl, by decide +kernel, rfl, by decide +kernel, by decide +kernel⟩
theorem ok_seen_at {f C : Addr} {fd : FuncData} (F : Fun K "seen_at" "seen_at" s_seen_at f fd) (T : Glob mg) (SX : SeX P w K mg base C) (ML : Mt P w K mg base C 2 "look" ["self", "at", "point"] (spLook C)) : FnOk P w K mg base CX0 8 f fd ["points", "loss", "bits"] (spSeenAt C) := by
  refine F.ok sc_seen_at (fun vs H Q E h => ?_) (fun cdv A outer s H vs Q E hr h => ?_)
  · obtain ⟨L, lt, pts, ds, b, rfl, _⟩ := h
    rfl
  · obtain ⟨L, lt, pts, ds, b, rfl, hL, hl, ok, hlen, hmany, kq⟩ := h
    have nd := sc_seen_at.nd
    refine ⟨_, (pss_cons (ps_set (i := 3) nd rfl (Or.inl rfl) (pe_make SX.m SX.ok (hr.mono (by decide)) (by rfl) SX.g SX.b .nil pass0 (pa_cons (pv 1) (pa_cons (pv 2) pa_nil))))
    (pss_cons (ps_for PassesOwn.never rfl (pi_enum (by rfl) T.g_enumerate (pa_cons (pv 0) pa_nil)) (pg_tup (by rfl) (pgs_cons (pg_name (i := 4) nd rfl (Or.inl rfl)) (pgs_cons (pg_name (i := 5) nd rfl (Or.inl rfl)) pgs_nil)))
    (pss_one (ps_expr (pe_meth (pv 3) SX.cl ML.m ML.ok (hr.mono (by decide)) ML.b .nil pass0 (pa_cons (pv 4) (pa_cons (pv 5) pa_nil))))))
    (pss_one (ps_ret (pv 3))))), ?_⟩
    obtain ⟨ws, hws⟩ : ∃ ws, LTV H L ws pts := hL.lenV
    refine seq_by (fun σ H1 => ∃ N : SN, σ = [some (.ref L), some (.ref lt), some (.int (b : Int)), some (.ref N.s), none, none] ∧ N.C = C ∧ Same H H1 ∧ SeenAt N H1 ds b E0 [] ∧ H N.ke = none ∧ ∀ d ∈ N.es, H d = none) (fun D' hD' => ?_) ?_
    · refine ⟨_, rfl, _, rfl, fun x dx hx hdx nx => ?_⟩
      have s0 : Same H (upd (upd H dx (.own x)) x (.ins C dx [])) := fun a o e => by rw [upd_ne (ne_of_none e hx), upd_ne (ne_of_none e hdx)]; exact e
      refine ⟨x, dx, lt, ds, b, rfl, upd_same, hl.same s0, ok, fun N H1 n1 n2 n3 S sp f1 f2 => ⟨rfl, ?_⟩⟩
      have fr : ∀ {q : Addr}, upd (upd H dx (.own x)) x (.ins C dx []) q = none → H q = none := fun {q} hq => same_free s0 hq
      have := hD' ([some (.ref L), some (.ref lt), some (.int (b : Int)), some (.ref N.s), none, none]) H1 ⟨N, rfl, n2, fun a o e => sp a o (s0 a o e) (ne_of_none e hx), S, fr f1, fun d hd => fr (f2 d hd)⟩
      rw [n1] at this
      exact this
    rintro σ H1 ⟨N, rfl, rfl, s1, S1, fk, fe⟩
    refine ⟨_, rfl, L, _, rfl, SqL.of (hws.same s1).1, ?_⟩
    refine for_it walk_enum (fun i σ H2 => ∃ a4 a5 : Option V, σ = [some (.ref L), some (.ref lt), some (.int (b : Int)), some (.ref N.s), a4, a5] ∧ Same H H2 ∧ SeenAt N H2 ds b (seenE ds b (pts.take i)) (seenK ds b (pts.take i)))
      ⟨none, none, rfl, s1, S1⟩ (fun i σ H2 _ h => by obtain ⟨_, _, _, h, _⟩ := h; exact SqL.of (hws.same h).1) ?_ ?_
    · rintro i x σ H2 H3 hi ⟨a4, a5, rfl, s2, S2⟩ ⟨T', x1, x2, rfl, hT, rfl, hx1, hx2⟩
      rw [hws.2.1] at hi
      obtain rfl := Option.some.inj hx1
      have hx2 : ws[i]? = some x2 := hx2
      obtain ⟨p, xs, hi', hpi, rfl, hp⟩ := (hws.same s2).at hx2
      have st := new_same (o := .tup [V.int (i : Nat), .ref p]) hT
      have s3 := s2.trans st
      have S3 := S2.same st
      have hp3 := hp.same st
      refine ⟨T', _, rfl, SqT.of upd_same, rfl, _, _, rfl, _, _, rfl, rfl, ?_⟩
      generalize upd H2 T' (.tup [V.int (i : Nat), .ref p]) = H3 at s3 S3 hp3 ⊢
      have hel : (pts.take i).length ≤ 1000 := by rw [List.length_take]; omega
      have htk : pts.take (i + 1) = pts.take i ++ [xs] := by rw [List.take_succ, hpi]; rfl
      refine ⟨_, rfl, N.s, N.dx, _, rfl, S3.o, rfl, _, rfl, _, rfl, N, p, ds, b, seenE ds b (pts.take i), seenK ds b (pts.take i), xs, i, rfl, rfl, S3, ok, end_ech _ _ _ E0_ech, hp3, hlen xs (List.mem_of_getElem? hpi), ?_, fun H4 kp S4 => ?_⟩
      · unfold seenK
        exact Nat.le_trans (kept_le _ _ _ _) (by rw [List.length_map]; exact hel)
      refine ⟨_, _, rfl, fun a o e => kp a o (s3 a o e) (fun z => ?_) (fun z => ?_), ?_⟩
      · rw [z, fk] at e
        cases e
      · rw [fe a z] at e
        cases e
      · rw [htk]
        unfold seenE seenK at *
        rw [List.map_append]
        show SeenAt N H4 ds b (endK _ _ (_ ++ [cv ds b xs])) (keptK _ _ _ (_ ++ [cv ds b xs]))
        rw [endK_snoc, keptK_snoc]
        have e1 : 0 + ((pts.take i).map (cv ds b)).length = i := by rw [List.length_map, List.length_take]; omega
        rw [e1]
        exact S4
    · rintro σ H2 ⟨a4, a5, rfl, s2, S2⟩
      rw [hws.2.1, List.take_length] at S2
      exact ⟨_, rfl, kq N H2 rfl s2 S2⟩
end
end My

set_option pp.maxSteps 300
set_option Elab.async false
set_option linter.all false
set_option maxRecDepth 100000
set_option maxHeartbeats 1000000
namespace My
open PySem L2 MyR
/-! ### decides, first_enough -/
def PtsOk (H : Hp) (L lt : Addr) (pts : List (List Int)) (ds : List Nat) (b : Nat) : Prop := LTI H L pts ∧ TupI H lt (dI ds) ∧ Sh37 ds b ∧ (∀ x ∈ pts, x.length = ds.length) ∧ pts.length ≤ 1000
def spDec : Sp := fun vs H Q _ => ∃ (L lt : Addr) (pts : List (List Int)) (ds : List Nat) (b : Nat), vs = [.ref L, .ref lt, .int (b : Int)] ∧ PtsOk H L lt pts ds b ∧
  ∀ (t : Bool) H', Same H H' → (t = true ↔ FullE ds b (seenE ds b pts)) → Q (.bl t) H'
def spFirst : Sp := fun vs H Q _ => ∃ (L lt : Addr) (pts : List (List Int)) (ds : List Nat) (b : Nat), vs = [.ref L, .ref lt, .int (b : Int)] ∧ PtsOk H L lt pts ds b ∧
  ∀ (v : V) H', Same H H' → ((FullE ds b (seenE ds b pts) ∧ ∃ t : Addr, v = .ref t ∧ TupI H' t (dI (seenK ds b pts))) ∨ (¬ FullE ds b (seenE ds b pts) ∧ v = .non)) → Q v H'
section
variable {P : Program} {w : World} {K : PySem.W.Frag} {mg : Str → Option Value} {base : Heap}
abbrev s_decides : Stmt := top 12
abbrev N_decides : List Str := ["points", "loss", "bits"]
theorem sc_decides : FnScope N_decides ["points", "loss", "bits"] (defScope s_decides) := ⟨rfl, rfl, rfl, by decide +kernel, rfl, by decide +kernel, by decide +kernel⟩
theorem ok_decides {f C : Addr} {fd : FuncData} (F : Fun K "decides" "decides" s_decides f fd) (C0 : SeC K C) (D_seen_at : Df P w K mg base 8 "seen_at" ["points", "loss", "bits"] (spSeenAt C)) (MU : Mt P w K mg base C 1 "undecided" ["self"] (spUndec C)) : FnOk P w K mg base CX0 9 f fd ["points", "loss", "bits"] spDec := by
  refine F.ok sc_decides (fun vs H Q E h => ?_) (fun cdv A outer s H vs Q E hr h => ?_)
  · obtain ⟨L, lt, pts, ds, b, rfl, _⟩ := h
    rfl
  · obtain ⟨L, lt, pts, ds, b, rfl, ⟨hL, hl, ok, hlen, hmany⟩, kq⟩ := h
    have nd := sc_decides.nd
    refine ⟨_, (pss_one (ps_ret (pe_cmpR op_isN (pe_meth0 (pe_call D_seen_at.ok (hr.mono (by decide)) (by rfl) D_seen_at.g D_seen_at.kp D_seen_at.b .nil pass0 (pa_cons (pv 0) (pa_cons (pv 1) (pa_cons (pv 2) pa_nil)))) C0.cl MU.m MU.ok (hr.mono (by decide)) MU.b .nil pass0) pe_non (nomark _)))), ?_⟩
    refine ⟨_, rfl, _, rfl, _, rfl, L, lt, pts, ds, b, rfl, hL, hl, ok, hlen, hmany, fun N H1 n1 s1 S1 => ?_⟩
    subst n1
    refine ⟨N.s, N.dx, _, rfl, S1.o, rfl, N, ds, b, _, _, rfl, rfl, S1, ok, fun v H2 s2 hv => ⟨rfl, kq _ H2 (s1.trans s2) ?_⟩⟩
    rcases hv with ⟨rfl, full⟩ | ⟨⟨n, rfl⟩, nf⟩
    · exact ⟨fun _ => full, fun _ => rfl⟩
    · exact ⟨fun z => absurd (of_decide_eq_true z) (by intro q; cases q), fun z => absurd z nf⟩
abbrev s_first_enough : Stmt := top 13
abbrev N_first_enough : List Str := ["points", "loss", "bits", "seen"]
theorem sc_first_enough : FnScope N_first_enough ["points", "loss", "bits"] (defScope s_first_enough) := ⟨rfl, rfl, rfl, by decide +kernel, rfl, by decide +kernel, by decide +kernel⟩
theorem ok_first_enough {f C : Addr} {fd : FuncData} (F : Fun K "first_enough" "first_enough" s_first_enough f fd) (T : Glob mg) (C0 : SeC K C) (D_seen_at : Df P w K mg base 8 "seen_at" ["points", "loss", "bits"] (spSeenAt C)) (MU : Mt P w K mg base C 1 "undecided" ["self"] (spUndec C)) : FnOk P w K mg base CX0 9 f fd ["points", "loss", "bits"] spFirst := by
  refine F.ok sc_first_enough (fun vs H Q E h => ?_) (fun cdv A outer s H vs Q E hr h => ?_)
  · obtain ⟨L, lt, pts, ds, b, rfl, _⟩ := h
    rfl
  · obtain ⟨L, lt, pts, ds, b, rfl, ⟨hL, hl, ok, hlen, hmany⟩, kq⟩ := h
    have nd := sc_first_enough.nd
    refine ⟨_, (pss_cons (ps_set (i := 3) nd rfl (Or.inl rfl) (pe_call D_seen_at.ok (hr.mono (by decide)) (by rfl) D_seen_at.g D_seen_at.kp D_seen_at.b .nil pass0 (pa_cons (pv 0) (pa_cons (pv 1) (pa_cons (pv 2) pa_nil)))))
    (pss_one (ps_ret (pe_ifExp (pt_cmpR op_isN (pe_meth0 (pv 3) C0.cl MU.m MU.ok (hr.mono (by decide)) MU.b .nil pass0) pe_non (nomark _)) (pe_callTy call_tuple_of (by rfl) T.g_tuple (by decide +kernel) (pa_cons (pe_fld (pv 3) rfl) pa_nil)) pe_non)))), ?_⟩
    refine ⟨_, rfl, _, rfl, _, rfl, L, lt, pts, ds, b, rfl, hL, hl, ok, hlen, hmany, fun N H1 n1 s1 S1 => ?_⟩
    subst n1
    refine ⟨_, rfl, N.s, N.dx, _, rfl, S1.o, rfl, N, ds, b, _, _, rfl, rfl, S1, ok, fun v H2 s2 hv => ⟨rfl, _, rfl, ?_⟩⟩
    have S2 := S1.same s2
    have s12 := s1.trans s2
    rcases hv with ⟨rfl, full⟩ | ⟨⟨n, rfl⟩, nf⟩
    · refine iteT ⟨_, rfl, N.s, N.C, N.dx, _, _, rfl, S2.o, C0.cl, C0.n6, rfl, N.ke, _, rfl, .inl ⟨SqL.of S2.k, fun t ht => ?_⟩⟩
      exact kq _ _ (s12.trans (new_same ht)) (.inl ⟨full, t, rfl, upd_same⟩)
    · exact iteF (kq _ _ s12 (.inr ⟨nf, rfl⟩))
end
end My

set_option pp.maxSteps 300
set_option Elab.async false
set_option linter.all false
set_option maxRecDepth 100000
set_option maxHeartbeats 1000000
namespace My
open PySem L2 MyR

theorem sh0 {b : Nat} (h1 : 1 ≤ b) (h2 : b ≤ 6) : Sh37 [0] b := ⟨.inl rfl, by show 0 + 0 ≤ 8; omega, h1, by omega, (by
  have : b = 1 ∨ b = 2 ∨ b = 3 ∨ b = 4 ∨ b = 5 ∨ b = 6 := by omega
  rcases this with rfl | rfl | rfl | rfl | rfl | rfl <;> decide +kernel), h2⟩
theorem sh1 {b : Nat} (h1 : 1 ≤ b) (h2 : b ≤ 3) : Sh37 [1] b := ⟨.inl rfl, by show 1 + 0 ≤ 8; omega, h1, by omega, (by
  have : b = 1 ∨ b = 2 ∨ b = 3 := by omega
  rcases this with rfl | rfl | rfl <;> decide +kernel), by omega⟩
theorem sh2 : Sh37 [2] 1 := ⟨.inl rfl, by show 2 + 0 ≤ 8; omega, by omega, by omega, by decide +kernel, by omega⟩
theorem sh00 : Sh37 [0, 0] 1 := ⟨.inr rfl, by show 0 + (0 + 0) ≤ 8; omega, by omega, by omega, by decide +kernel, by omega⟩
/-- a pair of depths and a width -/
def ShA (H : Hp) (v : V) : Prop := ∃ (T lt : Addr) (ds : List Nat) (b : Nat), v = .ref T ∧ H T = some (.tup [.ref lt, .int (b : Int)]) ∧ TupI H lt (dI ds) ∧ Sh37 ds b
theorem ShA.kept {H H' : Hp} {d l : Addr} {v : V} (h : ShA H v) (k : Kept d l H H') (D : Deal H d l) : ShA H' v := by
  obtain ⟨T, lt, ds, b, e, h1, h2, h3⟩ := h
  obtain ⟨n1, n2⟩ := D.nt h1
  exact ⟨T, lt, ds, b, e, k _ _ h1 n1 n2, h2.kept k D, h3⟩
structure Good (dl l : Addr) (H0 H : Hp) (vs : List V) : Prop where
  d : Deal H dl l
  k : Kept dl l H0 H
  a : ∀ v ∈ vs, ShA H v
theorem Good.go {dl l : Addr} {H0 H H' : Hp} {vs : List V} (G : Good dl l H0 H vs) (D : Deal H' dl l) (k : Kept dl l H H') : Good dl l H0 H' vs := ⟨D, G.k.trans k, fun v hv => (G.a v hv).kept k G.d⟩
theorem Good.sm {dl l : Addr} {H0 H H' : Hp} {vs : List V} (G : Good dl l H0 H vs) (s : Same H H') : Good dl l H0 H' vs := G.go (G.d.same s) (Kept.of s)
theorem Good.el {dl l : Addr} {H0 H H1 : Hp} {vs : List V} {t T : Addr} {ds : List Nat} {b : Nat} {z : Int} {us : List V} (G : Good dl l H0 H vs) (ht : H t = none) (eu : us = (dI ds).map V.int) (D1 : Deal H1 dl l) (k1 : Kept dl l (upd H t (.tup us)) H1) (hT : H1 T = none) (ok : Sh37 ds b) (ez : z = (b : Int)) :
    Good dl l H0 (upd H1 T (.tup [.ref t, .int z])) (vs ++ [.ref T]) := by
  subst eu ez
  have G1 := G.sm (new_same (o := .tup ((dI ds).map V.int)) ht)
  have G2 := (G1.go D1 k1).sm (new_same (o := .tup [.ref t, .int (b : Int)]) hT)
  refine ⟨G2.d, G2.k, fun v hv => ?_⟩
  rcases List.mem_append.mp hv with hv | hv
  · exact G2.a v hv
  · refine ⟨T, t, ds, b, List.mem_singleton.mp hv, upd_same, ?_, ok⟩
    have h1 : TupI (upd H t (.tup ((dI ds).map V.int))) t (dI ds) := upd_same
    exact (h1.kept k1 G1.d).same (new_same hT)
def spShp : Sp := fun vs H Q _ => ∃ (dl l : Addr), vs = [.ref dl] ∧ Deal H dl l ∧ ∀ (v : V) H', Deal H' dl l → Kept dl l H H' → ShA H' v → Q v H'
section
variable {P : Program} {w : World} {K : PySem.W.Frag} {mg : Str → Option Value} {base : Heap}
abbrev s_law_small_shape : Stmt := top 27
abbrev N_law_small_shape : List Str := ["_law_deal_here"]
theorem sc_law_small_shape : FnScope N_law_small_shape ["_law_deal_here"] (defScope s_law_small_shape) := ⟨rfl, rfl, rfl, by decide +kernel, rfl, by decide +kernel, by decide +kernel⟩
theorem ok_law_small_shape {f : Addr} {fd : FuncData} (F : Fun K "_law_small_shape" "_law_small_shape" s_law_small_shape f fd) (D_law_draw : Df P w K mg base 1 "_law_draw" ["_law_deal_here", "_law_many"] spDraw) : FnOk P w K mg base CX0 2 f fd ["_law_deal_here"] spShp := by
  refine F.ok sc_law_small_shape (fun vs H Q E h => ?_) (fun cdv A outer s H vs Q E hr h => ?_)
  · obtain ⟨dl, l, rfl, _⟩ := h
    rfl
  · obtain ⟨dl, l, rfl, D0, kq⟩ := h
    have nd := sc_law_small_shape.nd
    have zl : 16777216 = sizeLine := sizeLine_eq.symm
    refine ⟨_, (pss_one (ps_ret (pe_ix ix_list (pe_lst (pa_cons (pe_tup (pa_cons (pe_tup (pa_cons pe_int pa_nil)) (pa_cons pe_int pa_nil))) (pa_cons (pe_tup (pa_cons (pe_tup (pa_cons pe_int pa_nil)) (pa_cons pe_int pa_nil))) (pa_cons (pe_tup (pa_cons (pe_tup (pa_cons pe_int pa_nil)) (pa_cons pe_int pa_nil))) (pa_cons (pe_tup (pa_cons (pe_tup (pa_cons pe_int pa_nil)) (pa_cons pe_int pa_nil))) (pa_cons (pe_tup (pa_cons (pe_tup (pa_cons pe_int (pa_cons pe_int pa_nil))) (pa_cons pe_int pa_nil))) (pa_cons (pe_tup (pa_cons (pe_tup (pa_cons pe_int pa_nil)) (pa_cons pe_int pa_nil))) pa_nil))))))) (pe_call D_law_draw.ok (hr.mono (by decide)) (by rfl) D_law_draw.g D_law_draw.kp D_law_draw.b .nil pass0 (pa_cons (pv 0) (pa_cons pe_int pa_nil))) (fun _ _ => rfl)))), ?_⟩
    have G0 : Good dl l H H [] := ⟨D0, Kept.refl, fun v hv => by cases hv⟩
    refine ⟨(by show 1 ≤ sizeLine; omega), fun t1 ht1 => ⟨(by show 2 ≤ sizeLine; omega), fun T1 hT1 => ?_⟩⟩
    have S1 := G0.sm (new_same (o := .tup [V.int 0]) ht1)
    have G1 := G0.el (ds := [0]) (b := 1) (z := 1) ht1 rfl S1.d Kept.refl hT1 (sh0 (by omega) (by omega)) (by omega)
    refine ⟨(by show 1 ≤ sizeLine; omega), fun t2 ht2 => ⟨(by show 2 ≤ sizeLine; omega), fun T2 hT2 => ?_⟩⟩
    have S2 := G1.sm (new_same (o := .tup [V.int 0]) ht2)
    have G2 := G1.el (ds := [0]) (b := 2) (z := 2) ht2 rfl S2.d Kept.refl hT2 (sh0 (by omega) (by omega)) (by omega)
    refine ⟨(by show 1 ≤ sizeLine; omega), fun t3 ht3 => ⟨(by show 2 ≤ sizeLine; omega), fun T3 hT3 => ?_⟩⟩
    have S3 := G2.sm (new_same (o := .tup [V.int 0]) ht3)
    have G3 := G2.el (ds := [0]) (b := 3) (z := 3) ht3 rfl S3.d Kept.refl hT3 (sh0 (by omega) (by omega)) (by omega)
    refine ⟨(by show 1 ≤ sizeLine; omega), fun t4 ht4 => ⟨(by show 2 ≤ sizeLine; omega), fun T4 hT4 => ?_⟩⟩
    have S4 := G3.sm (new_same (o := .tup [V.int 1]) ht4)
    have G4 := G3.el (ds := [1]) (b := 1) (z := 1) ht4 rfl S4.d Kept.refl hT4 (sh1 (by omega) (by omega)) (by omega)
    refine ⟨(by show 2 ≤ sizeLine; omega), fun t5 ht5 => ⟨(by show 2 ≤ sizeLine; omega), fun T5 hT5 => ?_⟩⟩
    have S5 := G4.sm (new_same (o := .tup [V.int 0, V.int 0]) ht5)
    have G5 := G4.el (ds := [0, 0]) (b := 1) (z := 1) ht5 rfl S5.d Kept.refl hT5 sh00 (by omega)
    refine ⟨(by show 1 ≤ sizeLine; omega), fun t6 ht6 => ⟨(by show 2 ≤ sizeLine; omega), fun T6 hT6 => ?_⟩⟩
    have S6 := G5.sm (new_same (o := .tup [V.int 2]) ht6)
    have G6 := G5.el (ds := [2]) (b := 1) (z := 1) ht6 rfl S6.d Kept.refl hT6 sh2 (by omega)
    refine ⟨(by show 6 ≤ sizeLine; omega), fun L hL => ?_⟩
    have GL := G6.sm (new_same (o := .lst [V.ref T1, .ref T2, .ref T3, .ref T4, .ref T5, .ref T6]) hL)
    have nl := G6.d.free hL
    refine ⟨_, rfl, dl, l, 6, rfl, GL.d, by decide, by decide, fun r H2 hr0 hr1 D2 k2 => ?_⟩
    have GM := GL.go D2 k2
    have hL2 := k2 L _ upd_same nl.1 nl.2
    obtain ⟨k, rfl⟩ : ∃ k : Nat, r = (k : Int) := ⟨r.toNat, by omega⟩
    have hk : k < 6 := by omega
    have hg : [V.ref T1, V.ref T2, V.ref T3, V.ref T4, V.ref T5, V.ref T6][k]? = some ([V.ref T1, V.ref T2, V.ref T3, V.ref T4, V.ref T5, V.ref T6][k]'hk) := List.getElem?_eq_getElem hk
    refine ⟨L, _, _, _, rfl, rfl, SqL.of hL2, atI_nat hg, kq _ _ GM.d GM.k (GM.a _ ?_)⟩
    exact List.getElem_mem (l := [V.ref T1, V.ref T2, V.ref T3, V.ref T4, V.ref T5, V.ref T6]) hk
end
end My

set_option pp.maxSteps 300
set_option Elab.async false
set_option linter.all false
set_option maxRecDepth 100000
set_option maxHeartbeats 1000000
namespace My
open PySem L2 MyR
/-! ### points in a drawn order -/
theorem LTI.kept {H H' : Hp} {R d l : Addr} {xss : List (List Int)} (h : LTI H R xss) (k : Kept d l H H') (D : Deal H d l) (nl : R ≠ l) : LTI H' R xss := by
  obtain ⟨as, e1, e2, e3⟩ := h
  obtain ⟨z, n', ns, hd, hl, _⟩ := D.ex
  refine ⟨as, k _ _ e1 (ne_of e1 hd (by intro z; cases z)) nl, e2, fun i xs e => ?_⟩
  obtain ⟨p, q1, q2⟩ := e3 i xs e
  exact ⟨p, q1, q2.kept k D⟩
theorem lti_erase {H : Hp} {X : Addr} {as : List Addr} {xss : List (List Int)} {k : Nat} (e1 : H X = some (.lst (as.map V.ref))) (e2 : as.length = xss.length) (e3 : ∀ (i : Nat) xs, xss[i]? = some xs → ∃ p, as[i]? = some p ∧ TupI H p xs) :
    LTI (upd H X (.lst ((as.map V.ref).eraseIdx k))) X (xss.eraseIdx k) := by
  refine ⟨as.eraseIdx k, ?_, ?_, fun i xs e => ?_⟩
  · rw [upd_same, List.eraseIdx_eq_take_drop_succ, List.eraseIdx_eq_take_drop_succ, List.map_append, List.map_take, List.map_drop]
  · rw [List.length_eraseIdx, List.length_eraseIdx, e2]
  · have nt : ∀ {p : Addr} {ys : List Int}, TupI H p ys → TupI (upd H X (.lst ((as.map V.ref).eraseIdx k))) p ys := fun {p ys} h => by
      show upd H X _ p = _
      rw [upd_ne (ne_of (show H p = some (.tup _) from h) e1 (by intro z; cases z))]
      exact h
    rw [List.getElem?_eraseIdx] at e ⊢
    by_cases hk : i < k
    · rw [if_pos hk] at e ⊢
      obtain ⟨p, q1, q2⟩ := e3 i xs e
      exact ⟨p, q1, nt q2⟩
    · rw [if_neg hk] at e ⊢
      obtain ⟨p, q1, q2⟩ := e3 (i + 1) xs e
      exact ⟨p, q1, nt q2⟩
def spMix : Sp := fun vs H Q _ => ∃ (dl l S : Addr) (pts : List (List Int)), vs = [.ref dl, .ref S] ∧ Deal H dl l ∧ LTI H S pts ∧ pts.length ≤ 1000 ∧
  ∀ (L : Addr) H' pts', H L = none → Deal H' dl l → Kept dl l H H' → LTI H' L pts' → pts'.length = pts.length → (∀ x ∈ pts', x ∈ pts) → Q (.ref L) H'
section
variable {P : Program} {w : World} {K : PySem.W.Frag} {mg : Str → Option Value} {base : Heap}
abbrev s_law_mixed : Stmt := top 20
abbrev N_law_mixed : List Str := ["_law_deal_here", "_law_items", "_law_left", "_law_found", "_law_turn"]
theorem sc_law_mixed : FnScope N_law_mixed ["_law_deal_here", "_law_items"] (defScope s_law_mixed) := ⟨rfl, rfl, rfl, by decide +kernel, rfl, by decide +kernel, by decide +kernel⟩
theorem ok_law_mixed {f : Addr} {fd : FuncData} (F : Fun K "_law_mixed" "_law_mixed" s_law_mixed f fd) (T : Glob mg) (D_law_draw : Df P w K mg base 1 "_law_draw" ["_law_deal_here", "_law_many"] spDraw) : FnOk P w K mg base CX0 2 f fd ["_law_deal_here", "_law_items"] spMix := by
  refine F.ok sc_law_mixed (fun vs H Q E h => ?_) (fun cdv A outer s H vs Q E hr h => ?_)
  · obtain ⟨dl, l, S, pts, rfl, _⟩ := h
    rfl
  · obtain ⟨dl, l, S, pts, rfl, D0, hS, hmany, kq⟩ := h
    have nd := sc_law_mixed.nd
    refine ⟨_, (pss_cons (ps_par (i := 2) (j := 3) rfl nd rfl rfl (by decide) rfl rfl (pa_cons (pe_callTy call_list_of (by rfl) T.g_list (by decide +kernel) (pa_cons (pv 1) pa_nil)) (pa_cons (pe_lst pa_nil) pa_nil)) (by rfl))
    (pss_cons (ps_for PassesOwn.never rfl (pi_range1 (by rfl) T.g_range (pa_cons (pe_callB call_len_seq (by rfl) T.g_len PySem.boot_len (pa_cons (pv 2) pa_nil)) pa_nil)) (pg_name (i := 4) nd rfl (Or.inl rfl))
    (pss_one (ps_expr (pe_bm PySem.F.plainAttrs_list PySem.F.slot_list_append PySem.F.type_list_append mt_append (pv 3) (pa_cons (pe_bm PySem.F.plainAttrs_list PySem.F.slot_list_pop PySem.F.type_list_pop mt_popAt (pv 2) (pa_cons (pe_call D_law_draw.ok (hr.mono (by decide)) (by rfl) D_law_draw.g D_law_draw.kp D_law_draw.b .nil pass0 (pa_cons (pv 0) (pa_cons (pe_callB call_len_seq (by rfl) T.g_len PySem.boot_len (pa_cons (pv 2) pa_nil)) pa_nil))) pa_nil)) pa_nil)))))
    (pss_one (ps_ret (pv 3))))), ?_⟩
    have zl' : 16777216 = sizeLine := sizeLine_eq.symm
    obtain ⟨zs0, zn0, zns, hd0, hl0, _⟩ := D0.ex
    refine seq_by (fun σ H1 => ∃ X Y : Addr, σ = [some (.ref dl), some (.ref S), some (.ref X), some (.ref Y), none] ∧ Same H H1 ∧ LTI H1 X pts ∧ LTI H1 Y [] ∧ H X = none ∧ H Y = none ∧ X ≠ Y) (fun D' hD' => ?_) ?_
    · obtain ⟨as, e1, e2, e3⟩ := hS
      refine ⟨_, rfl, S, _, rfl, .inl (SqL.of e1), fun X hX => ⟨(by show 0 ≤ sizeLine; omega), fun Y hY => ⟨_, _, rfl, hD' _ _ ⟨X, Y, rfl, ?_⟩⟩⟩⟩
      have s1 := new_same (o := .lst (as.map V.ref)) hX
      have s2 := new_same (o := .lst []) hY
      exact ⟨s1.trans s2, ⟨as, s2 _ _ upd_same, e2, fun i xs q => let ⟨p, q1, q2⟩ := e3 i xs q; ⟨p, q1, (q2.same s1).same s2⟩⟩, ⟨[], upd_same, rfl, fun i xs q => by simp at q⟩, hX, same_free s1 hY, ne_of_none (show upd H X _ X = some _ from upd_same) hY⟩
    rintro σ H1 ⟨X, Y, rfl, s1, hX1, hY1, hXn, hYn, nXY⟩
    have nXl : X ≠ l := fun z => by rw [z, hl0] at hXn; cases hXn
    have nYl : Y ≠ l := fun z => by rw [z, hl0] at hYn; cases hYn
    have nXd : X ≠ dl := fun z => by rw [z, hd0] at hXn; cases hXn
    have nYd : Y ≠ dl := fun z => by rw [z, hd0] at hYn; cases hYn
    obtain ⟨as1, a1, a2, _⟩ := id hX1
    refine ⟨_, rfl, X, _, rfl, .inl (SqL.of a1), ((pts.length : Nat) : Int), ?_, by omega, by omega, ?_⟩
    · rw [List.length_map, a2]
    rw [Int.toNat_natCast]
    refine for_range (lo := 0) (n := pts.length) (fun i σ H2 => ∃ (a4 : Option V) (lf fn : List (List Int)), σ = [some (.ref dl), some (.ref S), some (.ref X), some (.ref Y), a4] ∧ Deal H2 dl l ∧ Kept dl l H H2 ∧ LTI H2 X lf ∧ LTI H2 Y fn ∧ lf.length + i = pts.length ∧ fn.length = i ∧ (∀ x ∈ lf, x ∈ pts) ∧ ∀ x ∈ fn, x ∈ pts)
      ⟨none, pts, [], rfl, D0.same s1, Kept.of s1, hX1, hY1, rfl, rfl, fun x hx => hx, fun x hx => absurd hx (by simp)⟩ ?_ ?_
    · clear a1 a2 hX1 hY1 s1
      rintro i σ H2 hi ⟨a4, lf, fn, rfl, D2, k2, hX2, hY2, hlf, hfn, hlp, hfp⟩
      obtain ⟨as, e1, e2, e3⟩ := id hX2
      obtain ⟨bs, b1, _, _⟩ := id hY2
      refine ⟨_, rfl, .inl ⟨rfl, _, SqL.of b1⟩, _, rfl, .inl ⟨rfl, _, SqL.of e1⟩, _, rfl, _, rfl, X, _, rfl, .inl (SqL.of e1), dl, l, ((lf.length : Nat) : Int), ?_, D2, by omega, by omega, fun r H3 hr0 hr1 D3 k3 => ?_⟩
      · rw [List.length_map, e2]
        rfl
      have hX3 := hX2.kept k3 D2 nXl
      have hY3 := hY2.kept k3 D2 nYl
      obtain ⟨as, e1, e2, e3⟩ := id hX3
      obtain ⟨k, rfl⟩ : ∃ k : Nat, r = (k : Int) := ⟨r.toNat, by omega⟩
      have hk : k < lf.length := by omega
      have hlk : lf[k]? = some lf[k] := List.getElem?_eq_getElem hk
      obtain ⟨p, q1, q2⟩ := e3 k _ hlk
      have hz := e2 ▸ hk
      refine ⟨X, _, _, k, .ref p, rfl, rfl, e1, by omega, by omega, ?_, by rw [List.getElem?_map, q1]; rfl, ?_⟩
      · have := seqIndex_of (k := (k : Int)) (n := (as.map V.ref).length) (by omega) (by rw [List.length_map]; omega)
        rw [this]
        rfl
      have hX4 := lti_erase (k := k) e1 e2 e3
      have hY4 : LTI (upd H3 X (.lst ((as.map V.ref).eraseIdx k))) Y fn := hY3.upd nXY.symm e1 (fun _ z => by cases z)
      have hp4 : TupI (upd H3 X (.lst ((as.map V.ref).eraseIdx k))) p lf[k] := by
        show upd H3 X _ p = _
        rw [upd_ne (ne_of (show H3 p = some (.tup _) from q2) e1 (by intro z; cases z))]
        exact q2
      have D4 := D3.other (o := .lst ((as.map V.ref).eraseIdx k)) nXd nXl
      have k4 := (k2.trans k3).new (o := .lst ((as.map V.ref).eraseIdx k)) hXn
      generalize upd H3 X (.lst ((as.map V.ref).eraseIdx k)) = H4 at hX4 hY4 hp4 D4 k4 ⊢
      obtain ⟨acc, c1, c2, c3⟩ := lti_app hY4 hp4 (by omega)
      refine ⟨Y, _, _, rfl, rfl, c1, c2, _, lf.eraseIdx k, fn ++ [lf[k]], rfl, D4.other nYd nYl, k4.new hYn, hX4.upd nXY c1 (fun _ z => by cases z), c3, ?_, ?_, fun x hx => hlp x (List.mem_of_mem_eraseIdx hx), fun x hx => ?_⟩
      · rw [List.length_eraseIdx, if_pos hk]
        omega
      · rw [List.length_append, hfn]
        rfl
      · rcases List.mem_append.mp hx with hx | hx
        · exact hfp x hx
        · rw [List.mem_singleton.mp hx]
          exact hlp _ (List.getElem_mem hk)
    · rintro σ H2 ⟨a4, lf, fn, rfl, D2, k2, hX2, hY2, hlf, hfn, hlp, hfp⟩
      exact ⟨_, rfl, kq Y H2 fn hYn D2 k2 hY2 hfn hfp⟩
end
end My

set_option pp.maxSteps 300
set_option Elab.async false
set_option linter.all false
set_option maxRecDepth 100000
set_option maxHeartbeats 1000000
namespace My
open PySem L2 MyR
/-! ### by what the factors are multiplied at a point -/
theorem bn_bits' {z : Int} (h1 : -(2 ^ 110) < z) (h2 : z < 2 ^ 110) {k : Nat} (hk : k ≤ 70) : (bn z k).natAbs < 2 ^ 7771 :=
  Nat.lt_of_lt_of_le (bn_bits h1 h2 k hk) (Nat.pow_le_pow_right (by decide) (by omega))
def wI (ds : List Nat) (b : Nat) (xs : List Int) (i : Nat) : Int := wtF (if i / pN ds b = clsN ds xs then 1 else 0) (varsI ds xs) (plN b ds.length (i % pN ds b))
def facL (ds : List Nat) (b : Nat) (xs : List Int) : List Int := (List.range (2 ^ ds.sum * pN ds b)).map (wI ds b xs)
def XsOk (ds : List Nat) (xs : List Int) : Prop := xs.length = ds.length ∧ ∀ i, -(2 ^ 110) < xs.getD i 0 ∧ xs.getD i 0 < 2 ^ 110
theorem div_bd {x : Int} {d : Nat} (h1 : -(2 ^ 110) < x) (h2 : x < 2 ^ 110) : -(2 ^ 110) < x / 2 ^ d ∧ x / 2 ^ d < 2 ^ 110 := by
  have hp : (0 : Int) < 2 ^ d := p2_pos d
  have h3 := Int.ediv_emod_unique hp (a := x) (r := x % 2 ^ d) (q := x / 2 ^ d) |>.mp ⟨rfl, rfl⟩
  obtain ⟨e, r0, r1⟩ := h3
  generalize x / 2 ^ d = q at *
  generalize x % 2 ^ d = r at *
  generalize (2 : Int) ^ d = t at *
  have t1 : 1 ≤ t := by omega
  constructor
  · by_cases hq : 0 ≤ q
    · have : (2 : Int) ^ 110 > 0 := by decide
      omega
    · have : t * q ≤ 1 * q := Int.mul_le_mul_of_nonpos_right t1 (by omega)
      have h4 : q ≥ x - r - 0 ∨ True := .inr trivial
      have h5 : t * (q + 1) ≤ 1 * (q + 1) := Int.mul_le_mul_of_nonpos_right t1 (by omega)
      rw [Int.mul_add, Int.mul_one] at h5
      omega
  · by_cases hq : 0 ≤ q
    · have : 1 * q ≤ t * q := Int.mul_le_mul_of_nonneg_right t1 hq
      omega
    · have : (2 : Int) ^ 110 > 0 := by decide
      omega
theorem vars_bd {ds : List Nat} {xs : List Int} (h : XsOk ds xs) : ∀ i, -(2 ^ 110) < (varsI ds xs).getD i 0 ∧ (varsI ds xs).getD i 0 < 2 ^ 110 := fun i => by
  unfold varsI
  by_cases hi : i < ds.length
  · rw [List.getD_eq_getElem?_getD, at_range hi]
    show -(2 ^ 110) < vrI ds xs i ∧ vrI ds xs i < 2 ^ 110
    unfold vrI
    exact div_bd (h.2 i).1 (h.2 i).2
  · rw [List.getD_eq_getElem?_getD, List.getElem?_eq_none (by rw [List.length_map, List.length_range]; omega)]
    show -(2 ^ 110) < (0 : Int) ∧ (0 : Int) < 2 ^ 110
    decide
def spFac : Sp := fun vs H Q _ => ∃ (lt pt : Addr) (ds : List Nat) (b : Nat) (xs : List Int), vs = [.ref lt, .int (b : Int), .ref pt] ∧ Sh37 ds b ∧ TupI H lt (dI ds) ∧ TupI H pt xs ∧ XsOk ds xs ∧
  ∀ (L : Addr) H', H L = none → Same H H' → LI H' L (facL ds b xs) → Q (.ref L) H'
section
variable {P : Program} {w : World} {K : PySem.W.Frag} {mg : Str → Option Value} {base : Heap}
abbrev s_law_factors : Stmt := top 28
abbrev N_law_factors : List Str := ["_law_depths", "_law_wide", "_law_spot", "_law_at", "_law_variables", "_law_found", "_law_here", "_law_place", "_law_worth", "_law_top", "_law_under"]
theorem sc_law_factors : FnScope N_law_factors ["_law_depths", "_law_wide", "_law_spot"] (defScope s_law_factors) := ⟨rfl, rfl, rfl, by decide +kernel, rfl, by decide +kernel, by decide +kernel⟩
theorem ok_law_factors {f : Addr} {fd : FuncData} (F : Fun K "_law_factors" "_law_factors" s_law_factors f fd) (T : Glob mg) (g_sum : mg "sum" = none) (D_law_class : Df P w K mg base 1 "_law_class" ["_law_spot", "_law_depths"] spClass) (D_law_vectors : Df P w K mg base 4 "_law_vectors" ["_law_many", "_law_wide"] spVec12) (D_law_row : Df P w K mg base 1 "_law_row" ["_law_top", "_law_many"] spBin) :
    FnOk P w K mg base CX0 5 f fd ["_law_depths", "_law_wide", "_law_spot"] spFac := by
  refine F.ok sc_law_factors (fun vs H Q E h => ?_) (fun cdv A outer s H vs Q E hr h => ?_)
  · obtain ⟨lt, pt, ds, b, xs, rfl, _⟩ := h
    rfl
  · obtain ⟨lt, pt, ds, b, xs, rfl, ok, hl, hx, hxo, kq⟩ := h
    have nd := sc_law_factors.nd
    refine ⟨_, (pss_cons (ps_asg (pe_call D_law_class.ok (hr.mono (by decide)) (by rfl) D_law_class.g D_law_class.kp D_law_class.b .nil pass0 (pa_cons (pv 2) (pa_cons (pv 0) pa_nil))) (pg_tup (by rfl) (pgs_cons (pg_name (i := 3) nd rfl (Or.inl rfl)) (pgs_cons (pg_name (i := 4) nd rfl (Or.inl rfl)) pgs_nil))))
    (pss_cons (ps_set (i := 5) nd rfl (Or.inl rfl) (pe_lst pa_nil))
    (pss_cons (ps_for PassesOwn.never rfl (pi_range1 (by rfl) T.g_range (pa_cons (pe_op op_shl pe_int (pe_callB (cr_sumK (K := K) rfl rfl) (by rfl) g_sum (by decide +kernel) (pa_cons (pv 0) pa_nil))) pa_nil)) (pg_name (i := 6) nd rfl (Or.inl rfl))
    (pss_one (ps_for PassesOwn.never rfl (pi_list (pe_call D_law_vectors.ok (hr.mono (by decide)) (by rfl) D_law_vectors.g D_law_vectors.kp D_law_vectors.b .nil pass0 (pa_cons (pe_callB call_len_seq (by rfl) T.g_len PySem.boot_len (pa_cons (pv 0) pa_nil)) (pa_cons (pv 1) pa_nil)))) (pg_name (i := 7) nd rfl (Or.inl rfl))
    (pss_cons (ps_set (i := 8) nd rfl (Or.inl rfl) (pe_callTy call_int1 (by rfl) T.g_int (by decide +kernel) (pa_cons (pe_cmpR op_eq (pv 6) (pv 3) (nomark _)) pa_nil)))
    (pss_cons (ps_for PassesOwn.never rfl (pi_zipK (by rfl) T.g_zip (pa_cons (pv 4) (pa_cons (pv 7) pa_nil))) (pg_tup (by rfl) (pgs_cons (pg_name (i := 9) nd rfl (Or.inl rfl)) (pgs_cons (pg_name (i := 10) nd rfl (Or.inl rfl)) pgs_nil)))
    (pss_one (ps_set (i := 8) nd rfl (Or.inl rfl) (pe_op op_mulX (pv 8) (pe_ix ix_list (pe_call D_law_row.ok (hr.mono (by decide)) (by rfl) D_law_row.g D_law_row.kp D_law_row.b .nil pass0 (pa_cons (pv 9) (pa_cons (pe_op op_add (pv 10) pe_int) pa_nil))) (pv 10) (fun _ _ => rfl))))))
    (pss_one (ps_expr (pe_bm PySem.F.plainAttrs_list PySem.F.slot_list_append PySem.F.type_list_append mt_append (pv 5) (pa_cons (pv 8) pa_nil)))))))))
    (pss_one (ps_ret (pv 5)))))), ?_⟩
    have zl' : 16777216 = sizeLine := sizeLine_eq.symm
    obtain ⟨hP, hC⟩ := ok.p
    have hm := ok.m
    have hs8 := ok.s
    have hb1 := ok.b1
    have hb := ok.b64
    have hcp := ok.c
    have hPv : (vecs ds.length b).length ≤ 8 := hP
    have hdl : ((dI ds).map V.int).length = ds.length := by rw [List.length_map]; unfold dI; rw [List.length_map]
    have hvl : (varsI ds xs).length = ds.length := by unfold varsI; rw [List.length_map, List.length_range]
    obtain ⟨Cn, hCn⟩ : ∃ Cn : Nat, Cn = 2 ^ ds.sum := ⟨_, rfl⟩
    have hNi : (1 : Int) * 2 ^ (ds.sum : Int).toNat = (Cn : Int) := by
      rw [hCn, Int.toNat_natCast, Int.one_mul, Int.natCast_pow]
      rfl
    have hC' : Cn ≤ 256 := by rw [hCn]; exact hC
    rw [← hCn] at hcp
    refine seq_by (fun σ H1 => ∃ vt : Addr, σ = [some (.ref lt), some (.int (b : Int)), some (.ref pt), some (.int ((clsN ds xs : Nat) : Int)), some (.ref vt), none, none, none, none, none, none] ∧ Same H H1 ∧ TupI H1 vt (varsI ds xs)) (fun D' hD' => ?_) ?_
    · refine ⟨_, rfl, _, rfl, pt, lt, ds, xs, rfl, hx, hl, hxo.1, hm, hs8, fun T1 vt H1 s1 hT1 hv1 => ?_⟩
      refine ⟨T1, _, rfl, SqT.of hT1, rfl, _, _, rfl, _, _, rfl, rfl, hD' _ _ ⟨vt, ?_, s1, hv1⟩⟩
      rw [cls_int]
      rfl
    rintro σ H1 ⟨vt, rfl, s1, hv1⟩
    refine seq_by (fun σ H2 => ∃ L : Addr, σ = [some (.ref lt), some (.int (b : Int)), some (.ref pt), some (.int ((clsN ds xs : Nat) : Int)), some (.ref vt), some (.ref L), none, none, none, none, none] ∧ Same H1 H2 ∧ LI H2 L [] ∧ H1 L = none) (fun D' hD' => ?_) ?_
    · exact ⟨(by show 0 ≤ sizeLine; omega), fun L hL => hD' _ _ ⟨L, rfl, new_same hL, upd_same, hL⟩⟩
    rintro σ H2 ⟨L, rfl, s2, hL2, hLn⟩
    refine ⟨_, rfl, true, lt, _, rfl, sqK_t (SqT.of (hl.same (s1.trans s2))), ?_⟩
    rw [show (dI ds).sum = (ds.sum : Int) from nat_sum ds]
    refine ⟨_, _, rfl, rfl, ⟨by omega, by omega, by decide⟩, (Cn : Int), (by show [V.int _] = [V.int _]; rw [hNi]), by omega, by omega, ?_⟩
    rw [Int.toNat_natCast]
    refine for_range (lo := 0) (n := Cn) (fun g σ H3 => ∃ a6 a7 a8 a9 a10 : Option V, σ = [some (.ref lt), some (.int (b : Int)), some (.ref pt), some (.int ((clsN ds xs : Nat) : Int)), some (.ref vt), some (.ref L), a6, a7, a8, a9, a10] ∧ Same H1 H3 ∧ LI H3 L ((List.range (g * pN ds b)).map (wI ds b xs)))
      ⟨none, none, none, none, none, rfl, s2, by rw [Nat.zero_mul]; exact hL2⟩ ?_ ?_
    · clear s2 hL2
      rintro g σ H3 hg ⟨a6, a7, a8, a9, a10, rfl, s3, h3⟩
      have hgC : (g + 1) * pN ds b ≤ Cn * pN ds b := Nat.mul_le_mul_right _ hg
      rw [Nat.succ_mul] at hgC
      refine ⟨_, rfl, lt, _, rfl, .inr (SqT.of (hl.same (s1.trans s3))), _, rfl, ds.length, hm, b, ?_, hb1, hb, by omega, by omega, fun V1 H4 hV1 s4 hl4 => ?_⟩
      · rw [hdl]
        rfl
      obtain ⟨ws, hws⟩ : ∃ ws, LTV H4 V1 ws (dV b ds.length) := hl4.lenV
      have hwl : ws.length = pN ds b := by rw [hws.2.1]; unfold dV pN; rw [List.length_map]
      have nVL : V1 ≠ L := (ne_of_none h3 hV1).symm
      refine ⟨V1, rfl, ⟨_, SqL.of hws.1⟩, ?_⟩
      refine for_list (xs := ws) (fun j σ H5 => ∃ a7 a8 a9 a10 : Option V, σ = [some (.ref lt), some (.int (b : Int)), some (.ref pt), some (.int ((clsN ds xs : Nat) : Int)), some (.ref vt), some (.ref L), some (.int (g : Int)), a7, a8, a9, a10] ∧ Same H1 H5 ∧ LTV H5 V1 ws (dV b ds.length) ∧ LI H5 L ((List.range (g * pN ds b + j)).map (wI ds b xs)))
        ⟨a7, a8, a9, a10, by rw [Int.zero_add]; rfl, s3.trans s4, hws, h3.same s4⟩ (fun j σ H5 _ h => by obtain ⟨_, _, _, _, _, _, h, _⟩ := h; exact SqL.of h.1) ?_ ?_
      · clear s3 h3 s4 hl4 hws hV1
        rintro j x σ H5 hj ⟨b7, b8, b9, b10, rfl, s5, hws, h5⟩
        obtain ⟨p, v, hj', hvj, rfl, hp5⟩ := hws.at hj
        have hvv := hvj
        unfold dV at hvv
        rw [List.getElem?_map] at hvv
        obtain ⟨u, hu1, rfl⟩ := Option.map_eq_some_iff.mp hvv
        have hum := List.mem_of_getElem? hu1
        have hul := vecs_mem _ _ u hum
        have hplu : plN b ds.length j = u := by unfold plN; rw [List.getD_eq_getElem?_getD, hu1]; rfl
        have hjP : j < pN ds b := by
          have := (List.getElem?_eq_some_iff.mp hu1).1
          exact this
        have hP0 : 0 < pN ds b := by omega
        have hid : (g * pN ds b + j) / pN ds b = g := by rw [Nat.mul_comm, Nat.mul_add_div hP0, Nat.div_eq_of_lt hjP]; rfl
        have him : (g * pN ds b + j) % pN ds b = j := by rw [Nat.mul_comm, Nat.mul_add_mod, Nat.mod_eq_of_lt hjP]
        have hw : wI ds b xs (g * pN ds b + j) = wtF (if g = clsN ds xs then 1 else 0) (varsI ds xs) u := by
          unfold wI
          rw [hid, him, hplu]
        have hent : ∀ k, u.getD k 0 < 66 := fun k => by
          by_cases hk : k < u.length
          · rw [List.getD_eq_getElem?_getD, List.getElem?_eq_getElem hk]
            exact vecs_ent hb ds.length b u (Nat.le_refl _) hum _ (List.getElem_mem hk)
          · rw [List.getD_eq_getElem?_getD, List.getElem?_eq_none (by omega)]
            show 0 < 66
            omega
        refine seq_by (fun σ H6 => H6 = H5 ∧ σ = [some (.ref lt), some (.int (b : Int)), some (.ref pt), some (.int ((clsN ds xs : Nat) : Int)), some (.ref vt), some (.ref L), some (.int (g : Int)), some (.ref p), some (.int (if g = clsN ds xs then 1 else 0)), b9, b10]) (fun D'' hD'' => ?_) ?_
        · refine ⟨_, rfl, _, rfl, rfl, .inr ⟨_, rfl, hD'' _ _ ⟨rfl, ?_⟩⟩⟩
          have e : (if decide (V.int (g : Int) = V.int ((clsN ds xs : Nat) : Int)) = true then (1 : Int) else 0) = if g = clsN ds xs then 1 else 0 := by
            by_cases z : g = clsN ds xs
            · rw [if_pos z, if_pos (decide_eq_true (by rw [z]))]
            · rw [if_neg z, if_neg]
              intro q
              have q := V.int.inj (of_decide_eq_true q)
              omega
          rw [e]
          rfl
        rintro σ H6 ⟨rfl, rfl⟩
        refine seq_by (fun σ H7 => ∃ a9 a10 : Option V, σ = [some (.ref lt), some (.int (b : Int)), some (.ref pt), some (.int ((clsN ds xs : Nat) : Int)), some (.ref vt), some (.ref L), some (.int (g : Int)), some (.ref p), some (.int (wI ds b xs (g * pN ds b + j))), a9, a10] ∧ Same H6 H7) (fun D'' hD'' => ?_) ?_
        · have hv6 := hv1.same s5
          have hdu : ((dI u).map V.int).length = ds.length := by rw [List.length_map]; unfold dI; rw [List.length_map, hul]
          have hvv2 : ((varsI ds xs).map V.int).length = ds.length := by rw [List.length_map, hvl]
          refine ⟨_, rfl, _, rfl, true, true, vt, p, _, _, rfl, sqK_t (SqT.of hv6), sqK_t (SqT.of hp5), ?_⟩
          refine for_it (walk_zipK (xs := (varsI ds xs).map V.int) (ys := (dI u).map V.int) (by rw [hvv2, hdu])) (fun k σ H7 => ∃ (a9 a10 : Option V) (o : Int), σ = [some (.ref lt), some (.int (b : Int)), some (.ref pt), some (.int ((clsN ds xs : Nat) : Int)), some (.ref vt), some (.ref L), some (.int (g : Int)), some (.ref p), some (.int o), a9, a10] ∧ Same H6 H7 ∧ o.natAbs < 2 ^ (1 + 7771 * k) ∧ wtF o ((varsI ds xs).drop k) (u.drop k) = wI ds b xs (g * pN ds b + j))
            ⟨b9, b10, _, rfl, fun _ _ e => e, (by split <;> decide), by rw [hw]; rfl⟩ (fun k σ H7 _ h => by obtain ⟨_, _, _, _, h, _⟩ := h; exact ⟨sqK_t (SqT.of (hv6.same h)), sqK_t (SqT.of (hp5.same h))⟩) ?_ ?_
          · rintro k x σ H7 H8 hk ⟨c9, c10, o, rfl, s7, ho, hwo⟩ ⟨T', x1, x2, rfl, hT, rfl, hx1, hx2⟩
            rw [hvv2] at hk
            have hx1 : ((varsI ds xs).map V.int)[k]? = some x1 := hx1
            have hx2 : ((dI u).map V.int)[k]? = some x2 := hx2
            have hvk : (varsI ds xs)[k]? = some ((varsI ds xs).getD k 0) := by rw [List.getD_eq_getElem?_getD, List.getElem?_eq_getElem (show k < (varsI ds xs).length by omega)]; rfl
            rw [map_at_int hvk] at hx1
            obtain rfl := Option.some.inj hx1
            have huk : u[k]? = some (u.getD k 0) := by rw [List.getD_eq_getElem?_getD, List.getElem?_eq_getElem (show k < u.length by omega)]; rfl
            have hui : (dI u)[k]? = some ((u.getD k 0 : Nat) : Int) := by
              unfold dI
              rw [List.getElem?_map, huk]
              rfl
            rw [map_at_int hui] at hx2
            obtain rfl := Option.some.inj hx2
            have s8 := s7.trans (new_same (o := .tup [V.int ((varsI ds xs).getD k 0), .int ((u.getD k 0 : Nat) : Int)]) hT)
            refine ⟨T', _, rfl, SqT.of upd_same, rfl, _, _, rfl, _, _, rfl, rfl, ?_⟩
            generalize upd H7 T' (.tup [V.int ((varsI ds xs).getD k 0), .int ((u.getD k 0 : Nat) : Int)]) = H8 at s8 ⊢
            have hbd := vars_bd hxo k
            have he := hent k
            refine ⟨_, rfl, _, rfl, _, rfl, _, _, rfl, rfl, (varsI ds xs).getD k 0, u.getD k 0 + 1, ?_, by omega, by omega, hbd.1, hbd.2, fun R H9 hR s9 hR9 => ?_⟩
            · rfl
            have hbn : (bnL ((varsI ds xs).getD k 0) (u.getD k 0 + 1))[u.getD k 0]? = some (bn ((varsI ds xs).getD k 0) (u.getD k 0)) := at_range (Nat.lt_succ_self _)
            have hbb := bn_bits' hbd.1 hbd.2 (k := u.getD k 0) (by omega)
            refine ⟨_, rfl, R, _, _, _, rfl, rfl, SqL.of hR9, atI_nat (map_at_int hbn), _, _, rfl, rfl, mulx_ok ho hbb (by omega), some (.int ((varsI ds xs).getD k 0)), some (.int ((u.getD k 0 : Nat) : Int)), _, rfl, s8.trans s9, ?_, ?_⟩
            · rw [Int.natAbs_mul, show 1 + 7771 * (k + 1) = 1 + 7771 * k + 7771 by omega, Nat.pow_add]
              exact Nat.mul_lt_mul'' ho hbb
            · rw [← hwo, List.drop_eq_getElem_cons (show k < (varsI ds xs).length by omega), List.drop_eq_getElem_cons (show k < u.length by omega)]
              have e1 : (varsI ds xs)[k]'(by omega) = (varsI ds xs).getD k 0 := by
                rw [List.getElem?_eq_getElem (show k < (varsI ds xs).length by omega)] at hvk
                exact Option.some.inj hvk
              have e2 : u[k]'(by omega) = u.getD k 0 := by
                rw [List.getElem?_eq_getElem (show k < u.length by omega)] at huk
                exact Option.some.inj huk
              rw [e1, e2]
              rfl
          · rintro σ H7 ⟨c9, c10, o, rfl, s7, ho, hwo⟩
            refine hD'' _ _ ⟨c9, c10, ?_, s7⟩
            rw [hvv2, List.drop_of_length_le (by omega)] at hwo
            rw [← hwo]
            rfl
        rintro σ H7 ⟨c9, c10, rfl, s7⟩
        have h7 := h5.same s7
        have hws7 := hws.same s7
        refine ⟨_, rfl, .inl ⟨rfl, _, SqL.of h7⟩, _, rfl, L, _, _, rfl, rfl, h7, (by rw [List.length_map, List.length_map, List.length_range]; omega), ?_⟩
        refine ⟨_, _, _, _, rfl, same_up (s5.trans s7) hLn, hws7.updL nVL h7, ?_⟩
        rw [← Nat.add_assoc, List.range_succ, List.map_append]
        exact li_snoc
      · rintro σ H5 ⟨b7, b8, b9, b10, rfl, s5, hws5, h5⟩
        rw [hwl] at h5
        exact ⟨_, _, _, _, _, rfl, s5, by rw [Nat.succ_mul]; exact h5⟩
    · rintro σ H3 ⟨a6, a7, a8, a9, a10, rfl, s3, h3⟩
      refine ⟨_, rfl, kq L H3 (same_free s1 hLn) (s1.trans s3) ?_⟩
      unfold facL
      rw [← hCn]
      exact h3
end
end My

set_option pp.maxSteps 300
set_option Elab.async false
set_option linter.all false
set_option maxRecDepth 100000
set_option maxHeartbeats 1000000
namespace My
open PySem L2 MyR
/-! ### all functions, by their factors -/
/-- a list of lists of whole numbers, none of which is the list itself or the one at x -/
def LLx (G : Addr → Prop) (H : Hp) (L : Addr) (xss : List (List Int)) (x : Addr) : Prop := ∃ as : List Addr, H L = some (.lst (as.map V.ref)) ∧ as.length = xss.length ∧ (∀ (i : Nat) xs, xss[i]? = some xs → ∃ p, as[i]? = some p ∧ LI H p xs) ∧ ∀ p ∈ as, p ≠ L ∧ p ≠ x ∧ G p
theorem LLx.same {G : Addr → Prop} {H H' : Hp} {L x : Addr} {xss : List (List Int)} (h : LLx G H L xss x) (s : Same H H') : LLx G H' L xss x := let ⟨as, e1, e2, e3, e4⟩ := h; ⟨as, s _ _ e1, e2, fun i xs e => let ⟨p, q1, q2⟩ := e3 i xs e; ⟨p, q1, q2.same s⟩, e4⟩
theorem LLx.lli {G : Addr → Prop} {H : Hp} {L x : Addr} {xss : List (List Int)} (h : LLx G H L xss x) : LLI H L xss := let ⟨as, e1, e2, e3, _⟩ := h; ⟨as, e1, e2, e3⟩
theorem LI.upN {H : Hp} {p a : Addr} {o : HO} {xs : List Int} (h : LI H p xs) (n : p ≠ a) : LI (upd H a o) p xs := by
  show upd H a o p = _
  rw [upd_ne n]
  exact h
theorem llx_snoc {G : Addr → Prop} {H : Hp} {L x p : Addr} {as : List Addr} {xss : List (List Int)} {xs : List Int} (e1 : H L = some (.lst (as.map V.ref))) (e2 : as.length = xss.length) (e3 : ∀ (i : Nat) xs, xss[i]? = some xs → ∃ p, as[i]? = some p ∧ LI H p xs) (e4 : ∀ p ∈ as, p ≠ L ∧ p ≠ x ∧ G p)
    (hp : LI H p xs) (n1 : p ≠ L) (n2 : p ≠ x) (n3 : G p) : LLx G (upd H L (.lst (as.map V.ref ++ [.ref p]))) L (xss ++ [xs]) x := by
  refine ⟨as ++ [p], by rw [upd_same, List.map_append]; rfl, by rw [List.length_append, List.length_append, e2]; rfl, fun i ys e => ?_, fun q hq => ?_⟩
  · by_cases h : i < xss.length
    · rw [List.getElem?_append_left h] at e
      obtain ⟨q, q1, q2⟩ := e3 i ys e
      exact ⟨q, by rw [List.getElem?_append_left (by omega)]; exact q1, q2.upN (e4 q (List.mem_of_getElem? q1)).1⟩
    · have hi := (List.getElem?_eq_some_iff.mp e).1
      rw [List.length_append] at hi
      have hi : i = xss.length := by simp at hi; omega
      subst hi
      rw [List.getElem?_append_right (Nat.le_refl _), Nat.sub_self] at e
      obtain rfl : xs = ys := Option.some.inj e
      exact ⟨p, by rw [List.getElem?_append_right (by omega), e2, Nat.sub_self]; rfl, hp.upN n1⟩
  · rcases List.mem_append.mp hq with hq | hq
    · exact e4 q hq
    · rw [List.mem_singleton.mp hq]
      exact ⟨n1, n2, n3⟩
theorem llx_ext {G : Addr → Prop} {H : Hp} {W D x : Addr} {us ws : List V} {xss yss : List (List Int)} (h : LLx G H W xss W) (g : LLx G H D yss W) (hu : H W = some (.lst us)) (hw : H D = some (.lst ws)) : LLx G (upd H W (.lst (us ++ ws))) W (xss ++ yss) W := by
  obtain ⟨as, e1, e2, e3, e4⟩ := h
  obtain ⟨bs, f1, f2, f3, f4⟩ := g
  rw [hu] at e1
  rw [hw] at f1
  injection e1 with e1
  injection f1 with f1
  injection e1 with e1
  injection f1 with f1
  subst e1 f1
  refine ⟨as ++ bs, by rw [upd_same, List.map_append], by rw [List.length_append, List.length_append, e2, f2], fun i ys e => ?_, fun q hq => ?_⟩
  · by_cases hi : i < xss.length
    · rw [List.getElem?_append_left hi] at e
      obtain ⟨q, q1, q2⟩ := e3 i ys e
      exact ⟨q, by rw [List.getElem?_append_left (by omega)]; exact q1, q2.upN (e4 q (List.mem_of_getElem? q1)).1⟩
    · rw [List.getElem?_append_right (by omega)] at e
      obtain ⟨q, q1, q2⟩ := f3 _ ys e
      exact ⟨q, by rw [List.getElem?_append_right (by omega), e2]; exact q1, q2.upN (f4 q (List.mem_of_getElem? q1)).2.1⟩
  · rcases List.mem_append.mp hq with hq | hq
    · exact e4 q hq
    · exact ⟨(f4 q hq).2.1, (f4 q hq).2.1, (f4 q hq).2.2⟩
/-- .. none of which is the one at x -/
def LLy (H : Hp) (L : Addr) (xss : List (List Int)) (x : Addr) : Prop := ∃ as : List Addr, H L = some (.lst (as.map V.ref)) ∧ as.length = xss.length ∧ (∀ (i : Nat) xs, xss[i]? = some xs → ∃ p, as[i]? = some p ∧ LI H p xs) ∧ ∀ p ∈ as, p ≠ x
theorem LLx.y {G : Addr → Prop} {H : Hp} {D x : Addr} {xss : List (List Int)} (h : LLx G H D xss x) : LLy H D xss x := let ⟨as, e1, e2, e3, e4⟩ := h; ⟨as, e1, e2, e3, fun p hp => (e4 p hp).2.1⟩
theorem LLy.lli {H : Hp} {L x : Addr} {xss : List (List Int)} (h : LLy H L xss x) : LLI H L xss := let ⟨as, e1, e2, e3, _⟩ := h; ⟨as, e1, e2, e3⟩
theorem LLy.same {H H' : Hp} {L x : Addr} {xss : List (List Int)} (h : LLy H L xss x) (s : Same H H') : LLy H' L xss x := let ⟨as, e1, e2, e3, e4⟩ := h; ⟨as, s _ _ e1, e2, fun i xs e => let ⟨p, q1, q2⟩ := e3 i xs e; ⟨p, q1, q2.same s⟩, e4⟩
theorem LLy.upX {H : Hp} {D x : Addr} {o : HO} {xss : List (List Int)} (h : LLy H D xss x) (n : D ≠ x) : LLy (upd H x o) D xss x :=
  let ⟨as, e1, e2, e3, e4⟩ := h
  ⟨as, by rw [upd_ne n]; exact e1, e2, fun i xs e => let ⟨p, q1, q2⟩ := e3 i xs e; ⟨p, q1, q2.upN (e4 p (List.mem_of_getElem? q1))⟩, e4⟩
theorem LLy.kept {H H' : Hp} {L d l : Addr} {xss : List (List Int)} (h : LLy H L xss l) (k : Kept d l H H') (D : Deal H d l) (nl : L ≠ l) : LLy H' L xss l := by
  obtain ⟨as, e1, e2, e3, e4⟩ := h
  obtain ⟨z, n', ns, hd, hl, _⟩ := D.ex
  exact ⟨as, k _ _ e1 (ne_of e1 hd (by intro z; cases z)) nl, e2, fun i xs e => let ⟨p, q1, q2⟩ := e3 i xs e; ⟨p, q1, q2.kept k D (e4 p (List.mem_of_getElem? q1))⟩, e4⟩
theorem allF_len (t : Int) : ∀ n, (allF t n).length = 2 ^ n
  | 0 => rfl
  | n + 1 => by
    show ((allF t n).map _ ++ (allF t n).map _).length = _
    rw [List.length_append, List.length_map, List.length_map, allF_len t n, Nat.pow_succ]
    omega
theorem allF_each {t : Int} {n : Nat} {l : List Int} (h : l ∈ allF t n) : l.length = n := by
  obtain ⟨x, rfl⟩ := (allF_mem t n l).mp h
  unfold fnF
  rw [List.length_map, List.length_range]
def blkF (fns : List (List Int)) (t : Int) (i : Nat) : List (List Int) := (List.range i).flatMap fun (k : Nat) => fns.map (· ++ [0 + (k : Int) * t])
theorem blkF_succ (fns : List (List Int)) (t : Int) (i : Nat) : blkF fns t (i + 1) = blkF fns t i ++ fns.map (· ++ [0 + (i : Int) * t]) := by
  unfold blkF
  rw [List.range_succ, List.flatMap_append]
  congr 1
  show (fns.map _ ++ []) = _
  rw [List.append_nil]
theorem blkF_two (t : Int) (n : Nat) : blkF (allF t n) t 2 = allF t (n + 1) := by
  show ((allF t n).map (· ++ [0 + ((0 : Nat) : Int) * t]) ++ ((allF t n).map (· ++ [0 + ((1 : Nat) : Int) * t]) ++ [])) = _
  rw [List.append_nil, show (0 : Int) + ((0 : Nat) : Int) * t = 0 by simp, show (0 : Int) + ((1 : Nat) : Int) * t = t by simp]
  rfl
theorem blkF_len (fns : List (List Int)) (t : Int) (i : Nat) : (blkF fns t i).length = i * fns.length := by
  induction i with
  | zero =>
    rw [Nat.zero_mul]
    rfl
  | succ i ih => rw [blkF_succ, List.length_append, ih, List.length_map, Nat.succ_mul]
theorem rg_two {b : Nat} (h1 : 1 ≤ b) (h2 : b ≤ 6) : RgC 0 (2 ^ b) (2 ^ (b - 1)) 2 := by
  have : b = 1 ∨ b = 2 ∨ b = 3 ∨ b = 4 ∨ b = 5 ∨ b = 6 := by omega
  rcases this with rfl | rfl | rfl | rfl | rfl | rfl <;> exact ⟨by decide, by decide, by decide +kernel, by decide +kernel⟩
def tHalf (b : Nat) : Int := 2 ^ (b - 1)
def spAll : Sp := fun vs H Q _ => ∃ (lt : Addr) (ds : List Nat) (b : Nat), vs = [.ref lt, .int (b : Int), .bl true] ∧ Sh37 ds b ∧ TupI H lt (dI ds) ∧
  ∀ (L : Addr) H', H L = none → Same H H' → (∀ z o, H z = some o → LLy H' L (allF (tHalf b) (2 ^ ds.sum * pN ds b)) z) → Q (.ref L) H'
section
variable {P : Program} {w : World} {K : PySem.W.Frag} {mg : Str → Option Value} {base : Heap}
abbrev s_law_all_functions : Stmt := top 29
abbrev N_law_all_functions : List Str := ["_law_depths", "_law_wide", "_law_only_top", "_law_found", "_law_here", "_law_place", "_law_step", "_law_j", "_law_wider", "_law_number", "_law_one"]
theorem sc_law_all_functions : FnScope N_law_all_functions ["_law_depths", "_law_wide", "_law_only_top"] (defScope s_law_all_functions) := ⟨rfl, rfl, rfl, by decide +kernel, rfl, by decide +kernel, by decide +kernel⟩
theorem ok_law_all_functions {f : Addr} {fd : FuncData} (F : Fun K "_law_all_functions" "_law_all_functions" s_law_all_functions f fd) (T : Glob mg) (g_sum : mg "sum" = none) (D_law_vectors : Df P w K mg base 4 "_law_vectors" ["_law_many", "_law_wide"] spVec12) (D_law_twos : Df P w K mg base 1 "_law_twos" ["_law_number"] spTw) :
    FnOk P w K mg base CX0 5 f fd ["_law_depths", "_law_wide", "_law_only_top"] spAll := by
  refine F.ok sc_law_all_functions (fun vs H Q E h => ?_) (fun cdv A outer s H vs Q E hr h => ?_)
  · obtain ⟨lt, ds, b, rfl, _⟩ := h
    rfl
  · obtain ⟨lt, ds, b, rfl, ok, hl, kq⟩ := h
    have nd := sc_law_all_functions.nd
    refine ⟨_, (pss_cons (ps_set (i := 3) nd rfl (Or.inl rfl) (pe_lst (pa_cons (pe_lst pa_nil) pa_nil)))
    (pss_cons (ps_for PassesOwn.never rfl (pi_range1 (by rfl) T.g_range (pa_cons (pe_op op_shl pe_int (pe_callB (cr_sumK (K := K) rfl rfl) (by rfl) g_sum (by decide +kernel) (pa_cons (pv 0) pa_nil))) pa_nil)) (pg_name (i := 4) nd rfl (Or.inl rfl))
    (pss_one (ps_for PassesOwn.never rfl (pi_list (pe_call D_law_vectors.ok (hr.mono (by decide)) (by rfl) D_law_vectors.g D_law_vectors.kp D_law_vectors.b .nil pass0 (pa_cons (pe_callB call_len_seq (by rfl) T.g_len PySem.boot_len (pa_cons (pv 0) pa_nil)) (pa_cons (pv 1) pa_nil)))) (pg_name (i := 5) nd rfl (Or.inl rfl))
    (pss_cons (ps_set (i := 6) nd rfl (Or.inl rfl) (pe_op op_shl pe_int (pe_ifExp (pt_val (pv 2)) (pe_op op_sub (pv 1) pe_int) (pe_callB (cr_sumK (K := K) rfl rfl) (by rfl) g_sum (by decide +kernel) (pa_cons (pe_lc (own := [("_law_j", 7)]) (g := gName 7) (tt := tYes) rfl nd (pi_tup (pv 5)) (blkOk_by (N := N_law_all_functions) (sc := defScope s_law_all_functions) (by decide +kernel)) (fun _ _ _ _ _ => pg_name (i := 7) nd rfl (Or.inl rfl)) (fun _ _ _ _ _ => pts_nil) (fun _ _ _ _ _ => (pe_call D_law_twos.ok (hr.mono (by decide)) (by rfl) D_law_twos.g D_law_twos.kp D_law_twos.b .nil pass0 (pa_cons (pv 7) pa_nil)))) pa_nil)))))
    (pss_cons (ps_set (i := 8) nd rfl (Or.inl rfl) (pe_lst pa_nil))
    (pss_cons (ps_for PassesOwn.never rfl (pi_range3 (by rfl) T.g_range (pa_cons pe_int (pa_cons (pe_op op_shl pe_int (pv 1)) (pa_cons (pv 6) pa_nil)))) (pg_name (i := 9) nd rfl (Or.inr rfl))
    (pss_one (ps_expr (pe_bm PySem.F.plainAttrs_list PySem.F.slot_list_extend PySem.F.type_list_extend mt_extend (pv 8) (pa_cons (pe_lc (own := [("_law_one", 10)]) (g := gName 10) (tt := tYes) rfl nd (pi_list (pv 3)) (blkOk_by (N := N_law_all_functions) (sc := defScope s_law_all_functions) (by decide +kernel)) (fun _ _ _ _ _ => pg_name (i := 10) nd rfl (Or.inl rfl)) (fun _ _ _ _ _ => pts_nil) (fun _ _ _ _ _ => (pe_op op_cat (pv 10) (pe_lst (pa_cons (pv 9) pa_nil))))) pa_nil)))))
    (pss_one (ps_set (i := 3) nd rfl (Or.inl rfl) (pv 8)))))))))
    (pss_one (ps_ret (pv 3))))), ?_⟩
    have zl' : 16777216 = sizeLine := sizeLine_eq.symm
    obtain ⟨hP, hC⟩ := ok.p
    have hm := ok.m
    have hs8 := ok.s
    have hb1 := ok.b1
    have hb := ok.b64
    have hb6 := ok.b6
    have hcp := ok.c
    have hPv : (vecs ds.length b).length ≤ 8 := hP
    have hdl : ((dI ds).map V.int).length = ds.length := by rw [List.length_map]; unfold dI; rw [List.length_map]
    obtain ⟨Cn, hCn⟩ : ∃ Cn : Nat, Cn = 2 ^ ds.sum := ⟨_, rfl⟩
    have hNi : (1 : Int) * 2 ^ (ds.sum : Int).toNat = (Cn : Int) := by
      rw [hCn, Int.toNat_natCast, Int.one_mul, Int.natCast_pow]
      rfl
    have hC' : Cn ≤ 256 := by rw [hCn]; exact hC
    rw [← hCn] at hcp kq
    have hpw : ∀ n, n ≤ 8 → 2 ^ n ≤ 256 := fun n h => Nat.pow_le_pow_right (n := 2) (by decide) h
    refine seq_by (fun σ H1 => ∃ F : Addr, σ = [some (.ref lt), some (.int (b : Int)), some (.bl true), some (.ref F), none, none, none, none, none, none, none] ∧ Same H H1 ∧ LLx (fun p => H p = none) H1 F (allF (tHalf b) 0) F ∧ H F = none) (fun D' hD' => ?_) ?_
    · refine ⟨(by show 0 ≤ sizeLine; omega), fun p hp => ⟨(by show 1 ≤ sizeLine; omega), fun F hF => hD' _ _ ⟨F, rfl, ?_⟩⟩⟩
      have s1 := new_same (o := .lst []) hp
      have s2 := new_same (o := .lst [V.ref p]) hF
      have npF : p ≠ F := ne_of_none (show upd H p _ p = some _ from upd_same) hF
      refine ⟨s1.trans s2, ⟨[p], upd_same, rfl, fun i xs e => ?_, fun q hq => ?_⟩, same_free s1 hF⟩
      · match i, e with
        | 0, e =>
          obtain rfl : [] = xs := Option.some.inj e
          exact ⟨p, rfl, s2 _ _ upd_same⟩
        | i + 1, e => exact absurd e (by show ¬ (([] : List (List Int))[i]? = some xs); simp)
      · rw [List.mem_singleton.mp hq]
        exact ⟨npF, npF, hp⟩
    rintro σ H1 ⟨F0, rfl, s1, hF1, hF0⟩
    refine ⟨_, rfl, true, lt, _, rfl, sqK_t (SqT.of (hl.same s1)), ?_⟩
    rw [show (dI ds).sum = (ds.sum : Int) from nat_sum ds]
    refine ⟨_, _, rfl, rfl, ⟨by omega, by omega, by decide⟩, (Cn : Int), (by show [V.int _] = [V.int _]; rw [hNi]), by omega, by omega, ?_⟩
    rw [Int.toNat_natCast]
    refine for_range (lo := 0) (n := Cn) (fun g σ H3 => ∃ (F : Addr) (a4 a5 a6 a8 a9 : Option V), σ = [some (.ref lt), some (.int (b : Int)), some (.bl true), some (.ref F), a4, a5, a6, none, a8, a9, none] ∧ Same H H3 ∧ LLx (fun p => H p = none) H3 F (allF (tHalf b) (g * pN ds b)) F ∧ H F = none)
      ⟨F0, none, none, none, none, none, rfl, s1, by rw [Nat.zero_mul]; exact hF1, hF0⟩ ?_ ?_
    · clear s1 hF1 hF0
      rintro g σ H3 hg ⟨F, a4, a5, a6, a8, a9, rfl, s3, h3, hFn⟩
      have hgC : (g + 1) * pN ds b ≤ Cn * pN ds b := Nat.mul_le_mul_right _ hg
      rw [Nat.succ_mul] at hgC
      refine ⟨_, rfl, lt, _, rfl, .inr (SqT.of (hl.same s3)), _, rfl, ds.length, hm, b, ?_, hb1, hb, by omega, by omega, fun V1 H4 hV1 s4 hl4 => ?_⟩
      · rw [hdl]
        rfl
      obtain ⟨ws, hws⟩ : ∃ ws, LTV H4 V1 ws (dV b ds.length) := hl4.lenV
      have hwl : ws.length = pN ds b := by rw [hws.2.1]; unfold dV pN; rw [List.length_map]
      refine ⟨V1, rfl, ⟨_, SqL.of hws.1⟩, ?_⟩
      refine for_list (xs := ws) (fun j σ H5 => ∃ (F : Addr) (a5 a6 a8 a9 : Option V), σ = [some (.ref lt), some (.int (b : Int)), some (.bl true), some (.ref F), some (.int (g : Int)), a5, a6, none, a8, a9, none] ∧ Same H H5 ∧ LTV H5 V1 ws (dV b ds.length) ∧ LLx (fun p => H p = none) H5 F (allF (tHalf b) (g * pN ds b + j)) F ∧ H F = none)
        ⟨F, a5, a6, a8, a9, by rw [Int.zero_add]; rfl, s3.trans s4, hws, h3.same s4, hFn⟩ (fun j σ H5 _ h => by obtain ⟨_, _, _, _, _, _, _, h, _⟩ := h; exact SqL.of h.1) ?_ ?_
      · clear s3 h3 s4 hl4 hws hV1 hFn F
        rintro j x σ H5 hj ⟨F, b5, b6, b8, b9, rfl, s5, hws, h5, hFn⟩
        obtain ⟨p, v, hj', hvj, rfl, hp5⟩ := hws.at hj
        have hjP : j < pN ds b := by
          have := (List.getElem?_eq_some_iff.mp hvj).1
          unfold dV at this
          rw [List.length_map] at this
          exact this
        obtain ⟨n, hn⟩ : ∃ n, n = g * pN ds b + j := ⟨_, rfl⟩
        have hn8 : n + 1 ≤ 8 := by omega
        rw [← hn] at h5
        have hfl : (allF (tHalf b) n).length ≤ 256 := by rw [allF_len]; exact hpw n (by omega)
        refine seq_by (fun σ H6 => H6 = H5 ∧ σ = [some (.ref lt), some (.int (b : Int)), some (.bl true), some (.ref F), some (.int (g : Int)), some (.ref p), some (.int (tHalf b)), none, b8, b9, none]) (fun D'' hD'' => ?_) ?_
        · refine ⟨_, rfl, _, rfl, iteT ⟨_, rfl, _, _, rfl, rfl, _, _, rfl, rfl, ⟨by omega, by omega, by decide⟩, hD'' _ _ ⟨rfl, ?_⟩⟩⟩
          have e : (1 : Int) * 2 ^ ((b : Int) - 1).toNat = tHalf b := by
            rw [Int.one_mul, show ((b : Int) - 1).toNat = b - 1 by omega]
            rfl
          dsimp only
          rw [e]
          rfl
        rintro σ H6 ⟨rfl, rfl⟩
        refine seq_by (fun σ H7 => ∃ W : Addr, σ = [some (.ref lt), some (.int (b : Int)), some (.bl true), some (.ref F), some (.int (g : Int)), some (.ref p), some (.int (tHalf b)), none, some (.ref W), b9, none] ∧ Same H6 H7 ∧ LLx (fun p => H p = none) H7 W [] W ∧ H6 W = none) (fun D'' hD'' => ?_) ?_
        · exact ⟨(by show 0 ≤ sizeLine; omega), fun W hW => hD'' _ _ ⟨W, rfl, new_same hW, ⟨[], upd_same, rfl, fun i xs e => by simp at e, fun p hp => absurd hp (by simp)⟩, hW⟩⟩
        rintro σ H7 ⟨W, rfl, s7, hW7, hWn⟩
        refine seq_by (fun σ H8 => ∃ a9 : Option V, σ = [some (.ref lt), some (.int (b : Int)), some (.bl true), some (.ref F), some (.int (g : Int)), some (.ref p), some (.int (tHalf b)), none, some (.ref W), a9, none] ∧ Same H6 H8 ∧ LLx (fun p => H p = none) H8 W (allF (tHalf b) (n + 1)) W) (fun D'' hD'' => ?_) ?_
        · refine ⟨_, rfl, _, _, rfl, rfl, ⟨by omega, by omega, by decide⟩, _, rfl, 0, 2 ^ b, 2 ^ (b - 1), 2, ?_, rg_two hb1 hb6, ?_⟩
          · show [V.int 0, V.int (1 * 2 ^ (b : Int).toNat), V.int (tHalf b)] = _
            rw [Int.one_mul, Int.toNat_natCast]
            rfl
          refine for_rangeC (lo := 0) (c := 2 ^ (b - 1)) (n := 2) (fun i σ H8 => ∃ a9 : Option V, σ = [some (.ref lt), some (.int (b : Int)), some (.bl true), some (.ref F), some (.int (g : Int)), some (.ref p), some (.int (tHalf b)), none, some (.ref W), a9, none] ∧ Same H6 H8 ∧ LLx (fun p => H p = none) H8 W (blkF (allF (tHalf b) n) (tHalf b) i) W)
            ⟨b9, rfl, s7, hW7⟩ ?_ ?_
          · rintro i σ H8 hi ⟨a9, rfl, s8, h8⟩
            have hF8 := h5.same s8
            obtain ⟨as, e1, e2, e3, _⟩ := id hF8
            obtain ⟨us, hu1, _⟩ := id h8
            refine ⟨_, rfl, .inl ⟨rfl, _, SqL.of hu1⟩, _, rfl, F, rfl, ⟨_, SqL.of e1⟩, fun D hD => ?_⟩
            have nDW : D ≠ W := (ne_of_none hu1 hD).symm
            refine lc_list (xs := as.map V.ref) (fun k H9 => Same H8 H9 ∧ LLx (fun p => H p = none) H9 D (((allF (tHalf b) n).take k).map (· ++ [0 + (i : Int) * tHalf b])) W) ⟨new_same hD, [], upd_same, rfl, fun i xs e => by simp at e, fun p hp => absurd hp (by simp)⟩ (fun k H9 _ h => SqL.of (h.1 _ _ e1)) ?_ ?_
            · rintro k y H9 hy ⟨s9, h9⟩
              have hk : k < (allF (tHalf b) n).length := by
                have := (List.getElem?_eq_some_iff.mp hy).1
                rw [List.length_map] at this
                omega
              have hfk : (allF (tHalf b) n)[k]? = some (allF (tHalf b) n)[k] := List.getElem?_eq_getElem hk
              obtain ⟨q, q1, q2⟩ := e3 k _ hfk
              rw [List.getElem?_map, q1] at hy
              obtain rfl := Option.some.inj hy
              have hlk := allF_each (List.getElem_mem hk)
              refine ⟨rfl, ?_⟩
              dsimp only [tYes]
              rw [if_pos rfl]
              have q9 := q2.same s9
              refine ⟨_, rfl, _, rfl, (by show 1 ≤ sizeLine; omega), fun Z hZ => ?_⟩
              have sZ := new_same (o := .lst [V.int (0 + (i : Int) * 2 ^ (b - 1))]) hZ
              refine ⟨q, Z, _, _, rfl, rfl, sZ _ _ q9, upd_same, (by rw [List.length_map, hlk]; show n + 1 ≤ sizeLine; omega), fun R hR => ?_⟩
              have sR := new_same (o := .lst ((allF (tHalf b) n)[k].map V.int ++ [V.int (0 + (i : Int) * 2 ^ (b - 1))])) hR
              have s99 := sZ.trans sR
              have h10 := h9.same s99
              obtain ⟨bs, f1, f2, f3, f4⟩ := h10
              have nRD : R ≠ D := by
                intro z
                obtain ⟨bs', g1, _⟩ := h9
                rw [z, sZ _ _ g1] at hR
                cases hR
              have nRW : R ≠ W := by
                intro z
                rw [z, sZ _ _ (s9 _ _ hu1)] at hR
                cases hR
              have hRl : LI (upd (upd H9 Z (.lst [V.int (0 + (i : Int) * 2 ^ (b - 1))])) R (.lst ((allF (tHalf b) n)[k].map V.int ++ [V.int (0 + (i : Int) * 2 ^ (b - 1))]))) R ((allF (tHalf b) n)[k] ++ [0 + (i : Int) * tHalf b]) := by
                show upd _ R _ R = _
                rw [upd_same, List.map_append]
                rfl
              refine ⟨_, f1, (by rw [List.length_map, f2, List.length_map, List.length_take]; omega), same_up (s9.trans s99) hD, ?_⟩
              rw [List.take_succ, hfk, List.map_append]
              exact llx_snoc f1 f2 f3 f4 hRl nRD nRW (same_free (((s5.trans s8).trans s9).trans sZ) hR)
            · rintro H9 ⟨s9, h9⟩
              rw [List.length_map, e2, List.take_length] at h9
              have h89 := h8.same s9
              obtain ⟨as2, f1, f2, _⟩ := id h89
              obtain ⟨bs2, g1, g2, _⟩ := id h9
              refine ⟨W, D, _, _, rfl, rfl, f1, g1, ?_, ?_⟩
              · rw [List.length_map, List.length_map, f2, g2, blkF_len, List.length_map]
                have : i * (allF (tHalf b) n).length ≤ 2 * 256 := Nat.mul_le_mul (by omega) hfl
                omega
              · refine ⟨_, rfl, same_up (s8.trans s9) hWn, ?_⟩
                rw [blkF_succ]
                exact llx_ext (x := W) h89 h9 f1 g1
          · rintro σ H8 ⟨a9, rfl, s8, h8⟩
            rw [blkF_two] at h8
            exact hD'' _ _ ⟨a9, rfl, s8, h8⟩
        rintro σ H8 ⟨a9, rfl, s8, h8⟩
        refine ⟨_, rfl, W, _, _, _, _, rfl, s5.trans s8, hws.same s8, ?_, same_free s5 hWn⟩
        rw [← Nat.add_assoc, ← hn]
        exact h8
      · rintro σ H5 ⟨F, b5, b6, b8, b9, rfl, s5, _, h5, hFn⟩
        rw [hwl] at h5
        exact ⟨F, _, _, _, _, _, rfl, s5, by rw [Nat.succ_mul]; exact h5, hFn⟩
    · rintro σ H3 ⟨F, a4, a5, a6, a8, a9, rfl, s3, h3, hFn⟩
      obtain ⟨as, e1, e2, e3, e4⟩ := h3
      exact ⟨_, rfl, kq F H3 hFn s3 fun z o hz => ⟨as, e1, e2, e3, fun p hp q => by
        have := (e4 p hp).2.2
        rw [q, hz] at this
        cases this⟩⟩
end
end My

set_option pp.maxSteps 300
set_option Elab.async false
set_option linter.all false
set_option maxRecDepth 100000
set_option maxHeartbeats 1000000
namespace My
open PySem L2 MyR
/-! ### what is due -/
theorem pi_zipKN {X : Cx} {K : PySem.W.Frag} {e e2 : Expr} {ta : TA} {p pos tpos : Pos} {elts : List Expr} {kk : Nat} (h : X.K = K) (hg : Gl X "zip") (hm : X.mg "zip" = none) (ha : PA X [e, e2] ta)
    (s1 : starEach [e, e2] X.env = (false, eval e X.env) :: starEach [e2] X.env := by rfl) (s2 : (backTo pos (starEach [e2] X.env)).any (·.1) = false := by rfl) : PI X (.Tuple elts kk tpos) (.Call (.Name "zip" p) [e, e2] [] pos) (iZipK K ta) := by
  subst h
  exact pi_zipK hg hm ha s1 s2
def forBody (st : Stmt) (i : Nat) : List Stmt := match (defBody st)[i]? with
  | some (.For _ _ b _ _) => b
  | _ => []
def lcScopeF (st : Stmt) (i j : Nat) : Scope := ((((forBody st i)[j]?).bind valOf).bind lcOf).elim (defScope st) (·.1)
theorem dotI_take (as bs : List Int) (h : as.length = bs.length) : ∀ k, k ≤ as.length → dotI (as.take k) (bs.take k) = (((List.range k).map fun i => as.getD i 0 * bs.getD i 0)).sum
  | 0, _ => by
    rw [List.take_zero, List.take_zero]
    rfl
  | k + 1, hk => by
    have ha : as[k]? = some (as.getD k 0) := by rw [List.getD_eq_getElem?_getD, List.getElem?_eq_getElem (show k < as.length by omega)]; rfl
    have hb : bs[k]? = some (bs.getD k 0) := by rw [List.getD_eq_getElem?_getD, List.getElem?_eq_getElem (show k < bs.length by omega)]; rfl
    rw [List.take_succ, List.take_succ, ha, hb]
    show dotI (as.take k ++ [as.getD k 0]) (bs.take k ++ [bs.getD k 0]) = _
    rw [dotI_snoc _ _ _ _ (by rw [List.length_take, List.length_take]; omega), dotI_take as bs h k (by omega), List.range_succ, List.map_append, List.sum_append]
    show _ = _ + (as.getD k 0 * bs.getD k 0 + 0)
    rw [Int.add_zero]
theorem dotI_all (as bs : List Int) (h : as.length = bs.length) : (((List.range as.length).map fun i => as.getD i 0 * bs.getD i 0)).sum = dotI as bs := by
  rw [← dotI_take as bs h as.length (Nat.le_refl _), List.take_length, h, List.take_length]
/-- the weights are not too great -/
theorem wtF_bd {zs : List Int} : ∀ (us : List Nat) (zs : List Int) (o : Int) (n : Nat), o.natAbs < 2 ^ n → (∀ i, -(2 ^ 110) < zs.getD i 0 ∧ zs.getD i 0 < 2 ^ 110) → (∀ u ∈ us, u ≤ 70) → (wtF o zs us).natAbs < 2 ^ (n + 7771 * us.length)
  | [], zs, o, n, ho, _, _ => by
    cases zs <;> exact ho
  | u :: us, [], o, n, ho, _, _ => by
    show o.natAbs < _
    exact Nat.lt_of_lt_of_le ho (Nat.pow_le_pow_right (by decide) (by omega))
  | u :: us, z :: zs, o, n, ho, hz, hu => by
    show (wtF (o * bn z u) zs us).natAbs < _
    have h0 := hz 0
    have hb := bn_bits' (z := z) h0.1 h0.2 (k := u) (hu u (List.mem_cons_self ..))
    have := wtF_bd (zs := zs) us zs (o * bn z u) (n + 7771) (by
      rw [Int.natAbs_mul, Nat.pow_add]
      exact Nat.mul_lt_mul'' ho hb) (fun i => hz (i + 1)) fun x hx => hu x (List.mem_cons_of_mem _ hx)
    rw [List.length_cons, show n + 7771 * (us.length + 1) = n + 7771 + 7771 * us.length by omega]
    exact this
theorem wI_bd {ds : List Nat} {b : Nat} {xs : List Int} (ok : Sh37 ds b) (hx : XsOk ds xs) {i : Nat} (hi : i < 2 ^ ds.sum * pN ds b) : (wI ds b xs i).natAbs < 2 ^ 15600 := by
  have hP : 0 < pN ds b := Nat.pos_of_ne_zero fun h => by rw [h, Nat.mul_zero] at hi; omega
  have hp : i % pN ds b < (vecs ds.length b).length := Nat.mod_lt i hP
  have hl := plN_len hp
  have h70 : ∀ u ∈ plN b ds.length (i % pN ds b), u ≤ 70 := fun u hu => by
    unfold plN at hu
    rw [List.getD_eq_getElem?_getD, List.getElem?_eq_getElem hp] at hu
    have := vecs_ent ok.b64 ds.length b _ (Nat.le_refl _) (List.getElem_mem hp) u hu
    omega
  have h := wtF_bd (zs := []) (plN b ds.length (i % pN ds b)) (varsI ds xs) (if i / pN ds b = clsN ds xs then 1 else 0) 1 (by split <;> decide) (vars_bd hx) h70
  rw [hl] at h
  have hm := ok.m
  exact Nat.lt_of_lt_of_le h (Nat.pow_le_pow_right (by decide) (by omega))
def dueL (ds : List Nat) (b : Nat) : List (List Int) → List (List Int) → List (List Int)
  | left, [] => left
  | left, x :: rest => dueL ds b (left.filter (told37 (b - 1) (facL ds b x))) rest
def dueK (ds : List Nat) (b : Nat) : List (List Int) → Nat → List (List Int) → List Nat
  | _, _, [] => []
  | left, a, x :: rest => (if (left.filter (told37 (b - 1) (facL ds b x))).length < left.length then [a] else []) ++ dueK ds b (left.filter (told37 (b - 1) (facL ds b x))) (a + 1) rest
theorem dueL_snoc (ds : List Nat) (b : Nat) (z : List Int) : ∀ (xs left : List (List Int)), dueL ds b left (xs ++ [z]) = (dueL ds b left xs).filter (told37 (b - 1) (facL ds b z))
  | [], left => rfl
  | x :: xs, left => dueL_snoc ds b z xs _
theorem dueK_snoc (ds : List Nat) (b : Nat) (z : List Int) : ∀ (xs left : List (List Int)) (a : Nat), dueK ds b left a (xs ++ [z]) = dueK ds b left a xs ++ if ((dueL ds b left xs).filter (told37 (b - 1) (facL ds b z))).length < (dueL ds b left xs).length then [a + xs.length] else []
  | [], left, a => by
    show (if _ then [a] else []) ++ [] = [] ++ _
    rw [List.append_nil, List.nil_append]
    rfl
  | x :: xs, left, a => by
    rw [List.cons_append]
    show (if _ then [a] else []) ++ dueK ds b _ (a + 1) (xs ++ [z]) = ((if _ then [a] else []) ++ dueK ds b _ (a + 1) xs) ++ _
    rw [dueK_snoc ds b z xs _ (a + 1), List.append_assoc, List.length_cons, show a + 1 + xs.length = a + (xs.length + 1) by omega]
    rfl
theorem dueL_sub (ds : List Nat) (b : Nat) : ∀ (xs left : List (List Int)) l, l ∈ dueL ds b left xs → l ∈ left
  | [], _, _, h => h
  | x :: xs, left, l, h => (List.mem_filter.mp (dueL_sub ds b xs _ l h)).1
theorem dueL_le (ds : List Nat) (b : Nat) : ∀ (xs left : List (List Int)), (dueL ds b left xs).length ≤ left.length
  | [], _ => Nat.le_refl _
  | x :: xs, left => Nat.le_trans (dueL_le ds b xs _) (List.length_filter_le _ _)
theorem dueK_le (ds : List Nat) (b : Nat) : ∀ (xs left : List (List Int)) (a : Nat), (dueK ds b left a xs).length ≤ xs.length
  | [], _, _ => Nat.le_refl _
  | x :: xs, left, a => by
    show ((if _ then [a] else []) ++ dueK ds b _ (a + 1) xs).length ≤ _
    rw [List.length_append, List.length_cons]
    have := dueK_le ds b xs (left.filter (told37 (b - 1) (facL ds b x))) (a + 1)
    split
    · show 1 + _ ≤ _; omega
    · show 0 + _ ≤ _; omega
theorem told_is {b : Nat} (h1 : 1 ≤ b) (ws l : List Int) : told37 (b - 1) ws l = decide (dotI l ws % 2 ^ b = 0) := by
  unfold told37
  rw [Nat.sub_add_cancel h1]
def spDue : Sp := fun vs H Q _ => ∃ (lt L F : Addr) (pts : List (List Int)) (ds : List Nat) (b : Nat), vs = [.ref lt, .int (b : Int), .ref L, .ref F] ∧ Sh37 ds b ∧ TupI H lt (dI ds) ∧ LTI H L pts ∧ (∀ x ∈ pts, XsOk ds x) ∧ pts.length ≤ 1000 ∧ LLI H F (allF (tHalf b) (2 ^ ds.sum * pN ds b)) ∧
  ∀ (v : V) H', Same H H' → (((dueL ds b (allF (tHalf b) (2 ^ ds.sum * pN ds b)) pts).length = 1 ∧ ∃ t : Addr, v = .ref t ∧ TupI H' t (dI (dueK ds b (allF (tHalf b) (2 ^ ds.sum * pN ds b)) 0 pts))) ∨ ((dueL ds b (allF (tHalf b) (2 ^ ds.sum * pN ds b)) pts).length ≠ 1 ∧ v = .non)) → Q v H'
section
variable {P : Program} {w : World} {K : PySem.W.Frag} {mg : Str → Option Value} {base : Heap}
abbrev s_law_due : Stmt := top 31
abbrev N_law_due : List Str := ["_law_depths", "_law_wide", "_law_spots_here", "_law_functions", "_law_left", "_law_kept", "_law_at", "_law_spot", "_law_worths", "_law_fewer", "_law_one", "_law_a", "_law_b"]
theorem sc_law_due : FnScope N_law_due ["_law_depths", "_law_wide", "_law_spots_here", "_law_functions"] (defScope s_law_due) := ⟨rfl, rfl, rfl, by decide +kernel, rfl, by decide +kernel, by decide +kernel⟩
theorem ok_law_due {f : Addr} {fd : FuncData} (F : Fun K "_law_due" "_law_due" s_law_due f fd) (T : Glob mg) (g_sum : mg "sum" = none) (D_law_factors : Df P w K mg base 5 "_law_factors" ["_law_depths", "_law_wide", "_law_spot"] spFac) :
    FnOk P w K mg base CX0 6 f fd ["_law_depths", "_law_wide", "_law_spots_here", "_law_functions"] spDue := by
  refine F.ok sc_law_due (fun vs H Q E h => ?_) (fun cdv A outer s H vs Q E hr h => ?_)
  · obtain ⟨lt, L, F, pts, ds, b, rfl, _⟩ := h
    rfl
  · obtain ⟨lt, L, F, pts, ds, b, rfl, ok, hl, hL, hxo, hmany, hF, kq⟩ := h
    have nd := sc_law_due.nd
    refine ⟨_, (pss_cons (ps_par (i := 4) (j := 5) rfl nd rfl rfl (by decide) rfl rfl (pa_cons (pv 3) (pa_cons (pe_lst pa_nil) pa_nil)) (by rfl))
    (pss_cons (ps_for PassesOwn.never rfl (pi_enum (by rfl) T.g_enumerate (pa_cons (pv 2) pa_nil)) (pg_tup (by rfl) (pgs_cons (pg_name (i := 6) nd rfl (Or.inl rfl)) (pgs_cons (pg_name (i := 7) nd rfl (Or.inl rfl)) pgs_nil)))
    (pss_cons (ps_set (i := 8) nd rfl (Or.inr rfl) (pe_call D_law_factors.ok (hr.mono (by decide)) (by rfl) D_law_factors.g D_law_factors.kp D_law_factors.b .nil pass0 (pa_cons (pv 0) (pa_cons (pv 1) (pa_cons (pv 7) pa_nil)))))
    (pss_cons (ps_setLc (i := 9) (own := [("_law_one", 10)]) (g := gName 10) rfl nd rfl rfl (sw_true rfl rfl rfl (by decide +kernel)) (pi_list (pv 4)) (blkOk_by (N := N_law_due) (sc := defScope s_law_due) (by decide +kernel)) (fun _ _ _ _ _ => pg_name (i := 10) nd rfl (Or.inl rfl)) (fun _ _ _ _ _ => pts_one (pt_cmpR op_eq (pe_op op_mod (pe_callB (cr_sumK (K := K) rfl rfl) (by rfl) g_sum (by decide +kernel) (pa_cons (pe_lc (own := [("_law_a", 11), ("_law_b", 12)]) (g := gTup K 2 (gCons (gName 11) (gCons (gName 12) gNil))) (tt := tYes) rfl nd (pi_zipKN (K := K) rfl (by rfl) T.g_zip (pa_cons (pv 10) (pa_cons (pv 8) pa_nil))) (blkOk_by (N := N_law_due) (sc := relabS (lcScopeF s_law_due 1 1) (defScope s_law_due)) (by decide +kernel)) (fun _ _ _ _ _ => pg_tup (by rfl) (pgs_cons ((by first | exact pg_name (i := 11) nd rfl (Or.inl rfl) | exact pg_name (i := 11) nd rfl (Or.inr rfl))) (pgs_cons ((by first | exact pg_name (i := 12) nd rfl (Or.inl rfl) | exact pg_name (i := 12) nd rfl (Or.inr rfl))) pgs_nil))) (fun _ _ _ _ _ => pts_nil) (fun _ _ _ _ _ => (pe_op op_mulX (pv 11) (pv 12)))) pa_nil)) (pe_op op_shl pe_int (pv 1))) pe_int (nomark _))) (fun _ _ _ _ _ => (pv 10)))
    (pss_cons (ps_if (pt_cmpR op_lt (pe_callB call_len_seq (by rfl) T.g_len PySem.boot_len (pa_cons (pv 9) pa_nil)) (pe_callB call_len_seq (by rfl) T.g_len PySem.boot_len (pa_cons (pv 4) pa_nil)) (nomark _))
    (pss_one (ps_expr (pe_bm PySem.F.plainAttrs_list PySem.F.slot_list_append PySem.F.type_list_append mt_append (pv 5) (pa_cons (pv 6) pa_nil))))
    pss_nil)
    (pss_one (ps_set (i := 4) nd rfl (Or.inl rfl) (pv 9)))))))
    (pss_one (ps_ret (pe_ifExp (pt_cmpR op_eq (pe_callB call_len_seq (by rfl) T.g_len PySem.boot_len (pa_cons (pv 4) pa_nil)) pe_int (nomark _)) (pe_callTy call_tuple_of (by rfl) T.g_tuple (by decide +kernel) (pa_cons (pv 5) pa_nil)) pe_non))))), ?_⟩
    have zl' : 16777216 = sizeLine := sizeLine_eq.symm
    have hb1 := ok.b1
    have hb6 := ok.b6
    have hcp := ok.c
    obtain ⟨n, hn⟩ : ∃ n, n = 2 ^ ds.sum * pN ds b := ⟨_, rfl⟩
    rw [← hn] at hcp hF kq
    have hall : (allF (tHalf b) n).length ≤ 256 := by rw [allF_len]; exact Nat.pow_le_pow_right (n := 2) (by decide) hcp
    obtain ⟨ws, hws⟩ : ∃ ws, LTV H L ws pts := hL.lenV
    refine seq_by (fun σ H1 => ∃ Kp : Addr, σ = [some (.ref lt), some (.int (b : Int)), some (.ref L), some (.ref F), some (.ref F), some (.ref Kp), none, none, none, none, none, none, none] ∧ Same H H1 ∧ LLy H1 F (allF (tHalf b) n) Kp ∧ LI H1 Kp (dI []) ∧ H Kp = none ∧ F ≠ Kp) (fun D' hD' => ?_) ?_
    · refine ⟨_, rfl, (by show 0 ≤ sizeLine; omega), fun Kp hKp => ⟨_, _, rfl, hD' _ _ ⟨Kp, rfl, new_same hKp, ?_, upd_same, hKp, ?_⟩⟩⟩
      · obtain ⟨as, e1, e2, e3⟩ := hF
        refine ⟨as, new_same hKp _ _ e1, e2, fun i xs e => let ⟨p, q1, q2⟩ := e3 i xs e; ⟨p, q1, q2.same (new_same hKp)⟩, fun p hp => ?_⟩
        obtain ⟨i, hi, rfl⟩ := List.getElem_of_mem hp
        obtain ⟨q, q1, q2⟩ := e3 i _ (List.getElem?_eq_getElem (show i < (allF (tHalf b) n).length by omega))
        rw [List.getElem?_eq_getElem hi] at q1
        obtain rfl := Option.some.inj q1
        exact ne_of_none (show H _ = some (.lst _) from q2) hKp
      · obtain ⟨as, e1, _⟩ := hF
        exact ne_of_none e1 hKp
    rintro σ H1 ⟨Kp, rfl, s1, hF1, hk1, hKn, nFK⟩
    refine seq_by (fun σ H2 => ∃ (lf : Addr) (a6 a7 a8 a9 : Option V), σ = [some (.ref lt), some (.int (b : Int)), some (.ref L), some (.ref F), some (.ref lf), some (.ref Kp), a6, a7, a8, a9, none, none, none] ∧ Same H H2 ∧ LLy H2 lf (dueL ds b (allF (tHalf b) n) pts) Kp ∧ LI H2 Kp (dI (dueK ds b (allF (tHalf b) n) 0 pts))) (fun D' hD' => ?_) ?_
    · refine ⟨_, rfl, L, _, rfl, SqL.of (hws.same s1).1, ?_⟩
      refine for_it walk_enum (fun i σ H2 => ∃ (lf : Addr) (a6 a7 a8 a9 : Option V), σ = [some (.ref lt), some (.int (b : Int)), some (.ref L), some (.ref F), some (.ref lf), some (.ref Kp), a6, a7, a8, a9, none, none, none] ∧ Same H H2 ∧ LLy H2 lf (dueL ds b (allF (tHalf b) n) (pts.take i)) Kp ∧ LI H2 Kp (dI (dueK ds b (allF (tHalf b) n) 0 (pts.take i))) ∧ lf ≠ Kp)
        ⟨F, none, none, none, none, rfl, s1, hF1, hk1, nFK⟩ (fun i σ H2 _ h => by obtain ⟨_, _, _, _, _, _, h, _⟩ := h; exact SqL.of (hws.same h).1) ?_ ?_
      · clear s1 hF1 hk1 nFK
        rintro i x σ H2 H3 hi ⟨lf, a6, a7, a8, a9, rfl, s2, hf2, hk2, nlK⟩ ⟨T', x1, x2, rfl, hT, rfl, hx1, hx2⟩
        rw [hws.2.1] at hi
        obtain rfl := Option.some.inj hx1
        have hx2 : ws[i]? = some x2 := hx2
        obtain ⟨p, xs, hi', hpi, rfl, hp⟩ := (hws.same s2).at hx2
        have hxx := hxo xs (List.mem_of_getElem? hpi)
        have htk : pts.take (i + 1) = pts.take i ++ [xs] := by rw [List.take_succ, hpi]; rfl
        have htl : (pts.take i).length = i := by rw [List.length_take]; omega
        have st := new_same (o := .tup [V.int (i : Nat), .ref p]) hT
        have s3 := s2.trans st
        have hp3 := hp.same st
        have hf3 := hf2.same st
        have hk3 := hk2.same st
        refine ⟨T', _, rfl, SqT.of upd_same, rfl, _, _, rfl, _, _, rfl, rfl, ?_⟩
        generalize upd H2 T' (.tup [V.int (i : Nat), .ref p]) = H3 at s3 hp3 hf3 hk3 ⊢
        obtain ⟨left, hle⟩ : ∃ left, left = dueL ds b (allF (tHalf b) n) (pts.take i) := ⟨_, rfl⟩
        have hsub : ∀ l ∈ left, l ∈ allF (tHalf b) n := fun l h => dueL_sub ds b _ _ l (hle ▸ h)
        have hll : left.length ≤ 256 := by rw [hle]; exact Nat.le_trans (dueL_le ds b _ _) hall
        rw [← hle] at hf3
        obtain ⟨ks, hks⟩ : ∃ ks, ks = dueK ds b (allF (tHalf b) n) 0 (pts.take i) := ⟨_, rfl⟩
        have hkl : ks.length ≤ 1000 := by rw [hks]; have := dueK_le ds b (pts.take i) (allF (tHalf b) n) 0; omega
        rw [← hks] at hk3
        refine seq_by (fun σ H4 => ∃ W : Addr, σ = [some (.ref lt), some (.int (b : Int)), some (.ref L), some (.ref F), some (.ref lf), some (.ref Kp), some (.int (i : Int)), some (.ref p), some (.ref W), a9, none, none, none] ∧ Same H3 H4 ∧ LI H4 W (facL ds b xs)) (fun D'' hD'' => ?_) ?_
        · exact ⟨_, rfl, _, rfl, _, rfl, lt, p, ds, b, xs, rfl, ok, hl.same s3, hp3, hxx, fun W H4 hW s4 h4 => hD'' _ _ ⟨W, rfl, s4, h4⟩⟩
        rintro σ H4 ⟨W, rfl, s4, hW4⟩
        have hf4 := hf3.same s4
        have hfl : (facL ds b xs).length = n := by unfold facL; rw [List.length_map, List.length_range, hn]
        obtain ⟨as, e1, e2, e3, e4⟩ := id hf4
        have hk4 := hk3.same s4
        refine seq_by (fun σ H5 => ∃ D : Addr, σ = [some (.ref lt), some (.int (b : Int)), some (.ref L), some (.ref F), some (.ref lf), some (.ref Kp), some (.int (i : Int)), some (.ref p), some (.ref W), some (.ref D), none, none, none] ∧ Same H4 H5 ∧ LLy H5 D (left.filter (told37 (b - 1) (facL ds b xs))) Kp ∧ D ≠ Kp) (fun D'' hD'' => ?_) ?_
        · refine ⟨_, rfl, lf, rfl, ⟨_, SqL.of e1⟩, fun D hD => ?_⟩
          refine lc_list (xs := as.map V.ref) (fun k H5 => Same H4 H5 ∧ LLx (fun _ => True) H5 D ((left.take k).filter (told37 (b - 1) (facL ds b xs))) Kp ∧ D ≠ Kp) ⟨new_same hD, ⟨[], upd_same, rfl, fun i xs e => by simp at e, fun p hp => absurd hp (by simp)⟩, (ne_of_none (show H4 Kp = some (.lst _) from hk4) hD).symm⟩ (fun k H5 _ h => SqL.of (h.1 _ _ e1)) ?_ ?_
          · rintro k y H5 hy ⟨s5, h5, nDK⟩
            have hk : k < left.length := by
              have := (List.getElem?_eq_some_iff.mp hy).1
              rw [List.length_map] at this
              omega
            have hlk : left[k]? = some left[k] := List.getElem?_eq_getElem hk
            obtain ⟨q, q1, q2⟩ := e3 k _ hlk
            rw [List.getElem?_map, q1] at hy
            obtain rfl := Option.some.inj hy
            have hmem := hsub _ (List.getElem_mem hk)
            have hlen := allF_each hmem
            have q5 := q2.same s5
            have hW5 := hW4.same s5
            obtain ⟨l, hl'⟩ : ∃ l, l = left[k] := ⟨_, rfl⟩
            rw [← hl'] at q5 hlen hlk hmem
            have hbig : ∀ j, (l.getD j 0).natAbs < 2 ^ 64 := fun j => by
              obtain ⟨f, rfl⟩ := (allF_mem _ _ _).mp hmem
              unfold fnF
              by_cases hj : j < n
              · rw [List.getD_eq_getElem?_getD, at_range hj]
                show (if f j = true then tHalf b else 0).natAbs < _
                split
                · unfold tHalf
                  have : b = 1 ∨ b = 2 ∨ b = 3 ∨ b = 4 ∨ b = 5 ∨ b = 6 := by omega
                  rcases this with rfl | rfl | rfl | rfl | rfl | rfl <;> decide
                · decide
              · rw [List.getD_eq_getElem?_getD, List.getElem?_eq_none (by rw [List.length_map, List.length_range]; omega)]
                decide
            refine ⟨rfl, ?_⟩
            refine ⟨_, rfl, _, rfl, false, false, q, W, _, _, rfl, sqK_l (SqL.of q5), sqK_l (SqL.of hW5), fun D2 hD2 => ?_⟩
            refine lc_it (walk_zipK (xs := l.map V.int) (ys := (facL ds b xs).map V.int) (by rw [List.length_map, List.length_map, hlen, hfl])) (fun j H6 => Same H5 H6 ∧ LI H6 D2 ((List.range j).map fun j => l.getD j 0 * (facL ds b xs).getD j 0)) ⟨new_same hD2, upd_same⟩ (fun j H6 _ h => ⟨sqK_l (SqL.of (q5.same h.1)), sqK_l (SqL.of (hW5.same h.1))⟩) ?_ ?_
            · rintro j y H6 H7 hj ⟨s6, h6⟩ ⟨T2, y1, y2, rfl, hT2, rfl, hy1, hy2⟩
              rw [List.length_map, hlen] at hj
              have hy1 : (l.map V.int)[j]? = some y1 := hy1
              have hy2 : ((facL ds b xs).map V.int)[j]? = some y2 := hy2
              have hlj : l[j]? = some (l.getD j 0) := by rw [List.getD_eq_getElem?_getD, List.getElem?_eq_getElem (show j < l.length by omega)]; rfl
              have hfj : (facL ds b xs)[j]? = some ((facL ds b xs).getD j 0) := by rw [List.getD_eq_getElem?_getD, List.getElem?_eq_getElem (show j < (facL ds b xs).length by omega)]; rfl
              rw [map_at_int hlj] at hy1
              rw [map_at_int hfj] at hy2
              obtain rfl := Option.some.inj hy1
              obtain rfl := Option.some.inj hy2
              have hwb : ((facL ds b xs).getD j 0).natAbs < 2 ^ 15600 := by
                have hjj : j < 2 ^ ds.sum * pN ds b := by omega
                have e : (facL ds b xs).getD j 0 = wI ds b xs j := by
                  unfold facL
                  rw [List.getD_eq_getElem?_getD, at_range hjj]
                  rfl
                rw [e]
                exact wI_bd ok hxx hjj
              have st2 := new_same (o := .tup [V.int (l.getD j 0), .int ((facL ds b xs).getD j 0)]) hT2
              have s7 := s6.trans st2
              have h7 := h6.same st2
              refine ⟨T2, _, rfl, SqT.of upd_same, rfl, _, _, rfl, _, _, rfl, rfl, rfl, ?_⟩
              dsimp only [tYes]
              rw [if_pos rfl]
              generalize upd H6 T2 (.tup [V.int (l.getD j 0), .int ((facL ds b xs).getD j 0)]) = H7 at s7 h7 ⊢
              refine ⟨_, rfl, _, rfl, _, _, rfl, rfl, mulx_ok (hbig j) hwb (by omega), ?_⟩
              refine ⟨_, h7, by rw [List.length_map, List.length_map, List.length_range]; omega, same_up s7 hD2, ?_⟩
              rw [List.range_succ, List.map_append]
              exact li_snoc
            · rintro H6 ⟨s6, h6⟩
              have hsum : ((List.range (l.map V.int).length).map fun j => l.getD j 0 * (facL ds b xs).getD j 0).sum = dotI l (facL ds b xs) := by
                rw [List.length_map]
                exact dotI_all _ _ (by rw [hlen, hfl])
              refine ⟨false, D2, _, rfl, sqK_l (SqL.of h6), ?_⟩
              rw [hsum]
              have hpb : (0 : Int) < 2 ^ b := p2_pos b
              refine ⟨_, rfl, _, _, rfl, rfl, ⟨by omega, by omega, by decide⟩, _, _, rfl, rfl, ?_, rfl, _, rfl, ?_⟩
              · rw [Int.toNat_natCast, Int.one_mul]
                exact hpb
              rw [Int.toNat_natCast, Int.one_mul]
              have s56 := s5.trans s6
              have h56 := h5.same s6
              have ef : (left.take (k + 1)).filter (told37 (b - 1) (facL ds b xs)) = (left.take k).filter (told37 (b - 1) (facL ds b xs)) ++ if told37 (b - 1) (facL ds b xs) l = true then [l] else [] := by
                rw [List.take_succ, hl', List.getElem?_eq_getElem hk, List.filter_append]
                congr 1
                show List.filter _ [left[k]] = _
                by_cases e : told37 (b - 1) (facL ds b xs) left[k] = true
                · rw [if_pos e, List.filter_cons, if_pos e]
                  rfl
                · rw [if_neg e, List.filter_cons, if_neg e]
                  rfl
              have et : told37 (b - 1) (facL ds b xs) l = decide (dotI l (facL ds b xs) % 2 ^ b = 0) := told_is hb1 _ _
              refine ite2 (fun z => ?_) (fun z => ?_)
              · have z : dotI l (facL ds b xs) % 2 ^ b = 0 := V.int.inj (of_decide_eq_true z)
                obtain ⟨bs, f1, f2, f3, f4⟩ := h56
                have hq6 := q5.same s6
                have nqD : q ≠ D := ne_of_none (show H4 q = some (.lst _) from q2) hD
                have nqK : q ≠ Kp := e4 q (List.mem_of_getElem? q1)
                have hfl2 := List.length_filter_le (told37 (b - 1) (facL ds b xs)) (left.take k)
                rw [List.length_take] at hfl2
                refine ⟨_, rfl, _, f1, (by rw [List.length_map, f2]; omega), same_up s56 hD, ?_, nDK⟩
                rw [ef, if_pos (by rw [et]; exact decide_eq_true z)]
                exact llx_snoc f1 f2 f3 f4 hq6 nqD nqK trivial
              · have z : ¬ dotI l (facL ds b xs) % 2 ^ b = 0 := fun q => z (decide_eq_true (congrArg V.int q))
                refine ⟨s56, ?_, nDK⟩
                rw [ef, if_neg (by rw [et, decide_eq_false z]; exact Bool.false_ne_true), List.append_nil]
                exact h56
          · rintro H5 ⟨s5, h5, nDK⟩
            rw [List.length_map, e2, List.take_length] at h5
            exact hD'' _ _ ⟨D, rfl, s5, h5.y, nDK⟩
        rintro σ H5 ⟨D, rfl, s5, h5, nDK⟩
        have hf5 := hf4.same s5
        have hk5 := hk4.same s5
        have s35 := s4.trans s5
        obtain ⟨bs, f1, f2, f3, f4⟩ := id h5
        obtain ⟨as5, g1, g2, _⟩ := id hf5
        refine seq_by (fun σ H6 => σ = [some (.ref lt), some (.int (b : Int)), some (.ref L), some (.ref F), some (.ref lf), some (.ref Kp), some (.int (i : Int)), some (.ref p), some (.ref W), some (.ref D), none, none, none] ∧ Same H H6 ∧ LLy H6 D (left.filter (told37 (b - 1) (facL ds b xs))) Kp ∧ LI H6 Kp (dI (ks ++ if (left.filter (told37 (b - 1) (facL ds b xs))).length < left.length then [i] else []))) (fun D'' hD'' => ?_) ?_
        · refine ⟨_, rfl, D, _, rfl, .inl (SqL.of f1), _, rfl, lf, _, rfl, .inl (SqL.of g1), _, _, rfl, rfl, _, rfl, ?_⟩
          rw [List.length_map, List.length_map, f2, g2]
          refine ite2 (fun z => ?_) (fun z => ?_)
          · have z : (((left.filter (told37 (b - 1) (facL ds b xs))).length : Nat) : Int) < ((left.length : Nat) : Int) := of_decide_eq_true z
            refine ⟨_, rfl, .inl ⟨rfl, _, SqL.of hk5⟩, _, rfl, Kp, _, _, rfl, rfl, hk5, (by rw [List.length_map]; unfold dI; rw [List.length_map]; omega), hD'' _ _ ⟨rfl, same_up (s3.trans s35) hKn, h5.upX nDK, ?_⟩⟩
            rw [if_pos (by omega)]
            unfold dI
            rw [List.map_append]
            exact li_snoc
          · have z : ¬ (((left.filter (told37 (b - 1) (facL ds b xs))).length : Nat) : Int) < ((left.length : Nat) : Int) := fun q => z (decide_eq_true q)
            refine hD'' _ _ ⟨rfl, s3.trans s35, h5, ?_⟩
            rw [if_neg (by omega), List.append_nil]
            exact hk5
        rintro σ H6 ⟨rfl, s6, h6, hk6⟩
        refine ⟨_, rfl, D, _, _, _, _, rfl, s6, ?_, ?_, nDK⟩
        · rw [htk, dueL_snoc, ← hle]
          exact h6
        · rw [htk, dueK_snoc, ← hle, ← hks, htl, Nat.zero_add]
          exact hk6
      · rintro σ H2 ⟨lf, a6, a7, a8, a9, rfl, s2, h2, hk2, _⟩
        rw [hws.2.1, List.take_length] at h2 hk2
        exact hD' _ _ ⟨lf, _, _, _, _, rfl, s2, h2, hk2⟩
    clear s1 hF1 hk1
    rintro σ H2 ⟨lf, a6, a7, a8, a9, rfl, s2, h2, hk2⟩
    obtain ⟨as, e1, e2, _⟩ := h2
    refine ⟨_, rfl, lf, _, rfl, .inl (SqL.of e1), rfl, _, rfl, ?_⟩
    rw [List.length_map, e2]
    refine ite2 (fun z => ?_) (fun z => ?_)
    · have z : ((dueL ds b (allF (tHalf b) n) pts).length : Int) = 1 := V.int.inj (of_decide_eq_true z)
      refine ⟨_, rfl, Kp, _, rfl, .inl ⟨SqL.of hk2, fun t ht => ?_⟩⟩
      exact kq _ _ (s2.trans (new_same ht)) (.inl ⟨by omega, t, rfl, upd_same⟩)
    · have z : ¬ ((dueL ds b (allF (tHalf b) n) pts).length : Int) = 1 := fun q => z (decide_eq_true (congrArg V.int q))
      exact kq _ _ s2 (.inr ⟨by omega, rfl⟩)
end
end My

set_option pp.maxSteps 300
set_option Elab.async false
set_option linter.all false
set_option maxRecDepth 100000
set_option maxHeartbeats 1000000
namespace My
open PySem L2 MyR
/-! ### how great points are; pieces of tuples -/
theorem vecs_ne (b : Nat) (hb : 1 ≤ b) : ∀ m, ∃ v, v ∈ vecs m b
  | 0 => ⟨[], List.mem_singleton.mpr rfl⟩
  | m + 1 => by
    obtain ⟨v, hv⟩ := vecs_ne b hb m
    refine ⟨0 :: v, ?_⟩
    show 0 :: v ∈ (List.range (W b)).flatMap fun j => (vecs m (b - tw j)).map (j :: ·)
    refine List.mem_flatMap.mpr ⟨0, List.mem_range.mpr (W_pos hb), List.mem_map.mpr ⟨v, ?_, rfl⟩⟩
    exact hv
theorem pN_pos {ds : List Nat} {b : Nat} (ok : Sh37 ds b) : 1 ≤ pN ds b := by
  obtain ⟨v, hv⟩ := vecs_ne b ok.b1 ds.length
  unfold pN
  exact List.length_pos_of_mem hv
theorem spots_len7 {ds : List Nat} {b : Nat} (ok : Sh37 ds b) : (spotsL ds b).length = 2 ^ ds.sum * pN ds b := by
  unfold spotsL
  rw [fm_const (n := pN ds b) fun r _ => by unfold dV pN; rw [List.length_map, List.length_map], resL_len, (sA_le ok.m ok.s ds.length (Nat.le_refl _)).2]
theorem resL_ent7 {ds : List Nat} (hm : ds.length = 1 ∨ ds.length = 2) (hs8 : ds.sum ≤ 8) : ∀ i, i ≤ ds.length → ∀ r, r ∈ resL ds i → ∀ k, 0 ≤ r.getD k 0 ∧ r.getD k 0 < 256
  | 0, _, r, h, k => by
    rw [List.mem_singleton.mp h]
    exact ⟨by simp, by simp⟩
  | i + 1, hi, r, h, k => by
    obtain ⟨q, hq, h⟩ := List.mem_flatMap.mp h
    obtain ⟨x, hx, rfl⟩ := List.mem_map.mp h
    have hx := List.mem_range.mp hx
    have hd8 := d_le8 hm hs8 i (by omega)
    have hN : (2 : Nat) ^ ds.getD i 0 ≤ 256 := by
      have := Nat.pow_le_pow_right (n := 2) (by decide) hd8
      exact Nat.le_trans this (by decide)
    by_cases e : k < q.length
    · rw [List.getD_eq_getElem?_getD, List.getElem?_append_left e, ← List.getD_eq_getElem?_getD]
      exact resL_ent7 hm hs8 i (by omega) q hq k
    · rw [List.getD_eq_getElem?_getD, List.getElem?_append_right (by omega)]
      by_cases e2 : k - q.length = 0
      · rw [e2]
        show 0 ≤ (x : Int) ∧ (x : Int) < 256
        omega
      · rw [List.getElem?_eq_none (by show 1 ≤ k - q.length; omega)]
        exact ⟨by decide, by decide⟩
def Small (x : List Int) : Prop := ∀ i, -(2 ^ 20) < x.getD i 0 ∧ x.getD i 0 < 2 ^ 20
theorem spot_small {ds : List Nat} {b : Nat} (ok : Sh37 ds b) {x : List Int} (h : x ∈ spotsL ds b) : x.length = ds.length ∧ Small x := by
  have hm := ok.m
  have hs8 := ok.s
  have hb := ok.b64
  obtain ⟨r, hr, h⟩ := List.mem_flatMap.mp h
  obtain ⟨v, hv, rfl⟩ := List.mem_map.mp h
  obtain ⟨u, hu, rfl⟩ := List.mem_map.mp hv
  refine ⟨by unfold spotI; rw [List.length_map, List.length_range], fun i => ?_⟩
  by_cases hi : i < ds.length
  · unfold spotI
    rw [List.getD_eq_getElem?_getD, at_range hi]
    show -(2 ^ 20) < r.getD i 0 + (dI u).getD i 0 * 2 ^ ds.getD i 0 ∧ r.getD i 0 + (dI u).getD i 0 * 2 ^ ds.getD i 0 < 2 ^ 20
    have h1 : 0 ≤ (dI u).getD i 0 ∧ (dI u).getD i 0 < 66 := by
      have hul := vecs_mem _ _ u hu
      have e : (dI u)[i]? = some ((u[i] : Nat) : Int) := by unfold dI; rw [List.getElem?_map, List.getElem?_eq_getElem (show i < u.length by omega)]; rfl
      rw [List.getD_eq_getElem?_getD, e]
      have := vecs_ent hb _ _ u (Nat.le_refl _) hu _ (List.getElem_mem (show i < u.length by omega))
      show 0 ≤ ((u[i] : Nat) : Int) ∧ ((u[i] : Nat) : Int) < 66
      omega
    have h2 := resL_ent7 hm hs8 _ (Nat.le_refl _) r hr i
    have hd8 := d_le8 hm hs8 i hi
    have h3 : (2 : Int) ^ ds.getD i 0 ≤ 2 ^ 8 := Int.le_of_dvd (by decide) (p2_dvd hd8)
    have h4 := p2_pos (ds.getD i 0)
    have h5 : (dI u).getD i 0 * 2 ^ ds.getD i 0 ≤ 66 * 2 ^ 8 := Int.mul_le_mul (by omega) h3 (by omega) (by decide)
    have h6 : 0 ≤ (dI u).getD i 0 * 2 ^ ds.getD i 0 := Int.mul_nonneg h1.1 (by omega)
    omega
  · rw [List.getD_eq_getElem?_getD, List.getElem?_eq_none (by unfold spotI; rw [List.length_map, List.length_range]; omega)]
    exact ⟨by decide, by decide⟩
theorem Small.ok {ds : List Nat} {x : List Int} (h : Small x) (hl : x.length = ds.length) : XsOk ds x := ⟨hl, fun i => by
  have := h i
  have h7 : (2 : Int) ^ 110 = 1298074214633706907132624082305024 := by decide
  omega⟩
theorem catA_use {K : PySem.W.Frag} {H : Hp} {a c : Addr} {xs ys : List Int} {Q : VK} (ha : TupI H a xs) (hc : TupI H c ys) (hl : xs.length + ys.length ≤ sizeLine) (kq : ∀ t H', Same H H' → TupI H' t (xs ++ ys) → Q (.ref t) H') : rCatA K (.ref a) (.ref c) H Q := by
  refine ⟨a, c, _, _, rfl, rfl, SqT.of ha, SqT.of hc, by rw [List.length_map, List.length_map]; exact hl, fun e => ?_, fun _ e => ?_, fun _ _ p hp => ?_⟩
  · obtain rfl : xs = [] := List.map_eq_nil_iff.mp e
    exact kq c H (fun _ _ e => e) hc
  · obtain rfl : ys = [] := List.map_eq_nil_iff.mp e
    exact kq a H (fun _ _ e => e) (by rw [List.append_nil]; exact ha)
  · exact kq p _ (new_same hp) (by show upd _ p _ p = _; rw [upd_same, List.map_append])
theorem cutA_use {K : PySem.W.Frag} {H : Hp} {a : Addr} {xs zs : List Int} {lo hi : Option Int} {Q : VK} (ha : TupI H a xs) (e : cutV (xs.map V.int) lo hi = zs.map V.int) (kq : ∀ t H', Same H H' → TupI H' t zs → Q (.ref t) H') : rSlA K (.ref a) lo hi H Q := by
  refine ⟨a, _, rfl, SqT.of ha, fun ⟨h0, h1⟩ => ?_, fun _ p hp => kq p _ (new_same hp) (by show upd _ p _ p = _; rw [upd_same, e])⟩
  refine kq a H (fun _ _ e => e) ?_
  unfold cutV at e
  rw [h0, h1, List.drop_zero, Nat.sub_zero, List.take_length] at e
  show H a = _
  rw [← e]
  exact ha
theorem cut_tail (xs : List Int) : cutV (xs.map V.int) (some 1) none = (xs.drop 1).map V.int := by
  have := cut_drop (xs.map V.int) 1
  rw [List.map_drop]
  exact this
theorem cut_init (xs : List Int) (h : xs ≠ []) : cutV (xs.map V.int) none (some (-1)) = (xs.take (xs.length - 1)).map V.int := by
  have hl : 0 < xs.length := List.length_pos_iff.mpr h
  unfold cutV
  show ((xs.map V.int).drop 0).take ((if (-1 : Int) < 0 then ((-1 : Int) + ((xs.map V.int).length : Int)).toNat else min (-1 : Int).toNat (xs.map V.int).length) - 0) = _
  rw [if_pos (by decide), List.drop_zero, List.length_map, List.map_take, Nat.sub_zero, show ((-1 : Int) + (xs.length : Int)).toNat = xs.length - 1 by omega]
theorem cut_first (xs : List V) : cutV xs none (some 1) = xs.take 1 := by
  unfold cutV
  show (xs.drop 0).take ((if (1 : Int) < 0 then ((1 : Int) + (xs.length : Int)).toNat else min (1 : Int).toNat xs.length) - 0) = _
  rw [if_neg (by decide), List.drop_zero, Nat.sub_zero, show (1 : Int).toNat = 1 from rfl]
  by_cases h : 1 ≤ xs.length
  · rw [Nat.min_eq_left h]
  · have : xs = [] := by
      match xs, h with
      | [], _ => rfl
      | a :: r, h => simp at h
    subst this
    rfl
/-- a point is put in among others -/
theorem lti_insert {H : Hp} {X p : Addr} {as : List Addr} {xss : List (List Int)} {xs : List Int} {k : Nat} (e1 : H X = some (.lst (as.map V.ref))) (e2 : as.length = xss.length) (e3 : ∀ (i : Nat) xs, xss[i]? = some xs → ∃ p, as[i]? = some p ∧ TupI H p xs) (hp : TupI H p xs) (hk : k ≤ xss.length) :
    LTI (upd H X (.lst ((as.map V.ref).take k ++ [.ref p] ++ (as.map V.ref).drop k))) X (xss.take k ++ [xs] ++ xss.drop k) := by
  have nt : ∀ {p : Addr} {ys : List Int}, TupI H p ys → TupI (upd H X (.lst ((as.map V.ref).take k ++ [.ref p] ++ (as.map V.ref).drop k))) p ys := fun {p ys} h => by
    show upd H X _ p = _
    rw [upd_ne (ne_of (show H p = some (.tup _) from h) e1 (by intro z; cases z))]
    exact h
  have nt' : ∀ {o : HO} {p : Addr} {ys : List Int}, TupI H p ys → TupI (upd H X o) p ys := fun {o p ys} h => by
    show upd H X _ p = _
    rw [upd_ne (ne_of (show H p = some (.tup _) from h) e1 (by intro z; cases z))]
    exact h
  refine ⟨as.take k ++ [p] ++ as.drop k, by rw [upd_same, List.map_append, List.map_append, List.map_take, List.map_drop]; rfl, by simp [e2], fun i ys e => ?_⟩
  have h1 : (xss.take k).length = k := by rw [List.length_take]; omega
  have h2 : (as.take k).length = k := by rw [List.length_take]; omega
  by_cases hi : i < k
  · rw [List.append_assoc, List.getElem?_append_left (by omega), List.getElem?_take_of_lt hi] at e
    obtain ⟨q, q1, q2⟩ := e3 i ys e
    exact ⟨q, by rw [List.append_assoc, List.getElem?_append_left (by omega), List.getElem?_take_of_lt hi]; exact q1, nt' q2⟩
  · by_cases hj : i = k
    · subst hj
      rw [List.append_assoc, List.getElem?_append_right (by omega), h1, Nat.sub_self] at e
      obtain rfl : xs = ys := Option.some.inj e
      exact ⟨p, by rw [List.append_assoc, List.getElem?_append_right (by omega), h2, Nat.sub_self]; rfl, nt' hp⟩
    · rw [List.getElem?_append_right (by rw [List.length_append, h1]; show k + 1 ≤ i; omega), List.length_append, h1, List.getElem?_drop] at e
      obtain ⟨q, q1, q2⟩ := e3 _ ys e
      refine ⟨q, ?_, nt' q2⟩
      rw [List.getElem?_append_right (by rw [List.length_append, h2]; show k + 1 ≤ i; omega), List.length_append, h2, List.getElem?_drop]
      exact q1
end My

set_option pp.maxSteps 300
set_option Elab.async false
set_option linter.all false
set_option maxRecDepth 100000
set_option maxHeartbeats 1000000
namespace My
open PySem L2 MyR
/-! ### points: in a drawn order, moved, left out, twice, others -/
theorem call_tupM {X : Cx} {K : PySem.W.Frag} (h : X.K = K) : CallR X (.type "tuple") (fun xs H Q => ∃ p ys, xs = [.ref p] ∧ ((SqL K H p ys ∧ ∀ l, H l = none → Q (.ref l) (upd H l (.tup ys))) ∨ (SqT K H p ys ∧ Q (.ref p) H))) := h ▸ call_tuple_of
theorem pi_tupM {X : Cx} {K : PySem.W.Frag} {tg l : Expr} {tl : TE} (h : X.K = K) (hl : PE X l tl) : PI X tg l (iTup K tl) := by
  subst h
  exact pi_tup hl
theorem sl_tupM {X : Cx} {K : PySem.W.Frag} (h : X.K = K) : SlR X (rSlA K) := by
  subst h
  exact sl_tupA
def ifBody (st : Stmt) (i : Nat) : List Stmt := match (defBody st)[i]? with
  | some (.If _ b _ _) => b
  | _ => []
def lcScopeI (st : Stmt) (i j : Nat) : Scope := ((((ifBody st i)[j]?).bind valOf).bind lcOf).elim (defScope st) (·.1)
structure SsI (dl l : Addr) (H0 H : Hp) (ds : List Nat) (L y : Addr) (pts : List (List Int)) (ys : List Int) (fm : Int) : Prop where
  d : Deal H dl l
  k : Kept dl l H0 H
  p : LTI H L pts
  y : TupI H y ys
  yl : ys.length = ds.length
  yb : ∀ i, -(2 ^ 100) < ys.getD i 0 ∧ ys.getD i 0 < 2 ^ 100
  x : ∀ x ∈ pts, XsOk ds x
  sm : fm = 4 → ∀ x ∈ pts, Small x
  f : H0 L = none
  n1 : L ≠ dl
  n2 : L ≠ l
theorem SsI.list {dl l L y D : Addr} {H0 H1 H2 : Hp} {ds : List Nat} {pts pts' : List (List Int)} {ys : List Int} {fm : Int} (I : SsI dl l H0 H1 ds L y pts ys fm) (d2 : Deal H2 dl l) (k2 : Kept dl l H1 H2) (hD : H1 D = none) (hp : LTI H2 D pts') (hx : ∀ x ∈ pts', XsOk ds x) (hs : fm = 4 → ∀ x ∈ pts', Small x) : SsI dl l H0 H2 ds D y pts' ys fm :=
  ⟨d2, I.k.trans k2, hp, I.y.kept k2 I.d, I.yl, I.yb, hx, hs, I.k.free I.d hD, (I.d.free hD).1, (I.d.free hD).2⟩
theorem SsI.go {dl l L y : Addr} {H0 H1 H2 : Hp} {ds : List Nat} {pts : List (List Int)} {ys : List Int} {fm : Int} (I : SsI dl l H0 H1 ds L y pts ys fm) (d2 : Deal H2 dl l) (k2 : Kept dl l H1 H2) : SsI dl l H0 H2 ds L y pts ys fm :=
  ⟨d2, I.k.trans k2, I.p.kept k2 I.d I.n2, I.y.kept k2 I.d, I.yl, I.yb, I.x, I.sm, I.f, I.n1, I.n2⟩
theorem SsI.sm' {dl l L y : Addr} {H0 H1 H2 : Hp} {ds : List Nat} {pts : List (List Int)} {ys : List Int} {fm : Int} (I : SsI dl l H0 H1 ds L y pts ys fm) (s : Same H1 H2) : SsI dl l H0 H2 ds L y pts ys fm := I.go (I.d.same s) (Kept.of s)
theorem SsI.put {dl l L y : Addr} {H0 H1 : Hp} {ds : List Nat} {pts pts' : List (List Int)} {ys : List Int} {fm : Int} {us vs : List V} (I : SsI dl l H0 H1 ds L y pts ys fm) (hu : H1 L = some (.lst us)) (hp : LTI (upd H1 L (.lst vs)) L pts') (hx : ∀ x ∈ pts', XsOk ds x) (hs : fm = 4 → ∀ x ∈ pts', Small x) : SsI dl l H0 (upd H1 L (.lst vs)) ds L y pts' ys fm :=
  ⟨I.d.other I.n1 I.n2, I.k.new I.f, hp, by
    show upd H1 L _ y = _
    rw [upd_ne (ne_of (show H1 y = some (.tup _) from I.y) hu (by intro z; cases z))]
    exact I.y, I.yl, I.yb, hx, hs, I.f, I.n1, I.n2⟩
theorem xs_range {ds : List Nat} {n : Nat} (f : Nat → Int) (hn : n = ds.length) (hf : ∀ i, i < n → -(2 ^ 110) < f i ∧ f i < 2 ^ 110) : XsOk ds ((List.range n).map f) := ⟨by rw [List.length_map, List.length_range, hn], fun i => by
  by_cases hi : i < n
  · rw [List.getD_eq_getElem?_getD, at_range hi]
    exact hf i hi
  · rw [List.getD_eq_getElem?_getD, List.getElem?_eq_none (by rw [List.length_map, List.length_range]; omega)]
    exact ⟨by decide, by decide⟩⟩
def Bd (B : Int) (x : List Int) : Prop := ∀ i, -B < x.getD i 0 ∧ x.getD i 0 < B
theorem bd_nil {B : Int} (hB : 0 < B) : Bd B [] := fun i => by
  show -B < (([] : List Int)[i]?).getD 0 ∧ _
  simp
  omega
theorem bd_snoc {B : Int} (hB : 0 < B) {x : List Int} {z : Int} (h : Bd B x) (h1 : -B < z) (h2 : z < B) : Bd B (x ++ [z]) := fun i => by
  by_cases e : i < x.length
  · rw [List.getD_eq_getElem?_getD, List.getElem?_append_left e, ← List.getD_eq_getElem?_getD]
    exact h i
  · rw [List.getD_eq_getElem?_getD, List.getElem?_append_right (by omega)]
    by_cases e2 : i - x.length = 0
    · rw [e2]
      exact ⟨h1, h2⟩
    · rw [List.getElem?_eq_none (by show 1 ≤ i - x.length; omega)]
      show -B < 0 ∧ 0 < B
      omega
theorem mem_eraseX {α : Type} {x : α} {k : Nat} {xs : List α} (h : x ∈ xs.eraseIdx k) : x ∈ xs := List.mem_of_mem_eraseIdx h
theorem bd_cons {B : Int} {x : List Int} {z : Int} (h : Bd B x) (h1 : -B < z) (h2 : z < B) : Bd B (z :: x) := fun i => by
  match i with
  | 0 => exact ⟨h1, h2⟩
  | i + 1 => exact h i
theorem bd_drop {B : Int} (hB : 0 < B) {x : List Int} (h : Bd B x) (k : Nat) : Bd B (x.drop k) := fun i => by
  rw [List.getD_eq_getElem?_getD, List.getElem?_drop, ← List.getD_eq_getElem?_getD]
  exact h _
theorem bd_take {B : Int} (hB : 0 < B) {x : List Int} (h : Bd B x) (k : Nat) : Bd B (x.take k) := fun i => by
  rw [List.getD_eq_getElem?_getD, List.getElem?_take]
  split
  · rw [← List.getD_eq_getElem?_getD]
    exact h _
  · show -B < 0 ∧ 0 < B
    omega
theorem Bd.ok {ds : List Nat} {x : List Int} {B : Int} (h : Bd B x) (hl : x.length = ds.length) (hB : B ≤ 2 ^ 110) : XsOk ds x := ⟨hl, fun i => by
  have := h i
  omega⟩
def spSs : Sp := fun vs H Q _ => ∃ (dl l lt : Addr) (ds : List Nat) (b : Nat), vs = [.ref dl, .ref lt, .int (b : Int)] ∧ Deal H dl l ∧ TupI H lt (dI ds) ∧ Sh37 ds b ∧
  ∀ (L : Addr) H' pts, H L = none → Deal H' dl l → Kept dl l H H' → LTI H' L pts → (∀ x ∈ pts, XsOk ds x) → pts.length ≤ 12 → Q (.ref L) H'
section
variable {P : Program} {w : World} {K : PySem.W.Frag} {mg : Str → Option Value} {base : Heap}
abbrev s_law_some_spots : Stmt := top 30
abbrev N_law_some_spots : List Str := ["_law_deal_here", "_law_depths", "_law_wide", "_law_spots_here", "_law_by", "_law_form", "_law_a", "_law_b", "_law_spot", "_law_number", "_law_odd", "_law_at", "_law_turn", "_law_more"]
theorem sc_law_some_spots : FnScope N_law_some_spots ["_law_deal_here", "_law_depths", "_law_wide"] (defScope s_law_some_spots) := ⟨rfl, rfl, rfl, by decide +kernel, rfl, by decide +kernel, by decide +kernel⟩
theorem ok_law_some_spots {f : Addr} {fd : FuncData} (F : Fun K "_law_some_spots" "_law_some_spots" s_law_some_spots f fd) (T : Glob mg) (D_law_mixed : Df P w K mg base 2 "_law_mixed" ["_law_deal_here", "_law_items"] spMix) (D_law_spots : Df P w K mg base 5 "_law_spots" ["_law_depths", "_law_wide"] spSpots) (D_law_far : Df P w K mg base 2 "_law_far" ["_law_deal_here", "_law_many"] spFar) (D_law_draw : Df P w K mg base 1 "_law_draw" ["_law_deal_here", "_law_many"] spDraw) :
    FnOk P w K mg base CX0 6 f fd ["_law_deal_here", "_law_depths", "_law_wide"] spSs := by
  refine F.ok sc_law_some_spots (fun vs H Q E h => ?_) (fun cdv A outer s H vs Q E hr h => ?_)
  · obtain ⟨dl, l, lt, ds, b, rfl, _⟩ := h
    rfl
  · obtain ⟨dl, l, lt, ds, b, rfl, D0, hl, ok, kq⟩ := h
    have nd := sc_law_some_spots.nd
    refine ⟨_, (pss_cons (ps_set (i := 3) nd rfl (Or.inl rfl) (pe_call D_law_mixed.ok (hr.mono (by decide)) (by rfl) D_law_mixed.g D_law_mixed.kp D_law_mixed.b .nil pass0 (pa_cons (pv 0) (pa_cons (pe_call D_law_spots.ok (hr.mono (by decide)) (by rfl) D_law_spots.g D_law_spots.kp D_law_spots.b .nil pass0 (pa_cons (pv 1) (pa_cons (pv 2) pa_nil))) pa_nil))))
    (pss_cons (ps_asg (pe_tup (pa_cons (pe_call D_law_far.ok (hr.mono (by decide)) (by rfl) D_law_far.g D_law_far.kp D_law_far.b .nil pass0 (pa_cons (pv 0) (pa_cons (pe_callB call_len_seq (by rfl) T.g_len PySem.boot_len (pa_cons (pv 1) pa_nil)) pa_nil))) (pa_cons (pe_call D_law_draw.ok (hr.mono (by decide)) (by rfl) D_law_draw.g D_law_draw.kp D_law_draw.b .nil pass0 (pa_cons (pv 0) (pa_cons pe_int pa_nil))) pa_nil))) (pg_tup (by rfl) (pgs_cons (pg_name (i := 4) nd rfl (Or.inr rfl)) (pgs_cons (pg_name (i := 5) nd rfl (Or.inl rfl)) pgs_nil))))
    (pss_cons (ps_if (pt_cmpR op_in_seq (pv 5) (pe_tup (pa_cons pe_int (pa_cons pe_int pa_nil))) (by rfl))
    (pss_one (ps_setLc (i := 3) (own := [("_law_spot", 8)]) (g := gName 8) (tt := tYes) rfl nd rfl rfl (sw_true rfl rfl rfl (by decide +kernel)) (pi_list (pv 3)) (blkOk_by (N := N_law_some_spots) (sc := defScope s_law_some_spots) (by decide +kernel)) (fun _ _ _ _ _ => (by first | exact pg_name (i := 8) nd rfl (Or.inl rfl) | exact pg_name (i := 8) nd rfl (Or.inr rfl))) (fun _ _ _ _ _ => pts_nil) (fun _ _ _ _ _ => (pe_callTy (call_tupM (K := K) rfl) (by rfl) T.g_tuple (by decide +kernel) (pa_cons (pe_lc (own := [("_law_a", 6), ("_law_b", 7)]) (g := gTup K 2 (gCons (gName 6) (gCons (gName 7) gNil))) (tt := tYes) rfl nd (pi_zipKN (K := K) rfl (by rfl) T.g_zip (pa_cons (pv 8) (pa_cons (pv 4) pa_nil))) (blkOk_by (N := N_law_some_spots) (sc := relabS (lcScopeI s_law_some_spots 2 0) (defScope s_law_some_spots)) (by decide +kernel)) (fun _ _ _ _ _ => pg_tup (by rfl) (pgs_cons (by first | exact pg_name (i := 6) nd rfl (Or.inl rfl) | exact pg_name (i := 6) nd rfl (Or.inr rfl)) (pgs_cons (by first | exact pg_name (i := 7) nd rfl (Or.inl rfl) | exact pg_name (i := 7) nd rfl (Or.inr rfl)) pgs_nil))) (fun _ _ _ _ _ => pts_nil) (fun _ _ _ _ _ => (pe_op op_add (pv 6) (pv 7)))) pa_nil)))))
    pss_nil)
    (pss_cons (ps_if (pt_cmpR op_in_seq (pv 5) (pe_tup (pa_cons pe_int (pa_cons pe_int pa_nil))) (by rfl))
    (pss_one (ps_expr (pe_bm PySem.F.plainAttrs_list PySem.F.slot_list_pop PySem.F.type_list_pop mt_popAt (pv 3) (pa_cons (pe_call D_law_draw.ok (hr.mono (by decide)) (by rfl) D_law_draw.g D_law_draw.kp D_law_draw.b .nil pass0 (pa_cons (pv 0) (pa_cons (pe_callB call_len_seq (by rfl) T.g_len PySem.boot_len (pa_cons (pv 3) pa_nil)) pa_nil))) pa_nil))))
    pss_nil)
    (pss_cons (ps_if (pt_cmpR op_eq (pv 5) pe_int (nomark _))
    (pss_one (ps_setLc (i := 3) (own := [("_law_spot", 8)]) (g := gName 8) (tt := tYes) rfl nd rfl rfl (sw_true rfl rfl rfl (by decide +kernel)) (pi_list (pv 3)) (blkOk_by (N := N_law_some_spots) (sc := defScope s_law_some_spots) (by decide +kernel)) (fun _ _ _ _ _ => (by first | exact pg_name (i := 8) nd rfl (Or.inl rfl) | exact pg_name (i := 8) nd rfl (Or.inr rfl))) (fun _ _ _ _ _ => pts_nil) (fun _ _ _ _ _ => (pe_callTy (call_tupM (K := K) rfl) (by rfl) T.g_tuple (by decide +kernel) (pa_cons (pe_lc (own := [("_law_number", 9)]) (g := gName 9) (tt := tYes) rfl nd (pi_tupM (K := K) rfl (pv 4)) (blkOk_by (N := N_law_some_spots) (sc := relabS (lcScopeI s_law_some_spots 4 0) (defScope s_law_some_spots)) (by decide +kernel)) (fun _ _ _ _ _ => (by first | exact pg_name (i := 9) nd rfl (Or.inl rfl) | exact pg_name (i := 9) nd rfl (Or.inr rfl))) (fun _ _ _ _ _ => pts_nil) (fun _ _ _ _ _ => (pe_op op_sub (pe_call D_law_draw.ok (hr.mono (by decide)) (by rfl) D_law_draw.g D_law_draw.kp D_law_draw.b .nil pass0 (pa_cons (pv 0) (pa_cons pe_int pa_nil))) pe_int))) pa_nil)))))
    pss_nil)
    (pss_cons (ps_if (pt_cmpR op_eq (pv 5) pe_int (nomark _))
    (pss_cons (ps_set (i := 10) nd rfl (Or.inr rfl) (pe_op op_add (pe_op op_mul pe_int (pe_call D_law_draw.ok (hr.mono (by decide)) (by rfl) D_law_draw.g D_law_draw.kp D_law_draw.b .nil pass0 (pa_cons (pv 0) (pa_cons pe_int pa_nil)))) pe_int))
    (pss_one (ps_setLc (i := 3) (own := [("_law_spot", 8)]) (g := gName 8) (tt := tYes) rfl nd rfl rfl (sw_true rfl rfl rfl (by decide +kernel)) (pi_list (pv 3)) (blkOk_by (N := N_law_some_spots) (sc := defScope s_law_some_spots) (by decide +kernel)) (fun _ _ _ _ _ => (by first | exact pg_name (i := 8) nd rfl (Or.inl rfl) | exact pg_name (i := 8) nd rfl (Or.inr rfl))) (fun _ _ _ _ _ => pts_nil) (fun _ _ _ _ _ => (pe_callTy (call_tupM (K := K) rfl) (by rfl) T.g_tuple (by decide +kernel) (pa_cons (pe_lc (own := [("_law_number", 9)]) (g := gName 9) (tt := tYes) rfl nd (pi_tupM (K := K) rfl (pv 8)) (blkOk_by (N := N_law_some_spots) (sc := relabS (lcScopeI s_law_some_spots 5 1) (defScope s_law_some_spots)) (by decide +kernel)) (fun _ _ _ _ _ => (by first | exact pg_name (i := 9) nd rfl (Or.inl rfl) | exact pg_name (i := 9) nd rfl (Or.inr rfl))) (fun _ _ _ _ _ => pts_nil) (fun _ _ _ _ _ => (pe_op op_mul (pv 10) (pv 9)))) pa_nil))))))
    pss_nil)
    (pss_cons (ps_if (pt_cmpR op_eq (pv 5) pe_int (nomark _))
    (pss_one (ps_setLc (i := 3) (own := [("_law_at", 11)]) (g := gName 11) (tt := tYes) rfl nd rfl rfl (sw_true rfl rfl rfl (by decide +kernel)) (pi_range1 (by rfl) T.g_range (pa_cons (pe_op op_add (pe_callB call_len_seq (by rfl) T.g_len PySem.boot_len (pa_cons (pv 3) pa_nil)) pe_int) pa_nil)) (blkOk_by (N := N_law_some_spots) (sc := defScope s_law_some_spots) (by decide +kernel)) (fun _ _ _ _ _ => (by first | exact pg_name (i := 11) nd rfl (Or.inl rfl) | exact pg_name (i := 11) nd rfl (Or.inr rfl))) (fun _ _ _ _ _ => pts_nil) (fun _ _ _ _ _ => (pe_op (op_catAN (K := K) rfl) (pe_tup (pa_cons (pv 11) pa_nil)) (pe_slice (sl_tupM (K := K) rfl) (pv 4) (po_some pe_int) po_none)))))
    pss_nil)
    (pss_cons (ps_if (pt_cmpR op_eq (pv 5) pe_int (nomark _))
    (pss_one (ps_setLc (i := 3) (own := [("_law_at", 11)]) (g := gName 11) (tt := tYes) rfl nd rfl rfl (sw_true rfl rfl rfl (by decide +kernel)) (pi_range1 (by rfl) T.g_range (pa_cons (pe_callB call_len_seq (by rfl) T.g_len PySem.boot_len (pa_cons (pv 3) pa_nil)) pa_nil)) (blkOk_by (N := N_law_some_spots) (sc := defScope s_law_some_spots) (by decide +kernel)) (fun _ _ _ _ _ => (by first | exact pg_name (i := 11) nd rfl (Or.inl rfl) | exact pg_name (i := 11) nd rfl (Or.inr rfl))) (fun _ _ _ _ _ => pts_nil) (fun _ _ _ _ _ => (pe_op (op_catAN (K := K) rfl) (pe_slice (sl_tupM (K := K) rfl) (pv 4) po_none (po_some (pe_un un_neg pe_int))) (pe_tup (pa_cons (pv 11) pa_nil))))))
    pss_nil)
    (pss_cons (ps_for PassesOwn.never rfl (pi_range1 (by rfl) T.g_range (pa_cons (pe_call D_law_draw.ok (hr.mono (by decide)) (by rfl) D_law_draw.g D_law_draw.kp D_law_draw.b .nil pass0 (pa_cons (pv 0) (pa_cons pe_int pa_nil))) pa_nil)) (pg_name (i := 12) nd rfl (Or.inl rfl))
    (pss_cons (ps_set (i := 13) nd rfl (Or.inl rfl) (pe_op op_cat (pe_lst (pa_cons (pv 4) (pa_cons (pe_callTy call_tuple_of (by rfl) T.g_tuple (by decide +kernel) (pa_cons (pe_lc (own := [("_law_number", 9)]) (g := gName 9) (tt := tYes) rfl nd (pi_tup (pv 4)) (blkOk_by (N := N_law_some_spots) (sc := defScope s_law_some_spots) (by decide +kernel)) (fun _ _ _ _ _ => (by first | exact pg_name (i := 9) nd rfl (Or.inl rfl) | exact pg_name (i := 9) nd rfl (Or.inr rfl))) (fun _ _ _ _ _ => pts_nil) (fun _ _ _ _ _ => (pe_call D_law_draw.ok (hr.mono (by decide)) (by rfl) D_law_draw.g D_law_draw.kp D_law_draw.b .nil pass0 (pa_cons (pv 0) (pa_cons pe_int pa_nil))))) pa_nil)) pa_nil))) (pe_slice sl_list (pv 3) po_none (po_some pe_int))))
    (pss_cons (ps_set (i := 13) nd rfl (Or.inl rfl) (pe_ix ix_list (pv 13) (pe_call D_law_draw.ok (hr.mono (by decide)) (by rfl) D_law_draw.g D_law_draw.kp D_law_draw.b .nil pass0 (pa_cons (pv 0) (pa_cons (pe_callB call_len_seq (by rfl) T.g_len PySem.boot_len (pa_cons (pv 13) pa_nil)) pa_nil))) (fun _ _ => rfl)))
    (pss_one (ps_expr (pe_bm PySem.F.plainAttrs_list PySem.F.slot_list_insert PySem.F.type_list_insert mt_insert (pv 3) (pa_cons (pe_call D_law_draw.ok (hr.mono (by decide)) (by rfl) D_law_draw.g D_law_draw.kp D_law_draw.b .nil pass0 (pa_cons (pv 0) (pa_cons (pe_op op_add (pe_callB call_len_seq (by rfl) T.g_len PySem.boot_len (pa_cons (pv 3) pa_nil)) pe_int) pa_nil))) (pa_cons (pv 13) pa_nil))))))))
    (pss_one (ps_ret (pv 3)))))))))))), ?_⟩
    have zl' : 16777216 = sizeLine := sizeLine_eq.symm
    obtain ⟨hP, hC⟩ := ok.p
    have hm := ok.m
    have hs8 := ok.s
    have hb1 := ok.b1
    have hb := ok.b64
    have hcp := ok.c
    have hPv : (vecs ds.length b).length ≤ 8 := hP
    have hn1 : 1 ≤ 2 ^ ds.sum * pN ds b := Nat.mul_pos Nat.one_le_two_pow (pN_pos ok)
    have hsl := spots_len7 ok
    obtain ⟨n, hn⟩ : ∃ n, n = 2 ^ ds.sum * pN ds b := ⟨_, rfl⟩
    rw [← hn] at hcp hn1 hsl
    have hdl : ((dI ds).map V.int).length = ds.length := by rw [List.length_map]; unfold dI; rw [List.length_map]
    have p100 : (2 : Int) ^ 100 = 1267650600228229401496703205376 := by decide
    have p110 : (2 : Int) ^ 110 = 1298074214633706907132624082305024 := by decide
    have p20 : (2 : Int) ^ 20 = 1048576 := by decide
    refine seq_by (fun σ H1 => ∃ (L : Addr) (pts : List (List Int)), σ = [some (.ref dl), some (.ref lt), some (.int (b : Int)), some (.ref L), none, none, none, none, none, none, none, none, none, none] ∧ Deal H1 dl l ∧ Kept dl l H H1 ∧ LTI H1 L pts ∧ pts.length = n ∧ (∀ x ∈ pts, x.length = ds.length ∧ Small x) ∧ H L = none) (fun D' hD' => ?_) ?_
    · refine ⟨_, rfl, _, rfl, _, rfl, lt, ds, b, rfl, hl, hm, hs8, hb1, hb, by omega, fun S H1 hS s1 hS1 => ?_⟩
      refine ⟨dl, l, S, spotsL ds b, rfl, D0.same s1, hS1, by omega, fun L H2 pts hL D2 k2 hp2 hpl hsub => ?_⟩
      exact hD' _ _ ⟨L, pts, rfl, D2, (Kept.of s1).trans k2, hp2, by omega, fun x hx => spot_small ok (hsub x hx), same_free s1 hL⟩
    rintro σ H1 ⟨L, pts, rfl, D1, k1, hp1, hpl, hsm, hLn⟩
    refine seq_by (fun σ H2 => ∃ (y : Addr) (ys : List Int) (fm : Int), σ = [some (.ref dl), some (.ref lt), some (.int (b : Int)), some (.ref L), some (.ref y), some (.int fm), none, none, none, none, none, none, none, none] ∧ SsI dl l H H2 ds L y pts ys fm) (fun D' hD' => ?_) ?_
    · have hl1 := hl.kept k1 D0
      refine ⟨_, rfl, _, rfl, lt, _, rfl, .inr (SqT.of hl1), dl, l, ds.length, ?_, D1, by omega, fun y H3 ys hy D3 k3 hy3 hyl hyb => ?_⟩
      · rw [hdl]
        rfl
      refine ⟨_, rfl, dl, l, 8, rfl, D3, by decide, by decide, fun r H4 hr0 hr1 D4 k4 => ⟨(by show 2 ≤ sizeLine; omega), fun T1 hT => ?_⟩⟩
      have sT := new_same (o := .tup [V.ref y, .int r]) hT
      refine ⟨T1, _, rfl, SqT.of upd_same, rfl, _, _, rfl, _, _, rfl, rfl, hD' _ _ ⟨y, ys, r, rfl, ?_⟩⟩
      have k14 := k3.trans k4
      obtain ⟨_, _, _, g1, g2, _⟩ := D0.ex
      have nLl : L ≠ l := fun z => by rw [z, g2] at hLn; cases hLn
      have nLd : L ≠ dl := fun z => by rw [z, g1] at hLn; cases hLn
      exact ⟨D4.same sT, (k1.trans k14).trans (Kept.of sT), (hp1.kept k14 D1 nLl).same sT, (hy3.kept k4 D3).same sT, hyl, hyb, fun x hx => (hsm x hx).2.ok (hsm x hx).1, fun _ x hx => (hsm x hx).2, hLn, nLd, nLl⟩
    clear D1 k1 hp1 hLn
    rintro σ H2 ⟨y, ys, fm, rfl, I2⟩
    -- moved
    refine seq_by (fun σ H3 => ∃ (L : Addr) (pts : List (List Int)), σ = [some (.ref dl), some (.ref lt), some (.int (b : Int)), some (.ref L), some (.ref y), some (.int fm), none, none, none, none, none, none, none, none] ∧ SsI dl l H H3 ds L y pts ys fm ∧ pts.length = n) (fun D' hD' => ?_) ?_
    · refine ⟨_, rfl, (by show 2 ≤ sizeLine; omega), fun t ht => ⟨t, _, rfl, .inr (SqT.of upd_same), rfl, rfl, _, rfl, ?_⟩⟩
      have I3 := I2.sm' (new_same (o := .tup [V.int 0, .int 1]) ht)
      generalize upd H2 t (.tup [V.int 0, .int 1]) = H3 at I3 ⊢
      refine ite2 (fun z => ?_) (fun z => hD' _ _ ⟨L, pts, rfl, I3, hpl⟩)
      have hf4 : fm ≠ 4 := fun e => by subst e; exact absurd z (by decide)
      obtain ⟨ws, hws⟩ : ∃ ws, LTV H3 L ws pts := I3.p.lenV
      refine ⟨_, rfl, L, rfl, ⟨_, SqL.of hws.1⟩, fun D hD => ?_⟩
      refine lc_list (xs := ws) (fun i H4 => Same H3 H4 ∧ LTI H4 D ((pts.take i).map fun x => (List.range ds.length).map fun j => x.getD j 0 + ys.getD j 0)) ⟨new_same hD, [], upd_same, rfl, fun i xs e => by simp at e⟩ (fun i H4 _ h => SqL.of (hws.same h.1).1) ?_ ?_
      · rintro i u H4 hu ⟨s4, h4⟩
        obtain ⟨p, x, hi, hpx, rfl, hp⟩ := (hws.same s4).at hu
        have hxx := I3.x x (List.mem_of_getElem? hpx)
        have hy4 := I3.y.same s4
        refine ⟨rfl, ?_⟩
        dsimp only [tYes]
        rw [if_pos rfl]
        refine ⟨_, rfl, _, rfl, true, true, p, y, _, _, rfl, sqK_t (SqT.of hp), sqK_t (SqT.of hy4), fun D2 hD2 => ?_⟩
        have hx1 : (x.map V.int).length = ds.length := by rw [List.length_map, hxx.1]
        have hy1 : (ys.map V.int).length = ds.length := by rw [List.length_map, I3.yl]
        refine lc_it (walk_zipK (xs := x.map V.int) (ys := ys.map V.int) (by rw [hx1, hy1])) (fun j H5 => Same H4 H5 ∧ LI H5 D2 ((List.range j).map fun j => x.getD j 0 + ys.getD j 0)) ⟨new_same hD2, upd_same⟩ (fun j H5 _ h => ⟨sqK_t (SqT.of (hp.same h.1)), sqK_t (SqT.of (hy4.same h.1))⟩) ?_ ?_
        · rintro j v H5 H6 hj ⟨s5, h5⟩ ⟨T2, y1, y2, rfl, hT2, rfl, hy1', hy2'⟩
          rw [hx1] at hj
          have hy1' : (x.map V.int)[j]? = some y1 := hy1'
          have hy2' : (ys.map V.int)[j]? = some y2 := hy2'
          have hxj : x[j]? = some (x.getD j 0) := by rw [List.getD_eq_getElem?_getD, List.getElem?_eq_getElem (show j < x.length by rw [hxx.1]; omega)]; rfl
          have hyj : ys[j]? = some (ys.getD j 0) := by rw [List.getD_eq_getElem?_getD, List.getElem?_eq_getElem (show j < ys.length by rw [I3.yl]; omega)]; rfl
          rw [map_at_int hxj] at hy1'
          rw [map_at_int hyj] at hy2'
          obtain rfl := Option.some.inj hy1'
          obtain rfl := Option.some.inj hy2'
          have st := new_same (o := .tup [V.int (x.getD j 0), .int (ys.getD j 0)]) hT2
          have s6 := s5.trans st
          have h6 := h5.same st
          refine ⟨T2, _, rfl, SqT.of upd_same, rfl, _, _, rfl, _, _, rfl, rfl, rfl, ?_⟩
          dsimp only [tYes]
          rw [if_pos rfl]
          generalize upd H5 T2 (.tup [V.int (x.getD j 0), .int (ys.getD j 0)]) = H6 at s6 h6 ⊢
          refine ⟨_, rfl, _, rfl, _, _, rfl, rfl, ?_⟩
          refine ⟨_, h6, by rw [List.length_map, List.length_map, List.length_range]; omega, same_up s6 hD2, ?_⟩
          rw [List.range_succ, List.map_append]
          exact li_snoc
        · rintro H5 ⟨s5, h5⟩
          rw [hx1] at h5
          refine ⟨D2, _, rfl, .inl ⟨SqL.of h5, fun t2 ht2 => ?_⟩⟩
          have st := new_same (o := .tup (((List.range ds.length).map fun j => x.getD j 0 + ys.getD j 0).map V.int)) ht2
          have s45 := s5.trans st
          obtain ⟨acc, c1, c2, c3⟩ := lti_app (h4.same s45) (p := t2) (xs := (List.range ds.length).map fun j => x.getD j 0 + ys.getD j 0) upd_same (by rw [List.length_map, List.length_take]; omega)
          refine ⟨acc, c1, c2, same_up (s4.trans s45) hD, ?_⟩
          rw [List.take_succ, hpx, List.map_append]
          exact c3
      · rintro H4 ⟨s4, h4⟩
        rw [hws.2.1, List.take_length] at h4
        refine hD' _ _ ⟨D, _, rfl, I3.list (I3.d.same s4) (Kept.of s4) hD h4 (fun x hx => ?_) (fun e => absurd e hf4), by rw [List.length_map, hpl]⟩
        obtain ⟨x', hx', rfl⟩ := List.mem_map.mp hx
        have h0 := (hsm x' hx').2
        refine xs_range (n := ds.length) (fun j => x'.getD j 0 + ys.getD j 0) rfl fun j _ => ?_
        have h1 := h0 j
        have h2 := I3.yb j
        omega
    clear I2 hsm hpl pts L
    rintro σ H3 ⟨L, pts, rfl, I3, hpl⟩
    -- one left out
    refine seq_by (fun σ H4 => ∃ (pts : List (List Int)), σ = [some (.ref dl), some (.ref lt), some (.int (b : Int)), some (.ref L), some (.ref y), some (.int fm), none, none, none, none, none, none, none, none] ∧ SsI dl l H H4 ds L y pts ys fm ∧ pts.length ≤ n) (fun D' hD' => ?_) ?_
    · refine ⟨_, rfl, (by show 2 ≤ sizeLine; omega), fun t ht => ⟨t, _, rfl, .inr (SqT.of upd_same), rfl, rfl, _, rfl, ?_⟩⟩
      have I4 := I3.sm' (new_same (o := .tup [V.int 1, .int 2]) ht)
      generalize upd H3 t (.tup [V.int 1, .int 2]) = H4 at I4 ⊢
      refine ite2 (fun z => ?_) (fun z => hD' _ _ ⟨pts, rfl, I4, by omega⟩)
      obtain ⟨as0, a1, a2, _⟩ := id I4.p
      refine ⟨_, rfl, .inl ⟨rfl, _, SqL.of a1⟩, _, rfl, _, rfl, L, _, rfl, .inl (SqL.of a1), dl, l, ((pts.length : Nat) : Int), ?_, I4.d, by omega, by omega, fun r H5 hr0 hr1 D5 k5 => ?_⟩
      · rw [List.length_map, a2]
        rfl
      have I5 := I4.go D5 k5
      obtain ⟨as, e1, e2, e3⟩ := id I5.p
      obtain ⟨k, rfl⟩ : ∃ k : Nat, r = (k : Int) := ⟨r.toNat, by omega⟩
      have hk : k < pts.length := by omega
      obtain ⟨p, q1, q2⟩ := e3 k _ (List.getElem?_eq_getElem hk)
      refine ⟨L, _, _, k, .ref p, rfl, rfl, e1, by omega, by omega, ?_, by rw [List.getElem?_map, q1]; rfl, ?_⟩
      · have := seqIndex_of (k := (k : Int)) (n := (as.map V.ref).length) (by omega) (by rw [List.length_map]; omega)
        rw [this]
        rfl
      refine hD' _ _ ⟨pts.eraseIdx k, rfl, I5.put e1 (lti_erase (k := k) e1 e2 e3) (fun x hx => I5.x x (mem_eraseX hx)) (fun e x hx => I5.sm e x (mem_eraseX hx)), ?_⟩
      rw [List.length_eraseIdx, if_pos hk]
      omega
    clear I3 hpl pts
    rintro σ H4 ⟨pts, rfl, I4, hpl⟩
    -- drawn ones
    refine seq_by (fun σ H5 => ∃ (L : Addr) (pts : List (List Int)), σ = [some (.ref dl), some (.ref lt), some (.int (b : Int)), some (.ref L), some (.ref y), some (.int fm), none, none, none, none, none, none, none, none] ∧ SsI dl l H H5 ds L y pts ys fm ∧ pts.length ≤ n) (fun D' hD' => ?_) ?_
    · refine ⟨_, rfl, rfl, _, rfl, ?_⟩
      refine ite2 (fun z => ?_) (fun z => hD' _ _ ⟨L, pts, rfl, I4, hpl⟩)
      obtain ⟨ws, hws⟩ : ∃ ws, LTV H4 L ws pts := I4.p.lenV
      refine ⟨_, rfl, L, rfl, ⟨_, SqL.of hws.1⟩, fun D hD => ?_⟩
      obtain ⟨nDd, nDl⟩ := I4.d.free hD
      refine lc_list (xs := ws) (fun i H5 => Deal H5 dl l ∧ Kept dl l H4 H5 ∧ ∃ qs : List (List Int), LTI H5 D qs ∧ qs.length = i ∧ ∀ x ∈ qs, x.length = ds.length ∧ Small x) ⟨I4.d.new hD, Kept.of (new_same hD), [], ⟨[], upd_same, rfl, fun i xs e => by simp at e⟩, rfl, fun x hx => absurd hx (by simp)⟩ (fun i H5 _ h => SqL.of (hws.kept h.2.1 I4.d I4.n2).1) ?_ ?_
      · rintro i u H5 hu ⟨D5, k5, qs, h5, hql, hqs⟩
        have hi : i < pts.length := by
          have := (List.getElem?_eq_some_iff.mp hu).1
          rw [hws.2.1] at this
          exact this
        have hy5 := I4.y.kept k5 I4.d
        refine ⟨rfl, ?_⟩
        dsimp only [tYes]
        rw [if_pos rfl]
        refine ⟨_, rfl, y, rfl, ⟨_, SqT.of hy5⟩, fun D2 hD2 => ?_⟩
        obtain ⟨n2d, n2l⟩ := D5.free hD2
        refine lc_tup (xs := ys.map V.int) (fun j H6 => Deal H6 dl l ∧ Kept dl l H5 H6 ∧ ∃ xs : List Int, LI H6 D2 xs ∧ xs.length = j ∧ Small xs) ⟨D5.new hD2, Kept.of (new_same hD2), [], upd_same, rfl, bd_nil (by decide)⟩ (fun j H6 _ h => SqT.of (hy5.kept h.2.1 D5)) ?_ ?_
        · rintro j v H6 hv ⟨D6, k6, xs, h6, hxl, hxs⟩
          have hj : j < ys.length := by
            have := (List.getElem?_eq_some_iff.mp hv).1
            rw [List.length_map] at this
            exact this
          have hyl := I4.yl
          refine ⟨rfl, ?_⟩
          dsimp only [tYes]
          rw [if_pos rfl]
          refine ⟨_, rfl, dl, l, 16, rfl, D6, by decide, by decide, fun r H7 hr0 hr1 D7 k7 => ⟨_, _, rfl, rfl, ?_⟩⟩
          have h7 := h6.kept k7 D6 n2l
          refine ⟨_, h7, by rw [List.length_map]; omega, D7.other n2d n2l, (k6.trans k7).new hD2, xs ++ [r - 5], li_snoc, by rw [List.length_append, hxl]; rfl, bd_snoc (by decide) hxs (by omega) (by omega)⟩
        · rintro H6 ⟨D6, k6, xs, h6, hxl, hxs⟩
          rw [List.length_map, I4.yl] at hxl
          refine ⟨D2, _, rfl, .inl ⟨SqL.of h6, fun t2 ht2 => ?_⟩⟩
          have st := new_same (o := .tup (xs.map V.int)) ht2
          have h5' := (h5.kept k6 D5 nDl).same st
          obtain ⟨acc, c1, c2, c3⟩ := lti_app h5' (p := t2) (xs := xs) upd_same (by omega)
          refine ⟨acc, c1, c2, (D6.same st).other nDd nDl, ((k5.trans k6).trans (Kept.of st)).new hD, qs ++ [xs], c3, by rw [List.length_append, hql]; rfl, fun x hx => ?_⟩
          rcases List.mem_append.mp hx with hx | hx
          · exact hqs x hx
          · rw [List.mem_singleton.mp hx]
            exact ⟨hxl, hxs⟩
      · rintro H5 ⟨D5, k5, qs, h5, hql, hqs⟩
        rw [hws.2.1] at hql
        exact hD' _ _ ⟨D, qs, rfl, I4.list D5 k5 hD h5 (fun x hx => (hqs x hx).2.ok (hqs x hx).1) (fun _ x hx => (hqs x hx).2), by omega⟩
    clear I4 hpl pts L
    rintro σ H5 ⟨L, pts, rfl, I5, hpl⟩
    -- an odd number of times
    refine seq_by (fun σ H6 => ∃ (L : Addr) (pts : List (List Int)) (a10 : Option V), σ = [some (.ref dl), some (.ref lt), some (.int (b : Int)), some (.ref L), some (.ref y), some (.int fm), none, none, none, none, a10, none, none, none] ∧ SsI dl l H H6 ds L y pts ys 0 ∧ pts.length ≤ n) (fun D' hD' => ?_) ?_
    · have I50 : SsI dl l H H5 ds L y pts ys 0 := ⟨I5.d, I5.k, I5.p, I5.y, I5.yl, I5.yb, I5.x, fun e => absurd e (by decide), I5.f, I5.n1, I5.n2⟩
      refine ⟨_, rfl, rfl, _, rfl, ?_⟩
      refine ite2 (fun z => ?_) (fun z => hD' _ _ ⟨L, pts, none, rfl, I50, hpl⟩)
      have hsmall := I5.sm (V.int.inj (of_decide_eq_true z))
      refine seq_by (fun σ H6 => ∃ o : Int, 1 ≤ o ∧ o < 200 ∧ σ = [some (.ref dl), some (.ref lt), some (.int (b : Int)), some (.ref L), some (.ref y), some (.int fm), none, none, none, none, some (.int o), none, none, none] ∧ SsI dl l H H6 ds L y pts ys 0) (fun D'' hD'' => ?_) ?_
      · refine ⟨_, rfl, dl, l, 50, rfl, I50.d, by decide, by decide, fun r H6 hr0 hr1 D6 k6 => ?_⟩
        exact ⟨_, _, rfl, rfl, .inl ⟨by omega, by omega⟩, _, _, rfl, rfl, hD'' _ _ ⟨2 * r + 1, by omega, by omega, rfl, I50.go D6 k6⟩⟩
      rintro σ H6 ⟨o, ho1, ho2, rfl, I6⟩
      obtain ⟨ws, hws⟩ : ∃ ws, LTV H6 L ws pts := I6.p.lenV
      refine ⟨_, rfl, L, rfl, ⟨_, SqL.of hws.1⟩, fun D hD => ?_⟩
      refine lc_list (xs := ws) (fun i H7 => Same H6 H7 ∧ LTI H7 D ((pts.take i).map fun x => (List.range ds.length).map fun j => o * x.getD j 0)) ⟨new_same hD, [], upd_same, rfl, fun i xs e => by simp at e⟩ (fun i H7 _ h => SqL.of (hws.same h.1).1) ?_ ?_
      · rintro i u H7 hu ⟨s7, h7⟩
        obtain ⟨p, x, hi, hpx, rfl, hp⟩ := (hws.same s7).at hu
        have hxx := I6.x x (List.mem_of_getElem? hpx)
        refine ⟨rfl, ?_⟩
        dsimp only [tYes]
        rw [if_pos rfl]
        refine ⟨_, rfl, p, rfl, ⟨_, SqT.of hp⟩, fun D2 hD2 => ?_⟩
        have hx1 : (x.map V.int).length = ds.length := by rw [List.length_map, hxx.1]
        refine lc_tup (xs := x.map V.int) (fun j H8 => Same H7 H8 ∧ LI H8 D2 ((List.range j).map fun j => o * x.getD j 0)) ⟨new_same hD2, upd_same⟩ (fun j H8 _ h => SqT.of (hp.same h.1)) ?_ ?_
        · rintro j v H8 hv ⟨s8, h8⟩
          have hj : j < ds.length := by
            have := (List.getElem?_eq_some_iff.mp hv).1
            omega
          have hxj : x[j]? = some (x.getD j 0) := by rw [List.getD_eq_getElem?_getD, List.getElem?_eq_getElem (show j < x.length by rw [hxx.1]; omega)]; rfl
          rw [map_at_int hxj] at hv
          obtain rfl := Option.some.inj hv
          refine ⟨rfl, ?_⟩
          dsimp only [tYes]
          rw [if_pos rfl]
          refine ⟨_, rfl, _, rfl, _, _, rfl, rfl, .inl ⟨by omega, by omega⟩, ?_⟩
          refine ⟨_, h8, by rw [List.length_map, List.length_map, List.length_range]; omega, same_up s8 hD2, ?_⟩
          rw [List.range_succ, List.map_append]
          exact li_snoc
        · rintro H8 ⟨s8, h8⟩
          rw [hx1] at h8
          refine ⟨D2, _, rfl, .inl ⟨SqL.of h8, fun t2 ht2 => ?_⟩⟩
          have st := new_same (o := .tup (((List.range ds.length).map fun j => o * x.getD j 0).map V.int)) ht2
          have s78 := s8.trans st
          obtain ⟨acc, c1, c2, c3⟩ := lti_app (h7.same s78) (p := t2) (xs := (List.range ds.length).map fun j => o * x.getD j 0) upd_same (by rw [List.length_map, List.length_take]; omega)
          refine ⟨acc, c1, c2, same_up (s7.trans s78) hD, ?_⟩
          rw [List.take_succ, hpx, List.map_append]
          exact c3
      · rintro H7 ⟨s7, h7⟩
        rw [hws.2.1, List.take_length] at h7
        refine hD' _ _ ⟨D, _, _, rfl, I6.list (I6.d.same s7) (Kept.of s7) hD h7 (fun x hx => ?_) (fun e => absurd e (by decide)), by rw [List.length_map]; exact hpl⟩
        obtain ⟨x', hx', rfl⟩ := List.mem_map.mp hx
        refine xs_range (n := ds.length) (fun j => o * x'.getD j 0) rfl fun j _ => ?_
        have h1 := hsmall x' hx' j
        have h2 : o * x'.getD j 0 ≤ o * 2 ^ 20 := Int.mul_le_mul_of_nonneg_left (by omega) (by omega)
        have h3 : o * (-(2 ^ 20)) ≤ o * x'.getD j 0 := Int.mul_le_mul_of_nonneg_left (by omega) (by omega)
        omega
    clear I5 hpl pts L
    rintro σ H6 ⟨L, pts, a10, rfl, I6, hpl⟩
    have hyn : ys ≠ [] := fun z => by
      have := I6.yl
      rw [z] at this
      simp at this
      omega
    have hyl := I6.yl
    have hyb : Bd (2 ^ 100) ys := I6.yb
    -- one coordinate counts
    refine seq_by (fun σ H7 => ∃ (L : Addr) (pts : List (List Int)), σ = [some (.ref dl), some (.ref lt), some (.int (b : Int)), some (.ref L), some (.ref y), some (.int fm), none, none, none, none, a10, none, none, none] ∧ SsI dl l H H7 ds L y pts ys 0 ∧ pts.length ≤ n + 1) (fun D' hD' => ?_) ?_
    · refine ⟨_, rfl, rfl, _, rfl, ?_⟩
      refine ite2 (fun z => ?_) (fun z => hD' _ _ ⟨L, pts, rfl, I6, by omega⟩)
      obtain ⟨as0, a1, a2, _⟩ := id I6.p
      refine ⟨_, rfl, L, _, rfl, .inl (SqL.of a1), _, _, rfl, rfl, ((pts.length + 1 : Nat) : Int), ?_, by omega, by omega, ?_⟩
      · rw [List.length_map, a2]
        rfl
      rw [Int.toNat_natCast]
      intro D hD
      refine lc_range (lo := 0) (n := pts.length + 1) (fun i H7 => Same H6 H7 ∧ LTI H7 D ((List.range i).map fun (k : Nat) => (k : Int) :: ys.drop 1)) ⟨new_same hD, [], upd_same, rfl, fun i xs e => by simp at e⟩ ?_ ?_
      · rintro i H7 hi ⟨s7, h7⟩
        refine ⟨rfl, ?_⟩
        dsimp only [tYes]
        rw [if_pos rfl]
        refine ⟨_, rfl, (by show 1 ≤ sizeLine; omega), fun t ht => ?_⟩
        have st := new_same (o := .tup [V.int (0 + (i : Int))]) ht
        have hti : TupI (upd H7 t (.tup [V.int (0 + (i : Int))])) t [(i : Int)] := by
          show upd _ t _ t = _
          rw [upd_same, Int.zero_add]
          rfl
        have s8 := s7.trans st
        have h8 := h7.same st
        generalize upd H7 t (.tup [V.int (0 + (i : Int))]) = H8 at s8 h8 hti ⊢
        refine ⟨_, rfl, _, rfl, ?_⟩
        dsimp only [tNoPart]
        refine cutA_use (I6.y.same s8) (cut_tail ys) fun t2 H9 s9 ht2 => ?_
        refine catA_use (hti.same s9) ht2 (by rw [List.length_drop]; show 1 + _ ≤ _; omega) fun t3 H10 s10 ht3 => ?_
        have s810 := s9.trans s10
        obtain ⟨acc, c1, c2, c3⟩ := lti_app (h8.same s810) ht3 (by rw [List.length_map, List.length_range]; omega)
        refine ⟨acc, c1, c2, same_up (s8.trans s810) hD, ?_⟩
        rw [List.range_succ, List.map_append]
        exact c3
      · rintro H7 ⟨s7, h7⟩
        refine hD' _ _ ⟨D, _, rfl, I6.list (I6.d.same s7) (Kept.of s7) hD h7 (fun x hx => ?_) (fun e => absurd e (by decide)), by rw [List.length_map, List.length_range]; omega⟩
        obtain ⟨k, hk, rfl⟩ := List.mem_map.mp hx
        have hk := List.mem_range.mp hk
        exact (bd_cons (bd_drop (by decide) hyb 1) (by omega) (by omega)).ok (by rw [List.length_cons, List.length_drop]; omega) (by omega)
    clear I6 hpl pts L
    rintro σ H7 ⟨L, pts, rfl, I7, hpl⟩
    refine seq_by (fun σ H8 => ∃ (L : Addr) (pts : List (List Int)), σ = [some (.ref dl), some (.ref lt), some (.int (b : Int)), some (.ref L), some (.ref y), some (.int fm), none, none, none, none, a10, none, none, none] ∧ SsI dl l H H8 ds L y pts ys 0 ∧ pts.length ≤ n + 1) (fun D' hD' => ?_) ?_
    · refine ⟨_, rfl, rfl, _, rfl, ?_⟩
      refine ite2 (fun z => ?_) (fun z => hD' _ _ ⟨L, pts, rfl, I7, hpl⟩)
      obtain ⟨as0, a1, a2, _⟩ := id I7.p
      refine ⟨_, rfl, L, _, rfl, .inl (SqL.of a1), ((pts.length : Nat) : Int), ?_, by omega, by omega, ?_⟩
      · rw [List.length_map, a2]
      rw [Int.toNat_natCast]
      intro D hD
      refine lc_range (lo := 0) (n := pts.length) (fun i H8 => Same H7 H8 ∧ LTI H8 D ((List.range i).map fun (k : Nat) => ys.take (ys.length - 1) ++ [(k : Int)])) ⟨new_same hD, [], upd_same, rfl, fun i xs e => by simp at e⟩ ?_ ?_
      · rintro i H8 hi ⟨s8, h8⟩
        refine ⟨rfl, ?_⟩
        dsimp only [tYes]
        rw [if_pos rfl]
        refine ⟨_, rfl, _, rfl, _, rfl, ?_⟩
        dsimp only [tNoPart]
        refine cutA_use (I7.y.same s8) (cut_init ys hyn) fun t2 H9 s9 ht2 => ?_
        refine ⟨_, rfl, (by show 1 ≤ sizeLine; omega), fun t ht => ?_⟩
        have st := new_same (o := .tup [V.int (0 + (i : Int))]) ht
        have hti : TupI (upd H9 t (.tup [V.int (0 + (i : Int))])) t [(i : Int)] := by
          show upd _ t _ t = _
          rw [upd_same, Int.zero_add]
          rfl
        refine catA_use (ht2.same st) hti (by rw [List.length_take]; show _ + 1 ≤ _; omega) fun t3 H10 s10 ht3 => ?_
        have s810 := (s9.trans st).trans s10
        obtain ⟨acc, c1, c2, c3⟩ := lti_app (h8.same s810) ht3 (by rw [List.length_map, List.length_range]; omega)
        refine ⟨acc, c1, c2, same_up (s8.trans s810) hD, ?_⟩
        rw [List.range_succ, List.map_append]
        exact c3
      · rintro H8 ⟨s8, h8⟩
        refine hD' _ _ ⟨D, _, rfl, I7.list (I7.d.same s8) (Kept.of s8) hD h8 (fun x hx => ?_) (fun e => absurd e (by decide)), by rw [List.length_map, List.length_range]; omega⟩
        obtain ⟨k, hk, rfl⟩ := List.mem_map.mp hx
        have hk := List.mem_range.mp hk
        exact (bd_snoc (by decide) (bd_take (by decide) hyb _) (by omega) (by omega)).ok (by rw [List.length_append, List.length_take]; show _ + 1 = _; omega) (by omega)
    clear I7 hpl pts L
    rintro σ H8 ⟨L, pts, rfl, I8, hpl⟩
    -- others put in
    have hyok : XsOk ds ys := Bd.ok hyb hyl (by omega)
    refine ⟨_, rfl, dl, l, 4, rfl, I8.d, by decide, by decide, fun r H9 hr0 hr1 D9 k9 => ?_⟩
    have I9 := I8.go D9 k9
    obtain ⟨N, rfl⟩ : ∃ N : Nat, r = (N : Int) := ⟨r.toNat, by omega⟩
    refine ⟨_, rfl, by omega, by omega, ?_⟩
    rw [Int.toNat_natCast]
    refine for_range (lo := 0) (n := N) (fun i σ H10 => ∃ (pts : List (List Int)) (a12 a13 : Option V), σ = [some (.ref dl), some (.ref lt), some (.int (b : Int)), some (.ref L), some (.ref y), some (.int fm), none, none, none, none, a10, none, a12, a13] ∧ SsI dl l H H10 ds L y pts ys 0 ∧ pts.length ≤ n + 1 + i)
      ⟨pts, none, none, rfl, I9, hpl⟩ ?_ ?_
    · clear I8 I9 hpl pts D9 k9
      rintro i σ H10 hi ⟨pts, a12, a13, rfl, I10, hpl⟩
      refine seq_by (fun σ H11 => ∃ (M : Addr) (qs : List (List Int)), σ = [some (.ref dl), some (.ref lt), some (.int (b : Int)), some (.ref L), some (.ref y), some (.int fm), none, none, none, none, a10, none, some (.int (0 + (i : Int))), some (.ref M)] ∧ SsI dl l H H11 ds L y pts ys 0 ∧ LTI H11 M qs ∧ M ≠ l ∧ 0 < qs.length ∧ qs.length ≤ 3 ∧ ∀ x ∈ qs, XsOk ds x) (fun D'' hD'' => ?_) ?_
      · refine ⟨_, rfl, _, rfl, y, rfl, ⟨_, SqT.of I10.y⟩, fun D2 hD2 => ?_⟩
        obtain ⟨n2d, n2l⟩ := I10.d.free hD2
        refine lc_tup (xs := ys.map V.int) (fun j H11 => Deal H11 dl l ∧ Kept dl l H10 H11 ∧ ∃ xs : List Int, LI H11 D2 xs ∧ xs.length = j ∧ Small xs) ⟨I10.d.new hD2, Kept.of (new_same hD2), [], upd_same, rfl, bd_nil (by decide)⟩ (fun j H11 _ h => SqT.of (I10.y.kept h.2.1 I10.d)) ?_ ?_
        · rintro j v H11 hv ⟨D11, k11, xs, h11, hxl, hxs⟩
          have hj : j < ys.length := by
            have := (List.getElem?_eq_some_iff.mp hv).1
            rw [List.length_map] at this
            exact this
          refine ⟨rfl, ?_⟩
          dsimp only [tYes]
          rw [if_pos rfl]
          refine ⟨_, rfl, dl, l, 16, rfl, D11, by decide, by decide, fun r H12 hr0 hr1 D12 k12 => ?_⟩
          have h12 := h11.kept k12 D11 n2l
          refine ⟨_, h12, by rw [List.length_map]; omega, D12.other n2d n2l, (k11.trans k12).new hD2, xs ++ [r], li_snoc, by rw [List.length_append, hxl]; rfl, bd_snoc (by decide) hxs (by omega) (by omega)⟩
        · rintro H11 ⟨D11, k11, xs, h11, hxl, hxs⟩
          rw [List.length_map, hyl] at hxl
          refine ⟨D2, _, rfl, .inl ⟨SqL.of h11, fun t2 ht2 => ?_⟩⟩
          have st := new_same (o := .tup (xs.map V.int)) ht2
          have I11 := (I10.go D11 k11).sm' st
          have ht3 : TupI (upd H11 t2 (.tup (xs.map V.int))) t2 xs := upd_same
          generalize upd H11 t2 (.tup (xs.map V.int)) = H12 at I11 ht3 ⊢
          refine ⟨(by show 2 ≤ sizeLine; omega), fun Z hZ => ?_⟩
          have sZ := new_same (o := .lst [V.ref y, .ref t2]) hZ
          have I12 := I11.sm' sZ
          obtain ⟨as, e1, e2, e3⟩ := id I12.p
          refine ⟨_, rfl, _, rfl, L, _, rfl, SqL.of e1, fun G hG => ?_⟩
          have sG := new_same (o := .lst (cutV (as.map V.ref) none (some 1))) hG
          have I13 := I12.sm' sG
          have hZ2 := sG Z _ upd_same
          have hG2 : upd (upd H12 Z (.lst [V.ref y, .ref t2])) G (.lst (cutV (as.map V.ref) none (some 1))) G = some (.lst ((as.take 1).map V.ref)) := by
            rw [upd_same, cut_first, List.map_take]
          have ht4 := (ht3.same sZ).same sG
          generalize upd (upd H12 Z (.lst [V.ref y, .ref t2])) G (.lst (cutV (as.map V.ref) none (some 1))) = H13 at I13 hZ2 hG2 ht4 sG ⊢
          have hal : (as.take 1).length ≤ 1 := by rw [List.length_take]; omega
          refine ⟨Z, G, _, _, rfl, rfl, hZ2, hG2, (by rw [List.length_map]; show 2 + _ ≤ sizeLine; omega), fun M hM => ?_⟩
          have sM := new_same (o := .lst ([V.ref y, .ref t2] ++ (as.take 1).map V.ref)) hM
          have I14 := I13.sm' sM
          refine hD'' _ _ ⟨M, [ys, xs] ++ pts.take 1, rfl, I14, ⟨[y, t2] ++ as.take 1, ?_, ?_, fun j zs e => ?_⟩, (I13.d.free hM).2, by simp, by rw [List.length_append, List.length_take]; show 2 + _ ≤ 3; omega, fun x hx => ?_⟩
          · rw [upd_same, List.map_append]
            rfl
          · rw [List.length_append, List.length_append, List.length_take, List.length_take, e2]
            rfl
          · match j, e with
            | 0, e =>
              obtain rfl : ys = zs := Option.some.inj e
              exact ⟨y, rfl, I14.y⟩
            | 1, e =>
              obtain rfl : xs = zs := Option.some.inj e
              exact ⟨t2, rfl, ht4.same sM⟩
            | j + 2, e =>
              have e : (pts.take 1)[j]? = some zs := e
              rw [List.getElem?_take] at e
              by_cases hj : j < 1
              · rw [if_pos hj] at e
                obtain ⟨p, q1, q2⟩ := e3 j zs e
                refine ⟨p, ?_, (q2.same sG).same sM⟩
                show (as.take 1)[j]? = some p
                rw [List.getElem?_take, if_pos hj]
                exact q1
              · rw [if_neg hj] at e
                cases e
          · rcases List.mem_append.mp hx with hx | hx
            · rcases List.mem_cons.mp hx with rfl | hx
              · exact hyok
              · rw [List.mem_singleton.mp hx]
                exact Small.ok hxs hxl
            · exact I14.x x (List.mem_of_mem_take hx)
      rintro σ H11 ⟨M, qs, rfl, I11, hM, nMl, hq0, hq3, hqx⟩
      refine seq_by (fun σ H12 => ∃ (p : Addr) (x : List Int), σ = [some (.ref dl), some (.ref lt), some (.int (b : Int)), some (.ref L), some (.ref y), some (.int fm), none, none, none, none, a10, none, some (.int (0 + (i : Int))), some (.ref p)] ∧ SsI dl l H H12 ds L y pts ys 0 ∧ TupI H12 p x ∧ XsOk ds x) (fun D'' hD'' => ?_) ?_
      · obtain ⟨ms, m1, m2, _⟩ := id hM
        refine ⟨_, rfl, _, rfl, _, rfl, M, _, rfl, .inl (SqL.of m1), dl, l, ((qs.length : Nat) : Int), ?_, I11.d, by omega, by omega, fun r H12 hr0 hr1 D12 k12 => ?_⟩
        · rw [List.length_map, m2]
          rfl
        have hM12 := hM.kept k12 I11.d nMl
        obtain ⟨ms, m1, m2, m3⟩ := hM12
        obtain ⟨k, rfl⟩ : ∃ k : Nat, r = (k : Int) := ⟨r.toNat, by omega⟩
        have hk : k < qs.length := by omega
        obtain ⟨p, q1, q2⟩ := m3 k _ (List.getElem?_eq_getElem hk)
        exact ⟨M, _, _, _, rfl, rfl, SqL.of m1, atI_nat (by rw [List.getElem?_map, q1]; rfl), hD'' _ _ ⟨p, qs[k], rfl, I11.go D12 k12, q2, hqx _ (List.getElem_mem hk)⟩⟩
      rintro σ H12 ⟨p, x, rfl, I12, hp, hx⟩
      obtain ⟨as0, a1, a2, _⟩ := id I12.p
      refine ⟨_, rfl, .inl ⟨rfl, _, SqL.of a1⟩, _, rfl, _, rfl, L, _, rfl, .inl (SqL.of a1), _, _, rfl, rfl, dl, l, ((pts.length + 1 : Nat) : Int), ?_, I12.d, by omega, by omega, fun r H13 hr0 hr1 D13 k13 => ?_⟩
      · rw [List.length_map, a2]
        rfl
      have I13 := I12.go D13 k13
      have hp13 := hp.kept k13 I12.d
      obtain ⟨as, e1, e2, e3⟩ := id I13.p
      obtain ⟨k, rfl⟩ : ∃ k : Nat, r = (k : Int) := ⟨r.toNat, by omega⟩
      have hins := lti_insert (k := k) e1 e2 e3 hp13 (by omega)
      refine ⟨_, rfl, L, _, (k : Int), .ref p, rfl, rfl, e1, by rw [List.length_map]; omega, by omega, by omega, ?_⟩
      rw [Int.toNat_natCast]
      have hmem : ∀ z ∈ pts.take k ++ [x] ++ pts.drop k, XsOk ds z := fun z hz => by
        rcases List.mem_append.mp hz with hz | hz
        · rcases List.mem_append.mp hz with hz | hz
          · exact I13.x z (List.mem_of_mem_take hz)
          · rw [List.mem_singleton.mp hz]
            exact hx
        · exact I13.x z (List.mem_of_mem_drop hz)
      refine ⟨_, _, _, rfl, I13.put e1 hins hmem (fun e => absurd e (by decide)), ?_⟩
      rw [List.length_append, List.length_append, List.length_take, List.length_drop]
      show min k pts.length + 1 + (pts.length - k) ≤ n + 1 + (i + 1)
      omega
    · rintro σ H10 ⟨pts, a12, a13, rfl, I10, hpl⟩
      exact ⟨_, rfl, kq L H10 pts I10.f I10.d I10.k I10.p I10.x (by omega)⟩
end
end My

set_option pp.maxSteps 300
set_option Elab.async false
set_option linter.all false
set_option maxRecDepth 100000
set_option maxHeartbeats 1000000
namespace My
open PySem L2 MyR
/-! ### what is due is what is seen -/
theorem due_run {ds : List Nat} {b : Nat} (ok : Sh37 ds b) : ∀ (pts : List (List Int)) (E : Eqs) (left : List (List Int)) (a : Nat), EchAll E → Left37 (2 ^ ds.sum) (pN ds b) (2 ^ (b - 1)) E left →
    Left37 (2 ^ ds.sum) (pN ds b) (2 ^ (b - 1)) (endK (pN ds b) E (pts.map (cv ds b))) (dueL ds b left pts) ∧ dueK ds b left a pts = keptK (pN ds b) E a (pts.map (cv ds b))
  | [], _, _, _, _, h => ⟨h, rfl⟩
  | x :: rest, E, left, a, hE, h => by
    have hc := cls_lt ok x
    have hv := oddV_lt ds b x
    have hw : ∀ i, i < 2 ^ ds.sum * pN ds b → decide (wI ds b x i % 2 = 1) = only37 (pN ds b) (clsN ds x) (oddV ds b x).testBit i := fun i hi => wt_mask (C := 2 ^ ds.sum) (plN b ds.length) (varsI ds x) i hi
    have hf : facL ds b x = (List.range (2 ^ ds.sum * pN ds b)).map (wI ds b x) := rfl
    rw [List.map_cons]
    show Left37 _ _ _ (endK (pN ds b) E ((clsN ds x, oddV ds b x) :: rest.map (cv ds b))) (dueL ds b (left.filter (told37 (b - 1) (facL ds b x))) rest) ∧ (if (left.filter (told37 (b - 1) (facL ds b x))).length < left.length then [a] else []) ++ dueK ds b (left.filter (told37 (b - 1) (facL ds b x))) (a + 1) rest = keptK (pN ds b) E a ((clsN ds x, oddV ds b x) :: rest.map (cv ds b))
    unfold endK keptK
    rw [hf]
    by_cases hr : redE (E (clsN ds x)) (pN ds b) (oddV ds b x) = 0
    · rw [if_pos hr, if_pos hr, left_same hE hc hv hw h hr, if_neg (Nat.lt_irrefl _)]
      obtain ⟨h1, h2⟩ := due_run ok rest E left (a + 1) hE h
      exact ⟨h1, h2⟩
    · rw [if_neg hr, if_neg hr, if_pos (left_less hE hc hv hw h hr)]
      obtain ⟨h1, h2⟩ := due_run ok rest _ _ (a + 1) (putE_ech hE hr) (left_put hE hc hv hw h hr)
      exact ⟨h1, congrArg (a :: ·) h2⟩
theorem due_seen {ds : List Nat} {b : Nat} (ok : Sh37 ds b) (pts : List (List Int)) : dueK ds b (allF (tHalf b) (2 ^ ds.sum * pN ds b)) 0 pts = seenK ds b pts ∧ ((dueL ds b (allF (tHalf b) (2 ^ ds.sum * pN ds b)) pts).length = 1 ↔ FullE ds b (seenE ds b pts)) := by
  have ht : (2 : Int) ^ (b - 1) ≠ 0 := fun z => by
    have := p2_pos (b - 1)
    omega
  obtain ⟨h1, h2⟩ := due_run ok pts E0 _ 0 E0_ech (left_all (2 ^ ds.sum) (pN ds b) ht)
  exact ⟨h2, left_one ht (end_ech _ _ _ E0_ech) h1⟩
/-! the points that are kept -/
def fewP (ds : List Nat) (b : Nat) (pts : List (List Int)) : List (List Int) := (seenK ds b pts).map fun k => pts.getD k []
theorem few_cv (ds : List Nat) (b : Nat) (pts : List (List Int)) : (fewP ds b pts).map (cv ds b) = fewK (pN ds b) E0 (pts.map (cv ds b)) := by
  rw [← kept_few (pN ds b) (cv ds b) [] pts E0 0]
  unfold fewP seenK
  rw [List.map_map]
  rfl
theorem few_seenE (ds : List Nat) (b : Nat) (pts : List (List Int)) : seenE ds b (fewP ds b pts) = seenE ds b pts := by
  unfold seenE
  rw [few_cv, few_end]
theorem rows_E0 (P : Nat) : ∀ C, rowsAll P C E0 = 0
  | 0 => rfl
  | C + 1 => by
    show rowsAll P C E0 + rows37 P (E0 C) = 0
    rw [rows_E0 P C, Nat.zero_add]
    exact rows_none P
theorem full_len {ds : List Nat} {b : Nat} (ok : Sh37 ds b) {pts : List (List Int)} (h : FullE ds b (seenE ds b pts)) : (seenK ds b pts).length = 2 ^ ds.sum * pN ds b := by
  have hv : ∀ z ∈ pts.map (cv ds b), z.1 < 2 ^ ds.sum ∧ z.2 < 2 ^ pN ds b := fun z hz => by
    obtain ⟨x, _, rfl⟩ := List.mem_map.mp hz
    exact ⟨cls_lt ok x, oddV_lt ds b x⟩
  have h1 := end_rows (2 ^ ds.sum) (pN ds b) (pts.map (cv ds b)) E0 E0_ech hv
  rw [rows_E0, Nat.zero_add] at h1
  unfold seenK
  rw [kept_len, ← h1]
  exact (rowsAll_full (pN ds b) _ (2 ^ ds.sum)).mpr h
theorem few_seenK {ds : List Nat} {b : Nat} (ok : Sh37 ds b) {pts : List (List Int)} (h : FullE ds b (seenE ds b pts)) : seenK ds b (fewP ds b pts) = List.range (2 ^ ds.sum * pN ds b) := by
  have hl := full_len ok h
  unfold seenK at hl ⊢
  rw [kept_len] at hl
  rw [few_cv, few_kept, hl, List.range_eq_range']
theorem few_less {ds : List Nat} {b : Nat} (ok : Sh37 ds b) {pts : List (List Int)} (h : FullE ds b (seenE ds b pts)) : ¬ FullE ds b (seenE ds b ((fewP ds b pts).drop 1)) := fun q => by
  have h1 := full_len ok h
  have h2 := full_len ok q
  have h3 : (seenK ds b ((fewP ds b pts).drop 1)).length ≤ ((fewP ds b pts).drop 1).length := by
    have := kept_le (pN ds b) (((fewP ds b pts).drop 1).map (cv ds b)) E0 0
    rw [List.length_map] at this
    exact this
  have h4 : (fewP ds b pts).length = (seenK ds b pts).length := by unfold fewP; rw [List.length_map]
  rw [List.length_drop, h4, h1] at h3
  have h5 : 1 ≤ 2 ^ ds.sum * pN ds b := Nat.mul_pos Nat.one_le_two_pow (pN_pos ok)
  omega
theorem seen_lt {ds : List Nat} {b : Nat} {pts : List (List Int)} {k : Nat} (h : k ∈ seenK ds b pts) : k < pts.length := by
  have := (kept_ge (pN ds b) _ _ _ _ h).2
  rw [List.length_map] at this
  omega
end My

set_option pp.maxSteps 300
set_option Elab.async false
set_option linter.all false
set_option maxRecDepth 100000
set_option maxHeartbeats 1000000
namespace My
open PySem L2 MyR
/-! ### whole numbers as data -/
def zD (xs : List Int) : List PyData := xs.map PyData.int
theorem zD_dp {K : PySem.W.Frag} {H : Hp} : ∀ xs : List Int, DpAll K H (xs.map V.int) (zD xs)
  | [] => .nil
  | x :: xs => .cons (.int x) (zD_dp xs)
theorem zD_lay : ∀ xs : List Int, PyData.canLayAll0 (zD xs) = true
  | [] => by simp [zD, PyData.canLayAll0]
  | x :: xs => by
    show PyData.canLayAll0 (.int x :: zD xs) = true
    rw [PyData.canLayAll0, PyData.canLay0, zD_lay xs]
    rfl
theorem zD_dep : ∀ xs : List Int, PyData.depthAll (zD xs) = 0
  | [] => by simp [zD, PyData.depthAll]
  | x :: xs => by
    show PyData.depthAll (.int x :: zD xs) = 0
    rw [PyData.depthAll, PyData.depth, zD_dep xs]
    rfl
theorem zD_layT (xs : List Int) : (PyData.tuple (zD xs)).canLay0 = true := by rw [PyData.canLay0]; exact zD_lay xs
theorem zD_shapeT (xs : List Int) : SeqAt.shaped (.tuple (zD xs)) = true := by
  unfold SeqAt.shaped
  rw [zD_layT, Bool.true_and]
  refine decide_eq_true ?_
  rw [PyData.depth, zD_dep]
  decide
theorem zD_eqT (xs ys : List Int) : PyData.eqv (.tuple (zD xs)) (.tuple (zD ys)) = decide (xs = ys) := by
  have e : PyData.eqv (.tuple (zD xs)) (.tuple (zD ys)) = PyData.eqvAll (zD xs) (zD ys) := by rw [PyData.eqv]
  rw [e]
  exact PySem.W.ked_eqvAll xs ys
theorem dI_inj : ∀ {xs ys : List Nat}, dI xs = dI ys → xs = ys
  | [], [], _ => rfl
  | [], _ :: _, h => by cases h
  | _ :: _, [], h => by cases h
  | x :: xs, y :: ys, h => by
    have h1 : (x : Int) :: dI xs = (y : Int) :: dI ys := h
    obtain ⟨h2, h3⟩ := List.cons.inj h1
    rw [dI_inj h3, Int.ofNat.inj h2]
structure RepOk (x : PyData) : Prop where
  s : x.showable = true
  n : x.hasDict = false
  d : x.depth ≤ 60
  l : x.shown.length ≤ sizeLine
theorem int_log {x : Int} (h : x.natAbs < 2 ^ 71) : x.natAbs.log2 < 71 := by
  by_cases e : x.natAbs = 0
  · rw [e]; decide
  · exact (Nat.log2_lt e).mpr h
theorem int_len {x : Int} (h : x.natAbs < 2 ^ 71) : (PyData.shown (.int x)).length ≤ 100 := by
  show (Str.ofString (toString x)).length ≤ 100
  rw [PyProof.Rows.ofString_len]
  exact Nat.le_trans (int_text_length_le (k := 71) (by decide) (int_log h)) (by decide)
theorem int_sh {x : Int} (h : x.natAbs < 2 ^ 71) : PyData.showable (.int x) = true := decide_eq_true (Nat.lt_trans (int_log h) (by decide))
theorem int_lv {x : Int} (h : x.natAbs < 2 ^ 71) : PyData.leavesShort 100 (.int x) = true := decide_eq_true (int_len h)
theorem zD_sh : ∀ {xs : List Int}, (∀ x ∈ xs, x.natAbs < 2 ^ 71) → PyData.showableAll (zD xs) = true
  | [], _ => rfl
  | x :: xs, h => by
    show (PyData.showable (.int x) && PyData.showableAll (zD xs)) = true
    rw [int_sh (h x (List.mem_cons_self ..)), zD_sh fun y hy => h y (List.mem_cons_of_mem _ hy)]
    rfl
theorem zD_lv : ∀ {xs : List Int}, (∀ x ∈ xs, x.natAbs < 2 ^ 71) → PyData.leavesShortAll 100 (zD xs) = true
  | [], _ => rfl
  | x :: xs, h => by
    show (PyData.leavesShort 100 (.int x) && PyData.leavesShortAll 100 (zD xs)) = true
    rw [int_lv (h x (List.mem_cons_self ..)), zD_lv fun y hy => h y (List.mem_cons_of_mem _ hy)]
    rfl
theorem zD_nd : ∀ xs : List Int, PyData.hasDictAll (zD xs) = false
  | [] => rfl
  | _ :: xs => zD_nd xs
theorem zD_blk : ∀ xs : List Int, PyData.bulkAll (zD xs) = xs.length
  | [] => rfl
  | x :: xs => by
    show 0 + 1 + PyData.bulkAll (zD xs) = xs.length + 1
    rw [zD_blk xs]
    omega
theorem tup_rep {xs : List Int} (h : ∀ x ∈ xs, x.natAbs < 2 ^ 71) (hl : xs.length ≤ 1000) : RepOk (.tuple (zD xs)) := by
  have zl : 16777216 = sizeLine := sizeLine_eq.symm
  refine ⟨zD_sh h, zD_nd xs, ?_, ?_⟩
  · show PyData.depth (.tuple (zD xs)) ≤ 60
    rw [PyData.depth, zD_dep]
    decide
  · have := PyData.shown_le_bulk 100 (by decide) (.tuple (zD xs)) (zD_lv h)
    rw [show PyData.bulk (.tuple (zD xs)) = xs.length from zD_blk xs] at this
    show (PyData.shown (.tuple (zD xs))).length ≤ sizeLine
    omega
theorem tup_dp {K : PySem.W.Frag} {H : Hp} {q : Addr} {xs : List Int} (h : TupI H q xs) : Dp K H (.ref q) (.tuple (zD xs)) := .tup (SqT.of h) (zD_dp xs)
end My

set_option pp.maxSteps 300
set_option Elab.async false
set_option linter.all false
set_option maxRecDepth 100000
set_option maxHeartbeats 1000000
namespace My
open PySem L2 MyR
/-! ### the law -/
structure LwS (dl l lt F : Addr) (ds : List Nat) (b : Nat) (H : Hp) : Prop where
  d : Deal H dl l
  t : TupI H lt (dI ds)
  f : LLy H F (allF (tHalf b) (2 ^ ds.sum * pN ds b)) l
  n : F ≠ l
theorem LwS.kept {dl l lt F : Addr} {ds : List Nat} {b : Nat} {H H' : Hp} (h : LwS dl l lt F ds b H) (d : Deal H' dl l) (k : Kept dl l H H') : LwS dl l lt F ds b H' := ⟨d, h.t.kept k h.d, h.f.kept k h.d h.n, h.n⟩
theorem LwS.same {dl l lt F : Addr} {ds : List Nat} {b : Nat} {H H' : Hp} (h : LwS dl l lt F ds b H) (s : Same H H') : LwS dl l lt F ds b H' := h.kept (h.d.same s) (Kept.of s)
theorem lti_cat {H : Hp} {A B M : Addr} {us ws : List V} {xss yss : List (List Int)} (h : LTI H A xss) (g : LTI H B yss) (hu : H A = some (.lst us)) (hw : H B = some (.lst ws)) (hM : H M = none) : LTI (upd H M (.lst (us ++ ws))) M (xss ++ yss) := by
  have s := new_same (o := .lst (us ++ ws)) hM
  obtain ⟨as, e1, e2, e3⟩ := h
  obtain ⟨bs, f1, f2, f3⟩ := g
  rw [hu] at e1
  rw [hw] at f1
  injection e1 with e1
  injection f1 with f1
  injection e1 with e1
  injection f1 with f1
  subst e1 f1
  refine ⟨as ++ bs, by rw [upd_same, List.map_append], by rw [List.length_append, List.length_append, e2, f2], fun i ys e => ?_⟩
  by_cases hi : i < xss.length
  · rw [List.getElem?_append_left hi] at e
    obtain ⟨q, q1, q2⟩ := e3 i ys e
    exact ⟨q, by rw [List.getElem?_append_left (by omega)]; exact q1, q2.same s⟩
  · rw [List.getElem?_append_right (by omega)] at e
    obtain ⟨q, q1, q2⟩ := f3 _ ys e
    exact ⟨q, by rw [List.getElem?_append_right (by omega), e2]; exact q1, q2.same s⟩
def ToldS (ds : List Nat) (b : Nat) (pts : List (List Int)) (H : Hp) (v1 v2 : V) : Prop :=
  (FullE ds b (seenE ds b pts) ∧ ∃ t1 t2 : Addr, v1 = .ref t1 ∧ v2 = .ref t2 ∧ TupI H t1 (dI (seenK ds b pts)) ∧ TupI H t2 (dI (seenK ds b pts))) ∨ (¬ FullE ds b (seenE ds b pts) ∧ v1 = .non ∧ v2 = .non)
theorem ks_small {ks : List Nat} {n : Nat} (hn : n ≤ 1000) (h : ∀ k ∈ ks, k < n) : ∀ x ∈ dI ks, x.natAbs < 2 ^ 71 := fun x hx => by
  unfold dI at hx
  obtain ⟨k, hk, rfl⟩ := List.mem_map.mp hx
  have := h k hk
  have e : (2 : Nat) ^ 71 = 2361183241434822606848 := by decide
  omega
theorem rgV_nat (n : Nat) : rgV 0 (n : Int) = (dI (List.range n)).map V.int := by
  unfold rgV dI
  rw [List.map_map, show ((n : Int) - 0).toNat = n by omega]
  refine List.map_congr_left fun i _ => ?_
  show V.int (0 + (i : Int)) = V.int (i : Int)
  rw [Int.zero_add]
theorem fewP_ok {ds : List Nat} {b : Nat} {pts : List (List Int)} (h : ∀ x ∈ pts, XsOk ds x) : ∀ x ∈ fewP ds b pts, x.length = ds.length := fun x hx => by
  unfold fewP at hx
  obtain ⟨k, hk, rfl⟩ := List.mem_map.mp hx
  have := seen_lt hk
  rw [List.getD_eq_getElem?_getD, List.getElem?_eq_getElem this]
  exact (h _ (List.getElem_mem this)).1
theorem lti_drop {H : Hp} {A M : Addr} {as : List Addr} {xss : List (List Int)} (e1 : H M = some (.lst ((as.map V.ref).drop 1))) (e2 : as.length = xss.length) (e3 : ∀ (i : Nat) xs, xss[i]? = some xs → ∃ p, as[i]? = some p ∧ TupI H p xs) : LTI H M (xss.drop 1) := by
  refine ⟨as.drop 1, by rw [e1, List.map_drop], by rw [List.length_drop, List.length_drop, e2], fun i xs e => ?_⟩
  rw [List.getElem?_drop] at e ⊢
  exact e3 _ xs e
def spLaw (K : PySem.W.Frag) : Sp := fun vs H Q _ => ∃ (a : Addr) (ns : List Int), vs = [.ref a] ∧ SqL K H a (ns.map V.int) ∧ ns.length ≤ 63 ∧ ∀ H', Q (.bl true) H'
section
variable {P : Program} {w : World} {K : PySem.W.Frag} {mg : Str → Option Value} {base : Heap}
abbrev s_law : Stmt := top 32
abbrev N_law : List Str := ["_law_script", "_law_deal_here", "_law_turn", "_law_some", "_law_depths", "_law_wide", "_law_functions", "_law_size", "_law_again", "_law_spots_here", "_law_told", "_law_due_here", "_law_few", "_law_at"]
theorem sc_law : FnScope N_law ["_law_script"] (defScope s_law) := ⟨rfl, rfl, rfl, by decide +kernel, rfl, by decide +kernel, by decide +kernel⟩
theorem ok_law {f : Addr} {fd : FuncData} (F : Fun K "law" "law" s_law f fd) (T : Glob mg) (g_repr : mg "repr" = none)
    (D_law_deal : Df P w K mg base 1 "_law_deal" ["_law_script", "_law_base"] (spDeal K)) (D_law_draw : Df P w K mg base 1 "_law_draw" ["_law_deal_here", "_law_many"] spDraw) (D_law_small_shape : Df P w K mg base 2 "_law_small_shape" ["_law_deal_here"] spShp)
    (D_law_all_functions : Df P w K mg base 5 "_law_all_functions" ["_law_depths", "_law_wide", "_law_only_top"] spAll) (D_law_spots : Df P w K mg base 5 "_law_spots" ["_law_depths", "_law_wide"] spSpots) (D_law_some_spots : Df P w K mg base 6 "_law_some_spots" ["_law_deal_here", "_law_depths", "_law_wide"] spSs)
    (D_first_enough : Df P w K mg base 9 "first_enough" ["points", "loss", "bits"] spFirst) (D_decides : Df P w K mg base 9 "decides" ["points", "loss", "bits"] spDec) (D_law_due : Df P w K mg base 6 "_law_due" ["_law_depths", "_law_wide", "_law_spots_here", "_law_functions"] spDue) : FnOkG P w K mg base CX0 10 f fd ["_law_script"] (spLaw K) := by
  refine okG F sc_law (fun vs H Q E h => ?_) (fun cdv A hgd outer s H vs Q E hr h => ?_)
  · obtain ⟨a, ns, rfl, _⟩ := h
    rfl
  · obtain ⟨sA, ns, rfl, hS, hlen, kq⟩ := h
    have nd := sc_law.nd
    refine ⟨_, (pss_cons (ps_set (i := 1) nd rfl (Or.inl rfl) (pe_call D_law_deal.ok (hr.mono (by decide)) (by rfl) D_law_deal.g D_law_deal.kp D_law_deal.b .nil pass0 (pa_cons (pv 0) (pa_cons pe_int pa_nil))))
    (pss_cons (ps_for PassesOwn.never rfl (pi_range1 (by rfl) T.g_range (pa_cons pe_int pa_nil)) (pg_name (i := 2) nd rfl (Or.inl rfl))
    (pss_cons (ps_set (i := 3) nd rfl (Or.inl rfl) (pe_lst (pa_cons (pe_call D_law_small_shape.ok (hr.mono (by decide)) (by rfl) D_law_small_shape.g D_law_small_shape.kp D_law_small_shape.b .nil pass0 (pa_cons (pv 1) pa_nil)) (pa_cons (pe_tup (pa_cons (pe_tup (pa_cons pe_int pa_nil)) (pa_cons (pe_op op_add pe_int (pe_call D_law_draw.ok (hr.mono (by decide)) (by rfl) D_law_draw.g D_law_draw.kp D_law_draw.b .nil pass0 (pa_cons (pv 1) (pa_cons pe_int pa_nil)))) pa_nil))) (pa_cons (pe_tup (pa_cons (pe_tup (pa_cons pe_int pa_nil)) (pa_cons pe_int pa_nil))) (pa_cons (pe_tup (pa_cons (pe_tup (pa_cons pe_int pa_nil)) (pa_cons pe_int pa_nil))) (pa_cons (pe_tup (pa_cons (pe_tup (pa_cons pe_int (pa_cons pe_int pa_nil))) (pa_cons pe_int pa_nil))) pa_nil)))))))
    (pss_cons (ps_asg (pe_ix ix_list (pv 3) (pe_call D_law_draw.ok (hr.mono (by decide)) (by rfl) D_law_draw.g D_law_draw.kp D_law_draw.b .nil pass0 (pa_cons (pv 1) (pa_cons pe_int pa_nil))) (fun _ _ => rfl)) (pg_tup (by rfl) (pgs_cons (pg_name (i := 4) nd rfl (Or.inl rfl)) (pgs_cons (pg_name (i := 5) nd rfl (Or.inl rfl)) pgs_nil))))
    (pss_cons (ps_par (i := 6) (j := 7) rfl nd rfl rfl (by decide) rfl rfl (pa_cons (pe_call D_law_all_functions.ok (hr.mono (by decide)) (by rfl) D_law_all_functions.g D_law_all_functions.kp D_law_all_functions.b .nil pass0 (pa_cons (pv 4) (pa_cons (pv 5) (pa_cons pe_bl pa_nil)))) (pa_cons (pe_callB call_len_seq (by rfl) T.g_len PySem.boot_len (pa_cons (pe_call D_law_spots.ok (hr.mono (by decide)) (by rfl) D_law_spots.g D_law_spots.kp D_law_spots.b .nil pass0 (pa_cons (pv 4) (pa_cons (pv 5) pa_nil))) pa_nil)) pa_nil)) (by rfl))
    (pss_one (ps_for PassesOwn.never rfl (pi_range1 (by rfl) T.g_range (pa_cons pe_int pa_nil)) (pg_name (i := 8) nd rfl (Or.inl rfl))
    (pss_cons (ps_set (i := 9) nd rfl (Or.inr rfl) (pe_call D_law_some_spots.ok (hr.mono (by decide)) (by rfl) D_law_some_spots.g D_law_some_spots.kp D_law_some_spots.b .nil pass0 (pa_cons (pv 1) (pa_cons (pv 4) (pa_cons (pv 5) pa_nil)))))
    (pss_cons (ps_if (pt_cmpR op_eq (pe_call D_law_draw.ok (hr.mono (by decide)) (by rfl) D_law_draw.g D_law_draw.kp D_law_draw.b .nil pass0 (pa_cons (pv 1) (pa_cons pe_int pa_nil))) pe_int (nomark _)) (pss_one (ps_set (i := 9) nd rfl (Or.inr rfl) (pe_op op_cat (pv 9) (pe_call D_law_some_spots.ok (hr.mono (by decide)) (by rfl) D_law_some_spots.g D_law_some_spots.kp D_law_some_spots.b .nil pass0 (pa_cons (pv 1) (pa_cons (pv 4) (pa_cons (pv 5) pa_nil))))))) pss_nil)
    (pss_cons (ps_par (i := 10) (j := 11) rfl nd rfl rfl (by decide) rfl rfl (pa_cons (pe_call D_first_enough.ok (hr.mono (by decide)) (by rfl) D_first_enough.g D_first_enough.kp D_first_enough.b .nil pass0 (pa_cons (pv 9) (pa_cons (pv 4) (pa_cons (pv 5) pa_nil)))) (pa_cons (pe_call D_law_due.ok (hr.mono (by decide)) (by rfl) D_law_due.g D_law_due.kp D_law_due.b .nil pass0 (pa_cons (pv 4) (pa_cons (pv 5) (pa_cons (pv 9) (pa_cons (pv 6) pa_nil))))) pa_nil)) (by rfl))
    (pss_cons (ps_if (PW.pt (pw_or (pt_cmpR op_ne (pe_callB (call_reprD hgd hr.units) (by rfl) g_repr (by decide +kernel) (pa_cons (pv 10) pa_nil)) (pe_callB (call_reprD hgd hr.units) (by rfl) g_repr (by decide +kernel) (pa_cons (pv 11) pa_nil)) (nomark _)) (pw_or1 (pt_cmpR op_ne (pe_cmpR op_notN (pv 10) pe_non (nomark _)) (pe_call D_decides.ok (hr.mono (by decide)) (by rfl) D_decides.g D_decides.kp D_decides.b .nil pass0 (pa_cons (pv 9) (pa_cons (pv 4) (pa_cons (pv 5) pa_nil)))) (nomark _))))) (pss_one ps_never) pss_nil)
    (pss_one (ps_if (pt_cmpR op_notN (pv 10) pe_non (nomark _)) (pss_cons (ps_setLc (i := 12) (own := [("_law_at", 13)]) (g := gName 13) (tt := tYes) rfl nd rfl rfl (sw_true rfl rfl rfl (by decide +kernel)) (pi_tup (pv 10)) (blkOk_by (N := N_law) (sc := defScope s_law) (by decide +kernel)) (fun _ _ _ _ _ => pg_name (i := 13) nd rfl (Or.inl rfl)) (fun _ _ _ _ _ => pts_nil) (fun _ _ _ _ _ => (pe_ix (ix_listN (K := K) rfl) (pv 9) (pv 13) (fun _ _ => rfl))))
    (pss_cons (ps_if (PW.pt (pw_or (pt_cmpR op_ne (pe_callB call_len_seq (by rfl) T.g_len PySem.boot_len (pa_cons (pv 10) pa_nil)) (pv 7) (nomark _)) (pw_or1 (pt_not (pt_val (pe_call D_decides.ok (hr.mono (by decide)) (by rfl) D_decides.g D_decides.kp D_decides.b .nil pass0 (pa_cons (pv 12) (pa_cons (pv 4) (pa_cons (pv 5) pa_nil))))))))) (pss_one ps_never) pss_nil)
    (pss_one (ps_if (PW.pt (pw_or (pt_cmpR (op_neD hr.units) (pe_call D_first_enough.ok (hr.mono (by decide)) (by rfl) D_first_enough.g D_first_enough.kp D_first_enough.b .nil pass0 (pa_cons (pv 12) (pa_cons (pv 4) (pa_cons (pv 5) pa_nil)))) (pe_tupRg rfl (by rfl) T.g_tuple (prg_1 (by rfl) T.g_range (pv 7))) (nomark _)) (pw_or1 (pt_val (pe_call D_decides.ok (hr.mono (by decide)) (by rfl) D_decides.g D_decides.kp D_decides.b .nil pass0 (pa_cons (pe_slice sl_list (pv 12) (po_some pe_int) po_none) (pa_cons (pv 4) (pa_cons (pv 5) pa_nil)))))))) (pss_one ps_never) pss_nil)))) pss_nil))))))))))))
    (pss_one (ps_ret pe_bl)))), ?_⟩
    have zl' : 16777216 = sizeLine := sizeLine_eq.symm
    refine seq_by (fun σ H1 => ∃ dl l : Addr, σ = [some (.ref sA), some (.ref dl), none, none, none, none, none, none, none, none, none, none, none, none] ∧ Deal H1 dl l) (fun D' hD' => ?_) ?_
    · exact ⟨_, rfl, sA, ns, rfl, hS, hlen, fun dl l H1 hdn hln s1 D1 => hD' _ _ ⟨dl, l, rfl, D1⟩⟩
    rintro σ H1 ⟨dl, l, rfl, D1⟩
    clear hS
    refine ⟨2, rfl, by decide, by decide, ?_⟩
    refine for_range (lo := 0) (n := 2) (fun i σ H2 => ∃ a2 a3 a4 a5 a6 a7 a8 a9 a10 a11 a12 : Option V, σ = [some (.ref sA), some (.ref dl), a2, a3, a4, a5, a6, a7, a8, a9, a10, a11, a12, none] ∧ Deal H2 dl l)
      ⟨none, none, none, none, none, none, none, none, none, none, none, rfl, D1⟩ ?_ ?_
    rotate_left
    · rintro σ H2 ⟨a2, a3, a4, a5, a6, a7, a8, a9, a10, a11, a12, rfl, D2⟩
      exact kq H2
    clear D1
    rintro i σ H2 hi ⟨a2, a3, a4, a5, a6, a7, a8, a9, a10, a11, a12, rfl, D2⟩
    generalize hTn : some (V.int (0 + (i : Int))) = tn
    -- the shapes
    refine seq_by (fun σ H3 => ∃ (S : Addr) (vs : List V), σ = [some (.ref sA), some (.ref dl), tn, some (.ref S), a4, a5, a6, a7, a8, a9, a10, a11, a12, none] ∧ Good dl l H2 H3 vs ∧ H3 S = some (.lst vs) ∧ vs.length = 5 ∧ S ≠ dl ∧ S ≠ l) (fun D' hD' => ?_) ?_
    · refine ⟨_, rfl, dl, l, rfl, D2, fun v0 K1 DK1 kK1 hv0 => ?_⟩
      have G0 : Good dl l H2 K1 [v0] := ⟨DK1, kK1, fun u hu => by rw [List.mem_singleton.mp hu]; exact hv0⟩
      refine ⟨(by show 1 ≤ sizeLine; omega), fun t1 ht1 => ?_⟩
      have S1 := G0.sm (new_same (o := .tup [V.int 0]) ht1)
      refine ⟨_, rfl, dl, l, 3, rfl, S1.d, by decide, by decide, fun r1 J1 hr1 hs1 E1 k1 => ⟨_, _, rfl, rfl, (by show 2 ≤ sizeLine; omega), fun T1 hT1 => ?_⟩⟩
      have G1 := G0.el (ds := [0]) (b := (4 + r1).toNat) (z := 4 + r1) ht1 rfl E1 k1 hT1 (sh0 (by omega) (by omega)) (by omega)
      refine ⟨(by show 1 ≤ sizeLine; omega), fun t2 ht2 => ⟨(by show 2 ≤ sizeLine; omega), fun T2 hT2 => ?_⟩⟩
      have S2 := G1.sm (new_same (o := .tup [V.int 1]) ht2)
      have G2 := G1.el (ds := [1]) (b := 3) (z := 3) ht2 rfl S2.d Kept.refl hT2 (sh1 (by omega) (by omega)) (by omega)
      refine ⟨(by show 1 ≤ sizeLine; omega), fun t3 ht3 => ⟨(by show 2 ≤ sizeLine; omega), fun T3 hT3 => ?_⟩⟩
      have S3 := G2.sm (new_same (o := .tup [V.int 1]) ht3)
      have G3 := G2.el (ds := [1]) (b := 2) (z := 2) ht3 rfl S3.d Kept.refl hT3 (sh1 (by omega) (by omega)) (by omega)
      refine ⟨(by show 2 ≤ sizeLine; omega), fun t4 ht4 => ⟨(by show 2 ≤ sizeLine; omega), fun T4 hT4 => ?_⟩⟩
      have S4 := G3.sm (new_same (o := .tup [V.int 0, V.int 0]) ht4)
      have G4 := G3.el (ds := [0, 0]) (b := 1) (z := 1) ht4 rfl S4.d Kept.refl hT4 sh00 (by omega)
      refine ⟨(by show 5 ≤ sizeLine; omega), fun L hL => hD' _ _ ⟨L, _, by rw [← hTn]; rfl, G4.sm (new_same hL), upd_same, rfl, (G4.d.free hL).1, (G4.d.free hL).2⟩⟩
    rintro σ H3 ⟨S, vs, rfl, G, hS3, hvl, nSd, nSl⟩
    refine seq_by (fun σ H4 => ∃ (lt : Addr) (ds : List Nat) (b : Nat), σ = [some (.ref sA), some (.ref dl), tn, some (.ref S), some (.ref lt), some (.int (b : Int)), a6, a7, a8, a9, a10, a11, a12, none] ∧ Deal H4 dl l ∧ TupI H4 lt (dI ds) ∧ Sh37 ds b) (fun D' hD' => ?_) ?_
    · refine ⟨_, rfl, _, rfl, dl, l, 5, rfl, G.d, by decide, by decide, fun r H4 hr0 hr1 D4 k4 => ?_⟩
      have GM := G.go D4 k4
      have hS4 := k4 S _ hS3 nSd nSl
      obtain ⟨k, rfl⟩ : ∃ k : Nat, r = (k : Int) := ⟨r.toNat, by omega⟩
      have hk : k < vs.length := by omega
      obtain ⟨T1, lt, ds, b, e, h1, h2, h3⟩ := GM.a _ (List.getElem_mem hk)
      refine ⟨S, _, _, _, rfl, rfl, SqL.of hS4, atI_nat (List.getElem?_eq_getElem hk), ?_⟩
      rw [e]
      exact ⟨T1, _, rfl, SqT.of h1, rfl, _, _, rfl, _, _, rfl, rfl, hD' _ _ ⟨lt, ds, b, rfl, GM.d, h2, h3⟩⟩
    clear G hS3
    rintro σ H4 ⟨lt, ds, b, rfl, D4, hlt, ok⟩
    obtain ⟨n, hn⟩ : ∃ n, n = 2 ^ ds.sum * pN ds b := ⟨_, rfl⟩
    obtain ⟨hP, hC⟩ := ok.p
    have hPv : (vecs ds.length b).length ≤ 8 := hP
    have hcp := ok.c
    rw [← hn] at hcp
    have b64 := ok.b64
    refine seq_by (fun σ H5 => ∃ F : Addr, σ = [some (.ref sA), some (.ref dl), tn, some (.ref S), some (.ref lt), some (.int (b : Int)), some (.ref F), some (.int (n : Int)), a8, a9, a10, a11, a12, none] ∧ LwS dl l lt F ds b H5) (fun D' hD' => ?_) ?_
    · refine ⟨_, rfl, _, rfl, lt, ds, b, rfl, ok, hlt, fun F H5 hF s5 hf5 => ?_⟩
      obtain ⟨_, _, _, g1, g2, _⟩ := D4.ex
      have hfl := hf5 l _ g2
      refine ⟨_, rfl, _, rfl, lt, ds, b, rfl, hlt.same s5, ok.m, ok.s, ok.b1, b64, by omega, fun Z H6 hZ s6 hz6 => ?_⟩
      obtain ⟨us, hus⟩ : ∃ us, LTV H6 Z us (spotsL ds b) := hz6.lenV
      refine ⟨Z, _, rfl, .inl (SqL.of hus.1), _, _, rfl, hD' _ _ ⟨F, ?_, D4.same (s5.trans s6), hlt.same (s5.trans s6), hfl.same s6, ?_⟩⟩
      · rw [hus.2.1, spots_len7 ok, ← hn]
        rfl
      · exact (D4.free hF).2
    clear D4 hlt
    rintro σ H5 ⟨F, rfl, I5⟩
    refine ⟨4, rfl, by decide, by decide, ?_⟩
    refine for_range (lo := 0) (n := 4) (fun j σ H6 => ∃ a8 a9 a10 a11 a12 : Option V, σ = [some (.ref sA), some (.ref dl), tn, some (.ref S), some (.ref lt), some (.int (b : Int)), some (.ref F), some (.int (n : Int)), a8, a9, a10, a11, a12, none] ∧ LwS dl l lt F ds b H6)
      ⟨a8, a9, a10, a11, a12, rfl, I5⟩ ?_ ?_
    rotate_left
    · rintro σ H6 ⟨a8, a9, a10, a11, a12, rfl, I6⟩
      exact ⟨_, _, _, _, _, _, _, _, _, _, _, rfl, I6.d⟩
    clear I5
    rintro j σ H6 hj ⟨a8, a9, a10, a11, a12, rfl, I6⟩
    generalize hTj : some (V.int (0 + (j : Int))) = tj
    refine seq_by (fun σ H7 => ∃ (L : Addr) (pts : List (List Int)), σ = [some (.ref sA), some (.ref dl), tn, some (.ref S), some (.ref lt), some (.int (b : Int)), some (.ref F), some (.int (n : Int)), tj, some (.ref L), a10, a11, a12, none] ∧ LwS dl l lt F ds b H7 ∧ LTI H7 L pts ∧ L ≠ l ∧ (∀ x ∈ pts, XsOk ds x) ∧ pts.length ≤ 12) (fun D' hD' => ?_) ?_
    · exact ⟨_, rfl, _, rfl, _, rfl, dl, l, lt, ds, b, rfl, I6.d, I6.t, ok, fun L H7 pts hL D7 k7 hp7 hx hpl => hD' _ _ ⟨L, pts, by rw [← hTj]; rfl, I6.kept D7 k7, hp7, (I6.d.free hL).2, hx, hpl⟩⟩
    clear I6
    rintro σ H7 ⟨L, pts, rfl, I7, hp7, nLl, hx, hpl⟩
    refine seq_by (fun σ H8 => ∃ (L : Addr) (pts : List (List Int)), σ = [some (.ref sA), some (.ref dl), tn, some (.ref S), some (.ref lt), some (.int (b : Int)), some (.ref F), some (.int (n : Int)), tj, some (.ref L), a10, a11, a12, none] ∧ LwS dl l lt F ds b H8 ∧ LTI H8 L pts ∧ (∀ x ∈ pts, XsOk ds x) ∧ pts.length ≤ 24) (fun D' hD' => ?_) ?_
    · refine ⟨_, rfl, dl, l, 2, rfl, I7.d, by decide, by decide, fun r H8 hr0 hr1 D8 k8 => ⟨rfl, _, rfl, ?_⟩⟩
      have I8 := I7.kept D8 k8
      have hp8 := hp7.kept k8 I7.d nLl
      refine ite2 (fun z => ?_) (fun z => hD' _ _ ⟨L, pts, rfl, I8, hp8, hx, by omega⟩)
      refine ⟨_, rfl, _, rfl, _, rfl, _, rfl, dl, l, lt, ds, b, rfl, I8.d, I8.t, ok, fun L2 H9 pts2 hL2 D9 k9 hq9 hx2 hpl2 => ?_⟩
      have I9 := I8.kept D9 k9
      have hp9 := hp8.kept k9 I8.d nLl
      obtain ⟨as, e1, e2, _⟩ := id hp9
      obtain ⟨bs, f1, f2, _⟩ := id hq9
      refine ⟨L, L2, _, _, rfl, rfl, e1, f1, (by rw [List.length_map, List.length_map]; omega), fun M hM => ?_⟩
      refine hD' _ _ ⟨M, pts ++ pts2, rfl, I9.same (new_same hM), lti_cat hp9 hq9 e1 f1 hM, fun x hx' => ?_, by rw [List.length_append]; omega⟩
      rcases List.mem_append.mp hx' with h | h
      · exact hx x h
      · exact hx2 x h
    clear I7 hp7 hx hpl nLl pts L
    rintro σ H8 ⟨L, pts, rfl, I8, hp8, hx, hpl⟩
    have hxl : ∀ x ∈ pts, x.length = ds.length := fun x h => (hx x h).1
    obtain ⟨due1, due2⟩ := due_seen ok pts
    refine seq_by (fun σ H9 => ∃ v1 v2 : V, σ = [some (.ref sA), some (.ref dl), tn, some (.ref S), some (.ref lt), some (.int (b : Int)), some (.ref F), some (.int (n : Int)), tj, some (.ref L), some v1, some v2, a12, none] ∧ LwS dl l lt F ds b H9 ∧ LTI H9 L pts ∧ ToldS ds b pts H9 v1 v2) (fun D' hD' => ?_) ?_
    · refine ⟨_, rfl, _, rfl, _, rfl, L, lt, pts, ds, b, rfl, ⟨hp8, I8.t, ok, hxl, by omega⟩, fun v1 H9 s9 hv1 => ?_⟩
      have I9 := I8.same s9
      have hp9 := hp8.same s9
      refine ⟨_, rfl, _, rfl, _, rfl, _, rfl, lt, L, F, pts, ds, b, rfl, ok, I9.t, hp9, hx, by omega, I9.f.lli, fun v2 H10 s10 hv2 => ⟨_, _, rfl, hD' _ _ ⟨v1, v2, rfl, I9.same s10, hp9.same s10, ?_⟩⟩⟩
      rw [due1] at hv2
      rcases hv1 with ⟨full, t1, rfl, h1⟩ | ⟨nf, rfl⟩
      · rcases hv2 with ⟨_, t2, rfl, h2⟩ | ⟨h2, _⟩
        · exact .inl ⟨full, t1, t2, rfl, rfl, h1.same s10, h2⟩
        · exact absurd (due2.mpr full) h2
      · rcases hv2 with ⟨h2, _⟩ | ⟨_, rfl⟩
        · exact absurd (due2.mp h2) nf
        · exact .inr ⟨nf, rfl, rfl⟩
    clear I8 hp8 due1 due2
    rintro σ H9 ⟨v1, v2, rfl, I9, hp9, hT⟩
    have hkl : (seenK ds b pts).length ≤ 1000 := by
      have := kept_le (pN ds b) (pts.map (cv ds b)) E0 0
      rw [List.length_map] at this
      unfold seenK
      omega
    have hks := ks_small (n := 24) (by omega) (fun k (h : k ∈ seenK ds b pts) => Nat.lt_of_lt_of_le (seen_lt h) hpl)
    refine seq_by (fun σ H10 => σ = [some (.ref sA), some (.ref dl), tn, some (.ref S), some (.ref lt), some (.int (b : Int)), some (.ref F), some (.int (n : Int)), tj, some (.ref L), some v1, some v2, a12, none] ∧ Same H9 H10) (fun D' hD' => ?_) ?_
    · rcases hT with ⟨full, t1, t2, rfl, rfl, h1, h2⟩ | ⟨nf, rfl, rfl⟩
      · have R := tup_rep hks (by unfold dI; rw [List.length_map]; exact hkl)
        refine ⟨_, rfl, .inr ⟨t1, _, rfl, tup_dp h1, R.s, R.n, R.d, R.l, _, rfl, .inr ⟨t2, _, rfl, tup_dp h2, R.s, R.n, R.d, R.l, rfl, _, rfl, iteNS rfl ?_⟩⟩⟩
        refine ⟨_, rfl, rfl, _, rfl, _, rfl, _, rfl, L, lt, pts, ds, b, rfl, ⟨hp9, I9.t, ok, hxl, by omega⟩, fun t H10 s10 ht => ⟨rfl, _, rfl, ?_⟩⟩
        obtain rfl : t = true := ht.mpr full
        exact iteNS rfl (hD' _ _ ⟨rfl, s10⟩)
      · refine ⟨_, rfl, .inl ⟨rfl, _, rfl, .inl ⟨rfl, rfl, _, rfl, iteNS rfl ?_⟩⟩⟩
        refine ⟨_, rfl, rfl, _, rfl, _, rfl, _, rfl, L, lt, pts, ds, b, rfl, ⟨hp9, I9.t, ok, hxl, by omega⟩, fun t H10 s10 ht => ⟨rfl, _, rfl, ?_⟩⟩
        cases t with
        | true => exact absurd (ht.mp rfl) nf
        | false => exact iteNS rfl (hD' _ _ ⟨rfl, s10⟩)
    rintro σ H10 ⟨rfl, s10⟩
    have I10 := I9.same s10
    have hp10 := hp9.same s10
    refine ⟨_, rfl, rfl, _, rfl, ?_⟩
    rcases hT with ⟨full, t1, t2, rfl, rfl, h1, h2⟩ | ⟨nf, rfl, rfl⟩
    rotate_left
    · exact iteF ⟨_, _, _, _, _, rfl, I10⟩
    refine iteT ?_
    have h10 := h1.same s10
    have hnl := full_len ok full
    rw [← hn] at hnl
    have hfl : (fewP ds b pts).length = n := by unfold fewP; rw [List.length_map, hnl]
    refine seq_by (fun σ H11 => ∃ M : Addr, σ = [some (.ref sA), some (.ref dl), tn, some (.ref S), some (.ref lt), some (.int (b : Int)), some (.ref F), some (.int (n : Int)), tj, some (.ref L), some (.ref t1), some (.ref t2), some (.ref M), none] ∧ Same H10 H11 ∧ LTI H11 M (fewP ds b pts)) (fun D' hD' => ?_) ?_
    · refine ⟨_, rfl, t1, rfl, ⟨_, SqT.of h10⟩, fun D hD => ?_⟩
      refine lc_tup (xs := (dI (seenK ds b pts)).map V.int) (fun k H11 => Same H10 H11 ∧ LTI H11 D (((seenK ds b pts).take k).map fun k => pts.getD k [])) ⟨new_same hD, [], upd_same, rfl, fun i xs e => by simp at e⟩ (fun k H11 _ h => SqT.of (h10.same h.1)) ?_ ?_
      · rintro k x H11 hxk ⟨s11, h11⟩
        have hk : k < (seenK ds b pts).length := by
          have := (List.getElem?_eq_some_iff.mp hxk).1
          rw [List.length_map] at this
          unfold dI at this
          rw [List.length_map] at this
          exact this
        have hkk : (seenK ds b pts)[k]? = some (seenK ds b pts)[k] := List.getElem?_eq_getElem hk
        have hki : (dI (seenK ds b pts))[k]? = some (((seenK ds b pts)[k] : Nat) : Int) := by unfold dI; rw [List.getElem?_map, hkk]; rfl
        rw [map_at_int hki] at hxk
        obtain rfl := Option.some.inj hxk
        have hlt2 := seen_lt (List.getElem_mem hk)
        obtain ⟨as, e1, e2, e3⟩ := hp10.same s11
        have hpg : pts[(seenK ds b pts)[k]]? = some (pts.getD (seenK ds b pts)[k] []) := by rw [List.getD_eq_getElem?_getD, List.getElem?_eq_getElem hlt2]; rfl
        obtain ⟨p, q1, q2⟩ := e3 _ _ hpg
        refine ⟨rfl, ?_⟩
        dsimp only [tYes]
        rw [if_pos rfl]
        refine ⟨_, rfl, _, rfl, L, _, _, _, rfl, rfl, SqL.of e1, atI_nat (by rw [List.getElem?_map, q1]; rfl), ?_⟩
        obtain ⟨acc, c1, c2, c3⟩ := lti_app h11 q2 (by rw [List.length_map, List.length_take]; omega)
        refine ⟨acc, c1, c2, same_up s11 hD, ?_⟩
        rw [List.take_succ, hkk, List.map_append]
        exact c3
      · rintro H11 ⟨s11, h11⟩
        rw [List.length_map, show (dI (seenK ds b pts)).length = (seenK ds b pts).length from by unfold dI; rw [List.length_map], List.take_length] at h11
        exact hD' _ _ ⟨D, rfl, s11, h11⟩
    rintro σ H11 ⟨M, rfl, s11, hM11⟩
    have I11 := I10.same s11
    have h11 := h10.same s11
    have hfx := fewP_ok (b := b) hx
    refine seq_by (fun σ H12 => σ = [some (.ref sA), some (.ref dl), tn, some (.ref S), some (.ref lt), some (.int (b : Int)), some (.ref F), some (.int (n : Int)), tj, some (.ref L), some (.ref t1), some (.ref t2), some (.ref M), none] ∧ Same H11 H12) (fun D' hD' => ?_) ?_
    · refine ⟨_, rfl, t1, _, rfl, .inr (SqT.of h11), _, rfl, rfl, _, rfl, iteNS ?_ ?_⟩
      · rw [List.length_map, show (dI (seenK ds b pts)).length = (seenK ds b pts).length from by unfold dI; rw [List.length_map], hnl]
      refine ⟨_, rfl, _, rfl, _, rfl, M, lt, fewP ds b pts, ds, b, rfl, ⟨hM11, I11.t, ok, hfx, by omega⟩, fun t H12 s12 ht => ?_⟩
      obtain rfl : t = true := ht.mpr (by rw [few_seenE]; exact full)
      exact ⟨_, rfl, iteF (hD' _ _ ⟨rfl, s12⟩)⟩
    rintro σ H12 ⟨rfl, s12⟩
    have I12 := I11.same s12
    have hM12 := hM11.same s12
    refine ⟨_, rfl, _, rfl, _, rfl, M, lt, fewP ds b pts, ds, b, rfl, ⟨hM12, I12.t, ok, hfx, by omega⟩, fun v H13 s13 hv => ?_⟩
    have I13 := I12.same s13
    have hM13 := hM12.same s13
    rcases hv with ⟨_, t3, rfl, h3⟩ | ⟨nf, _⟩
    rotate_left
    · exact absurd (by rw [few_seenE]; exact full) nf
    rw [few_seenK ok full, ← hn] at h3
    refine ⟨_, rfl, _, rfl, RgOk.of_le (by omega) (by omega) (by omega) (by omega), fun q hq => ?_⟩
    have sq := new_same (o := .tup (rgV 0 (n : Int))) hq
    have hq4 : TupI (upd H13 q (.tup (rgV 0 (n : Int)))) q (dI (List.range n)) := by
      show upd H13 q _ q = _
      rw [upd_same, rgV_nat]
    refine ⟨_, _, tup_dp (h3.same sq), tup_dp hq4, zD_shapeT _, zD_shapeT _, _, rfl, ?_⟩
    rw [show PyData.eqv (.tuple (zD (dI (List.range n)))) (.tuple (zD (dI (List.range n)))) = true from by rw [zD_eqT, decide_eq_true rfl]]
    refine iteF ?_
    have I14 := I13.same sq
    have hM14 := hM13.same sq
    generalize upd H13 q (.tup (rgV 0 (n : Int))) = H14 at I14 hM14 ⊢
    obtain ⟨as, e1, e2, e3⟩ := hM14
    refine ⟨_, rfl, _, rfl, ?_⟩
    dsimp only [tNoPart]
    refine ⟨M, _, rfl, SqL.of e1, fun R hR => ?_⟩
    have sR := new_same (o := .lst (cutV (as.map V.ref) (some 1) none)) hR
    have hcut : cutV (as.map V.ref) (some 1) none = (as.map V.ref).drop 1 := cut_drop (as.map V.ref) 1
    have hR5 : LTI (upd H14 R (.lst (cutV (as.map V.ref) (some 1) none))) R ((fewP ds b pts).drop 1) := lti_drop (A := M) (by rw [upd_same, hcut]) e2 (fun i xs e => let ⟨p, q1, q2⟩ := e3 i xs e; ⟨p, q1, q2.same sR⟩)
    have I15 := I14.same sR
    generalize upd H14 R (.lst (cutV (as.map V.ref) (some 1) none)) = H15 at hR5 I15 ⊢
    refine ⟨_, rfl, _, rfl, R, lt, (fewP ds b pts).drop 1, ds, b, rfl, ⟨hR5, I15.t, ok, fun x h => hfx x (List.mem_of_mem_drop h), by rw [List.length_drop]; omega⟩, fun t H16 s16 ht => ?_⟩
    cases t with
    | true => exact absurd (ht.mp rfl) (few_less ok full)
    | false => exact ⟨_, rfl, iteF ⟨_, _, _, _, _, rfl, I15.same s16⟩⟩
end
end My

set_option Elab.async false
set_option linter.all false
set_option maxRecDepth 100000
set_option maxHeartbeats 0
namespace My
open PySem L2 MyR
set_option pp.maxSteps 300
def intsAre : List Value → List Int → Bool
  | [], [] => true
  | .int x _ :: r, y :: s => x == y && intsAre r s
  | _, _ => false
theorem ints_vals : ∀ {us : List Value} {zs : List Int}, intsAre us zs = true → Vals (zs.map V.int) us
  | [], zs, h => by
    cases zs with
    | nil => exact .nil
    | cons z s => cases h
  | v :: r, zs, h => by
    cases v with
    | int x t =>
      cases zs with
      | nil => cases h
      | cons y s =>
        have h' : (x == y && intsAre r s) = true := h
        rw [Bool.and_eq_true] at h'
        obtain rfl := beq_iff_eq.mp h'.1
        exact .cons ⟨t, rfl⟩ (ints_vals h'.2)
    | _ => cases zs <;> cases h
theorem ble_size {n : Nat} (h : Nat.ble n 1000 = true) : n ≤ sizeLine := Nat.le_of_lt (small1000 (Nat.le_of_ble_eq_true h))
theorem kit_own {K : PySem.W.Frag} {C D : Addr} (h1 : PySem.W.isClsIn K D = true) (h2 : PySem.W.typeIn K (.ref D) = some (.type "type")) (h3 : PySem.W.subIn K (.ref C) (.ref D) = some true) : PySem.W.kitOne K (.ref C) (.ref D) = some true := by
  unfold PySem.W.kitOne
  by_cases e : ((Value.ref C) == (Value.ref D)) = true
  · rw [if_pos e]
  · rw [if_neg e]
    have h1' : (PySem.W.clsIn K D).isSome = true := h1
    show (if ((PySem.W.clsIn K D).isSome && PySem.W.typeIn K (.ref D) == some (.type "type")) = true then PySem.W.subIn K (.ref C) (.ref D) else none) = some true
    rw [h1', h2, if_pos (by rfl)]
    exact h3
theorem all_mk {P : Program} {w : World} {K : PySem.W.Frag} {h : Heap} {mg : Str → Option Value} {fa : Addr} (X : K.In h) (G : h.Ns mainGlobals mg) (hfa : mg "law" = some (.ref fa))
    {f_twos f_shares f_vector_list f_count_vectors f_count_points f_decides f_first_enough f_seen_at f_highest f_law_deal f_law_draw f_law_mixed f_law_twos f_law_vectors f_law_spots f_law_class f_law_row f_law_far f_law_small_shape f_law_factors f_law_all_functions f_law_some_spots f_law_due f_law f_Seen_init f_Seen_sets_by_number f_Seen_odd_at f_Seen_look f_Seen_undecided C_Seen : Addr}
    {tkMP : Nat}
    {od_twos an_twos : Option Addr} {sl_twos : Array (Option Value)} {oc_twos kV_twos dc_twos pm_twos cd_twos ct_twos : Value}
    {od_shares an_shares : Option Addr} {sl_shares : Array (Option Value)} {oc_shares kV_shares dc_shares pm_shares cd_shares ct_shares : Value}
    {od_vector_list an_vector_list : Option Addr} {sl_vector_list : Array (Option Value)} {oc_vector_list kV_vector_list dc_vector_list pm_vector_list cd_vector_list ct_vector_list : Value}
    {od_count_vectors an_count_vectors : Option Addr} {sl_count_vectors : Array (Option Value)} {oc_count_vectors kV_count_vectors dc_count_vectors pm_count_vectors cd_count_vectors ct_count_vectors : Value}
    {od_count_points an_count_points : Option Addr} {sl_count_points : Array (Option Value)} {oc_count_points kV_count_points dc_count_points pm_count_points cd_count_points ct_count_points : Value}
    {od_decides an_decides : Option Addr} {sl_decides : Array (Option Value)} {oc_decides kV_decides dc_decides pm_decides cd_decides ct_decides : Value}
    {od_first_enough an_first_enough : Option Addr} {sl_first_enough : Array (Option Value)} {oc_first_enough kV_first_enough dc_first_enough pm_first_enough cd_first_enough ct_first_enough : Value}
    {od_seen_at an_seen_at : Option Addr} {sl_seen_at : Array (Option Value)} {oc_seen_at kV_seen_at dc_seen_at pm_seen_at cd_seen_at ct_seen_at : Value}
    {od_highest an_highest : Option Addr} {sl_highest : Array (Option Value)} {oc_highest kV_highest dc_highest pm_highest cd_highest ct_highest : Value}
    {od_law_deal an_law_deal : Option Addr} {sl_law_deal : Array (Option Value)} {oc_law_deal kV_law_deal dc_law_deal pm_law_deal cd_law_deal ct_law_deal : Value}
    {od_law_draw an_law_draw : Option Addr} {sl_law_draw : Array (Option Value)} {oc_law_draw kV_law_draw dc_law_draw pm_law_draw cd_law_draw ct_law_draw : Value}
    {od_law_mixed an_law_mixed : Option Addr} {sl_law_mixed : Array (Option Value)} {oc_law_mixed kV_law_mixed dc_law_mixed pm_law_mixed cd_law_mixed ct_law_mixed : Value}
    {od_law_twos an_law_twos : Option Addr} {sl_law_twos : Array (Option Value)} {oc_law_twos kV_law_twos dc_law_twos pm_law_twos cd_law_twos ct_law_twos : Value}
    {od_law_vectors an_law_vectors : Option Addr} {sl_law_vectors : Array (Option Value)} {oc_law_vectors kV_law_vectors dc_law_vectors pm_law_vectors cd_law_vectors ct_law_vectors : Value}
    {od_law_spots an_law_spots : Option Addr} {sl_law_spots : Array (Option Value)} {oc_law_spots kV_law_spots dc_law_spots pm_law_spots cd_law_spots ct_law_spots : Value}
    {od_law_class an_law_class : Option Addr} {sl_law_class : Array (Option Value)} {oc_law_class kV_law_class dc_law_class pm_law_class cd_law_class ct_law_class : Value}
    {od_law_row an_law_row : Option Addr} {sl_law_row : Array (Option Value)} {oc_law_row kV_law_row dc_law_row pm_law_row cd_law_row ct_law_row : Value}
    {od_law_far an_law_far : Option Addr} {sl_law_far : Array (Option Value)} {oc_law_far kV_law_far dc_law_far pm_law_far cd_law_far ct_law_far : Value}
    {od_law_small_shape an_law_small_shape : Option Addr} {sl_law_small_shape : Array (Option Value)} {oc_law_small_shape kV_law_small_shape dc_law_small_shape pm_law_small_shape cd_law_small_shape ct_law_small_shape : Value}
    {od_law_factors an_law_factors : Option Addr} {sl_law_factors : Array (Option Value)} {oc_law_factors kV_law_factors dc_law_factors pm_law_factors cd_law_factors ct_law_factors : Value}
    {od_law_all_functions an_law_all_functions : Option Addr} {sl_law_all_functions : Array (Option Value)} {oc_law_all_functions kV_law_all_functions dc_law_all_functions pm_law_all_functions cd_law_all_functions ct_law_all_functions : Value}
    {od_law_some_spots an_law_some_spots : Option Addr} {sl_law_some_spots : Array (Option Value)} {oc_law_some_spots kV_law_some_spots dc_law_some_spots pm_law_some_spots cd_law_some_spots ct_law_some_spots : Value}
    {od_law_due an_law_due : Option Addr} {sl_law_due : Array (Option Value)} {oc_law_due kV_law_due dc_law_due pm_law_due cd_law_due ct_law_due : Value}
    {od_law an_law : Option Addr} {sl_law : Array (Option Value)} {oc_law kV_law dc_law pm_law cd_law ct_law : Value}
    {od_Seen_init an_Seen_init : Option Addr} {sl_Seen_init : Array (Option Value)} {oc_Seen_init kV_Seen_init dc_Seen_init pm_Seen_init cd_Seen_init ct_Seen_init : Value}
    {od_Seen_sets_by_number an_Seen_sets_by_number : Option Addr} {sl_Seen_sets_by_number : Array (Option Value)} {oc_Seen_sets_by_number kV_Seen_sets_by_number dc_Seen_sets_by_number pm_Seen_sets_by_number cd_Seen_sets_by_number ct_Seen_sets_by_number : Value}
    {od_Seen_odd_at an_Seen_odd_at : Option Addr} {sl_Seen_odd_at : Array (Option Value)} {oc_Seen_odd_at kV_Seen_odd_at dc_Seen_odd_at pm_Seen_odd_at cd_Seen_odd_at ct_Seen_odd_at : Value}
    {od_Seen_look an_Seen_look : Option Addr} {sl_Seen_look : Array (Option Value)} {oc_Seen_look kV_Seen_look dc_Seen_look pm_Seen_look cd_Seen_look ct_Seen_look : Value}
    {od_Seen_undecided an_Seen_undecided : Option Addr} {sl_Seen_undecided : Array (Option Value)} {oc_Seen_undecided kV_Seen_undecided dc_Seen_undecided pm_Seen_undecided cd_Seen_undecided ct_Seen_undecided : Value}
    (a_MP : PySem.W.nsIn K mainGlobals "MOST_POINTS" = some (some (.int 400 tkMP)))
    (a_twos : PySem.W.nsIn K mainGlobals "twos" = some (some (.ref f_twos)))
    (l_twos : K.lookup f_twos = some ⟨oc_twos, od_twos, .func (PySem.W.fnOf "twos" "twos" (defArgs s_twos) (defBody s_twos) (defScope s_twos) .none kV_twos dc_twos pm_twos an_twos cd_twos ct_twos), sl_twos⟩)
    (c_twos : PySem.W.codeIn K cd_twos "twos" = true)
    (k_twos : PySem.W.keepIn K (.ref f_twos) = true)
    (a_shares : PySem.W.nsIn K mainGlobals "shares" = some (some (.ref f_shares)))
    (l_shares : K.lookup f_shares = some ⟨oc_shares, od_shares, .func (PySem.W.fnOf "shares" "shares" (defArgs s_shares) (defBody s_shares) (defScope s_shares) .none kV_shares dc_shares pm_shares an_shares cd_shares ct_shares), sl_shares⟩)
    (c_shares : PySem.W.codeIn K cd_shares "shares" = true)
    (k_shares : PySem.W.keepIn K (.ref f_shares) = true)
    (a_vector_list : PySem.W.nsIn K mainGlobals "vector_list" = some (some (.ref f_vector_list)))
    (l_vector_list : K.lookup f_vector_list = some ⟨oc_vector_list, od_vector_list, .func (PySem.W.fnOf "vector_list" "vector_list" (defArgs s_vector_list) (defBody s_vector_list) (defScope s_vector_list) .none kV_vector_list dc_vector_list pm_vector_list an_vector_list cd_vector_list ct_vector_list), sl_vector_list⟩)
    (c_vector_list : PySem.W.codeIn K cd_vector_list "vector_list" = true)
    (k_vector_list : PySem.W.keepIn K (.ref f_vector_list) = true)
    (a_count_vectors : PySem.W.nsIn K mainGlobals "count_vectors" = some (some (.ref f_count_vectors)))
    (l_count_vectors : K.lookup f_count_vectors = some ⟨oc_count_vectors, od_count_vectors, .func (PySem.W.fnOf "count_vectors" "count_vectors" (defArgs s_count_vectors) (defBody s_count_vectors) (defScope s_count_vectors) .none kV_count_vectors dc_count_vectors pm_count_vectors an_count_vectors cd_count_vectors ct_count_vectors), sl_count_vectors⟩)
    (c_count_vectors : PySem.W.codeIn K cd_count_vectors "count_vectors" = true)
    (k_count_vectors : PySem.W.keepIn K (.ref f_count_vectors) = true)
    (a_count_points : PySem.W.nsIn K mainGlobals "count_points" = some (some (.ref f_count_points)))
    (l_count_points : K.lookup f_count_points = some ⟨oc_count_points, od_count_points, .func (PySem.W.fnOf "count_points" "count_points" (defArgs s_count_points) (defBody s_count_points) (defScope s_count_points) .none kV_count_points dc_count_points pm_count_points an_count_points cd_count_points ct_count_points), sl_count_points⟩)
    (c_count_points : PySem.W.codeIn K cd_count_points "count_points" = true)
    (k_count_points : PySem.W.keepIn K (.ref f_count_points) = true)
    (a_decides : PySem.W.nsIn K mainGlobals "decides" = some (some (.ref f_decides)))
    (l_decides : K.lookup f_decides = some ⟨oc_decides, od_decides, .func (PySem.W.fnOf "decides" "decides" (defArgs s_decides) (defBody s_decides) (defScope s_decides) .none kV_decides dc_decides pm_decides an_decides cd_decides ct_decides), sl_decides⟩)
    (c_decides : PySem.W.codeIn K cd_decides "decides" = true)
    (k_decides : PySem.W.keepIn K (.ref f_decides) = true)
    (a_first_enough : PySem.W.nsIn K mainGlobals "first_enough" = some (some (.ref f_first_enough)))
    (l_first_enough : K.lookup f_first_enough = some ⟨oc_first_enough, od_first_enough, .func (PySem.W.fnOf "first_enough" "first_enough" (defArgs s_first_enough) (defBody s_first_enough) (defScope s_first_enough) .none kV_first_enough dc_first_enough pm_first_enough an_first_enough cd_first_enough ct_first_enough), sl_first_enough⟩)
    (c_first_enough : PySem.W.codeIn K cd_first_enough "first_enough" = true)
    (k_first_enough : PySem.W.keepIn K (.ref f_first_enough) = true)
    (a_seen_at : PySem.W.nsIn K mainGlobals "seen_at" = some (some (.ref f_seen_at)))
    (l_seen_at : K.lookup f_seen_at = some ⟨oc_seen_at, od_seen_at, .func (PySem.W.fnOf "seen_at" "seen_at" (defArgs s_seen_at) (defBody s_seen_at) (defScope s_seen_at) .none kV_seen_at dc_seen_at pm_seen_at an_seen_at cd_seen_at ct_seen_at), sl_seen_at⟩)
    (c_seen_at : PySem.W.codeIn K cd_seen_at "seen_at" = true)
    (k_seen_at : PySem.W.keepIn K (.ref f_seen_at) = true)
    (a_highest : PySem.W.nsIn K mainGlobals "highest" = some (some (.ref f_highest)))
    (l_highest : K.lookup f_highest = some ⟨oc_highest, od_highest, .func (PySem.W.fnOf "highest" "highest" (defArgs s_highest) (defBody s_highest) (defScope s_highest) .none kV_highest dc_highest pm_highest an_highest cd_highest ct_highest), sl_highest⟩)
    (c_highest : PySem.W.codeIn K cd_highest "highest" = true)
    (k_highest : PySem.W.keepIn K (.ref f_highest) = true)
    (a_law_deal : PySem.W.nsIn K mainGlobals "_law_deal" = some (some (.ref f_law_deal)))
    (l_law_deal : K.lookup f_law_deal = some ⟨oc_law_deal, od_law_deal, .func (PySem.W.fnOf "_law_deal" "_law_deal" (defArgs s_law_deal) (defBody s_law_deal) (defScope s_law_deal) .none kV_law_deal dc_law_deal pm_law_deal an_law_deal cd_law_deal ct_law_deal), sl_law_deal⟩)
    (c_law_deal : PySem.W.codeIn K cd_law_deal "_law_deal" = true)
    (k_law_deal : PySem.W.keepIn K (.ref f_law_deal) = true)
    (a_law_draw : PySem.W.nsIn K mainGlobals "_law_draw" = some (some (.ref f_law_draw)))
    (l_law_draw : K.lookup f_law_draw = some ⟨oc_law_draw, od_law_draw, .func (PySem.W.fnOf "_law_draw" "_law_draw" (defArgs s_law_draw) (defBody s_law_draw) (defScope s_law_draw) .none kV_law_draw dc_law_draw pm_law_draw an_law_draw cd_law_draw ct_law_draw), sl_law_draw⟩)
    (c_law_draw : PySem.W.codeIn K cd_law_draw "_law_draw" = true)
    (k_law_draw : PySem.W.keepIn K (.ref f_law_draw) = true)
    (a_law_mixed : PySem.W.nsIn K mainGlobals "_law_mixed" = some (some (.ref f_law_mixed)))
    (l_law_mixed : K.lookup f_law_mixed = some ⟨oc_law_mixed, od_law_mixed, .func (PySem.W.fnOf "_law_mixed" "_law_mixed" (defArgs s_law_mixed) (defBody s_law_mixed) (defScope s_law_mixed) .none kV_law_mixed dc_law_mixed pm_law_mixed an_law_mixed cd_law_mixed ct_law_mixed), sl_law_mixed⟩)
    (c_law_mixed : PySem.W.codeIn K cd_law_mixed "_law_mixed" = true)
    (k_law_mixed : PySem.W.keepIn K (.ref f_law_mixed) = true)
    (a_law_twos : PySem.W.nsIn K mainGlobals "_law_twos" = some (some (.ref f_law_twos)))
    (l_law_twos : K.lookup f_law_twos = some ⟨oc_law_twos, od_law_twos, .func (PySem.W.fnOf "_law_twos" "_law_twos" (defArgs s_law_twos) (defBody s_law_twos) (defScope s_law_twos) .none kV_law_twos dc_law_twos pm_law_twos an_law_twos cd_law_twos ct_law_twos), sl_law_twos⟩)
    (c_law_twos : PySem.W.codeIn K cd_law_twos "_law_twos" = true)
    (k_law_twos : PySem.W.keepIn K (.ref f_law_twos) = true)
    (a_law_vectors : PySem.W.nsIn K mainGlobals "_law_vectors" = some (some (.ref f_law_vectors)))
    (l_law_vectors : K.lookup f_law_vectors = some ⟨oc_law_vectors, od_law_vectors, .func (PySem.W.fnOf "_law_vectors" "_law_vectors" (defArgs s_law_vectors) (defBody s_law_vectors) (defScope s_law_vectors) .none kV_law_vectors dc_law_vectors pm_law_vectors an_law_vectors cd_law_vectors ct_law_vectors), sl_law_vectors⟩)
    (c_law_vectors : PySem.W.codeIn K cd_law_vectors "_law_vectors" = true)
    (k_law_vectors : PySem.W.keepIn K (.ref f_law_vectors) = true)
    (a_law_spots : PySem.W.nsIn K mainGlobals "_law_spots" = some (some (.ref f_law_spots)))
    (l_law_spots : K.lookup f_law_spots = some ⟨oc_law_spots, od_law_spots, .func (PySem.W.fnOf "_law_spots" "_law_spots" (defArgs s_law_spots) (defBody s_law_spots) (defScope s_law_spots) .none kV_law_spots dc_law_spots pm_law_spots an_law_spots cd_law_spots ct_law_spots), sl_law_spots⟩)
    (c_law_spots : PySem.W.codeIn K cd_law_spots "_law_spots" = true)
    (k_law_spots : PySem.W.keepIn K (.ref f_law_spots) = true)
    (a_law_class : PySem.W.nsIn K mainGlobals "_law_class" = some (some (.ref f_law_class)))
    (l_law_class : K.lookup f_law_class = some ⟨oc_law_class, od_law_class, .func (PySem.W.fnOf "_law_class" "_law_class" (defArgs s_law_class) (defBody s_law_class) (defScope s_law_class) .none kV_law_class dc_law_class pm_law_class an_law_class cd_law_class ct_law_class), sl_law_class⟩)
    (c_law_class : PySem.W.codeIn K cd_law_class "_law_class" = true)
    (k_law_class : PySem.W.keepIn K (.ref f_law_class) = true)
    (a_law_row : PySem.W.nsIn K mainGlobals "_law_row" = some (some (.ref f_law_row)))
    (l_law_row : K.lookup f_law_row = some ⟨oc_law_row, od_law_row, .func (PySem.W.fnOf "_law_row" "_law_row" (defArgs s_law_row) (defBody s_law_row) (defScope s_law_row) .none kV_law_row dc_law_row pm_law_row an_law_row cd_law_row ct_law_row), sl_law_row⟩)
    (c_law_row : PySem.W.codeIn K cd_law_row "_law_row" = true)
    (k_law_row : PySem.W.keepIn K (.ref f_law_row) = true)
    (a_law_far : PySem.W.nsIn K mainGlobals "_law_far" = some (some (.ref f_law_far)))
    (l_law_far : K.lookup f_law_far = some ⟨oc_law_far, od_law_far, .func (PySem.W.fnOf "_law_far" "_law_far" (defArgs s_law_far) (defBody s_law_far) (defScope s_law_far) .none kV_law_far dc_law_far pm_law_far an_law_far cd_law_far ct_law_far), sl_law_far⟩)
    (c_law_far : PySem.W.codeIn K cd_law_far "_law_far" = true)
    (k_law_far : PySem.W.keepIn K (.ref f_law_far) = true)
    (a_law_small_shape : PySem.W.nsIn K mainGlobals "_law_small_shape" = some (some (.ref f_law_small_shape)))
    (l_law_small_shape : K.lookup f_law_small_shape = some ⟨oc_law_small_shape, od_law_small_shape, .func (PySem.W.fnOf "_law_small_shape" "_law_small_shape" (defArgs s_law_small_shape) (defBody s_law_small_shape) (defScope s_law_small_shape) .none kV_law_small_shape dc_law_small_shape pm_law_small_shape an_law_small_shape cd_law_small_shape ct_law_small_shape), sl_law_small_shape⟩)
    (c_law_small_shape : PySem.W.codeIn K cd_law_small_shape "_law_small_shape" = true)
    (k_law_small_shape : PySem.W.keepIn K (.ref f_law_small_shape) = true)
    (a_law_factors : PySem.W.nsIn K mainGlobals "_law_factors" = some (some (.ref f_law_factors)))
    (l_law_factors : K.lookup f_law_factors = some ⟨oc_law_factors, od_law_factors, .func (PySem.W.fnOf "_law_factors" "_law_factors" (defArgs s_law_factors) (defBody s_law_factors) (defScope s_law_factors) .none kV_law_factors dc_law_factors pm_law_factors an_law_factors cd_law_factors ct_law_factors), sl_law_factors⟩)
    (c_law_factors : PySem.W.codeIn K cd_law_factors "_law_factors" = true)
    (k_law_factors : PySem.W.keepIn K (.ref f_law_factors) = true)
    (a_law_all_functions : PySem.W.nsIn K mainGlobals "_law_all_functions" = some (some (.ref f_law_all_functions)))
    (l_law_all_functions : K.lookup f_law_all_functions = some ⟨oc_law_all_functions, od_law_all_functions, .func (PySem.W.fnOf "_law_all_functions" "_law_all_functions" (defArgs s_law_all_functions) (defBody s_law_all_functions) (defScope s_law_all_functions) .none kV_law_all_functions dc_law_all_functions pm_law_all_functions an_law_all_functions cd_law_all_functions ct_law_all_functions), sl_law_all_functions⟩)
    (c_law_all_functions : PySem.W.codeIn K cd_law_all_functions "_law_all_functions" = true)
    (k_law_all_functions : PySem.W.keepIn K (.ref f_law_all_functions) = true)
    (a_law_some_spots : PySem.W.nsIn K mainGlobals "_law_some_spots" = some (some (.ref f_law_some_spots)))
    (l_law_some_spots : K.lookup f_law_some_spots = some ⟨oc_law_some_spots, od_law_some_spots, .func (PySem.W.fnOf "_law_some_spots" "_law_some_spots" (defArgs s_law_some_spots) (defBody s_law_some_spots) (defScope s_law_some_spots) .none kV_law_some_spots dc_law_some_spots pm_law_some_spots an_law_some_spots cd_law_some_spots ct_law_some_spots), sl_law_some_spots⟩)
    (c_law_some_spots : PySem.W.codeIn K cd_law_some_spots "_law_some_spots" = true)
    (k_law_some_spots : PySem.W.keepIn K (.ref f_law_some_spots) = true)
    (a_law_due : PySem.W.nsIn K mainGlobals "_law_due" = some (some (.ref f_law_due)))
    (l_law_due : K.lookup f_law_due = some ⟨oc_law_due, od_law_due, .func (PySem.W.fnOf "_law_due" "_law_due" (defArgs s_law_due) (defBody s_law_due) (defScope s_law_due) .none kV_law_due dc_law_due pm_law_due an_law_due cd_law_due ct_law_due), sl_law_due⟩)
    (c_law_due : PySem.W.codeIn K cd_law_due "_law_due" = true)
    (k_law_due : PySem.W.keepIn K (.ref f_law_due) = true)
    (a_law : PySem.W.nsIn K mainGlobals "law" = some (some (.ref f_law)))
    (l_law : K.lookup f_law = some ⟨oc_law, od_law, .func (PySem.W.fnOf "law" "law" (defArgs s_law) (defBody s_law) (defScope s_law) .none kV_law dc_law pm_law an_law cd_law ct_law), sl_law⟩)
    (c_law : PySem.W.codeIn K cd_law "law" = true)
    (k_law : PySem.W.keepIn K (.ref f_law) = true)
    (a_Seen : PySem.W.nsIn K mainGlobals "Seen" = some (some (.ref C_Seen)))
    (m_Seen_init : PySem.W.findIn K (.ref C_Seen) "__init__" = some (some (.ref f_Seen_init)))
    (l_Seen_init : K.lookup f_Seen_init = some ⟨oc_Seen_init, od_Seen_init, .func (PySem.W.fnOf "__init__" "Seen.__init__" (defArgs s_Seen_init) (defBody s_Seen_init) (defScope s_Seen_init) .none kV_Seen_init dc_Seen_init pm_Seen_init an_Seen_init cd_Seen_init ct_Seen_init), sl_Seen_init⟩)
    (c_Seen_init : PySem.W.codeIn K cd_Seen_init "Seen.__init__" = true)
    (k_Seen_init : PySem.W.keepIn K (.ref f_Seen_init) = true)
    (i_Seen_init : PySem.W.isFn K (.ref f_Seen_init) = true)
    (m_Seen_sets_by_number : PySem.W.findIn K (.ref C_Seen) "sets_by_number" = some (some (.ref f_Seen_sets_by_number)))
    (l_Seen_sets_by_number : K.lookup f_Seen_sets_by_number = some ⟨oc_Seen_sets_by_number, od_Seen_sets_by_number, .func (PySem.W.fnOf "sets_by_number" "Seen.sets_by_number" (defArgs s_Seen_sets_by_number) (defBody s_Seen_sets_by_number) (defScope s_Seen_sets_by_number) .none kV_Seen_sets_by_number dc_Seen_sets_by_number pm_Seen_sets_by_number an_Seen_sets_by_number cd_Seen_sets_by_number ct_Seen_sets_by_number), sl_Seen_sets_by_number⟩)
    (c_Seen_sets_by_number : PySem.W.codeIn K cd_Seen_sets_by_number "Seen.sets_by_number" = true)
    (k_Seen_sets_by_number : PySem.W.keepIn K (.ref f_Seen_sets_by_number) = true)
    (i_Seen_sets_by_number : PySem.W.isFn K (.ref f_Seen_sets_by_number) = true)
    (m_Seen_odd_at : PySem.W.findIn K (.ref C_Seen) "odd_at" = some (some (.ref f_Seen_odd_at)))
    (l_Seen_odd_at : K.lookup f_Seen_odd_at = some ⟨oc_Seen_odd_at, od_Seen_odd_at, .func (PySem.W.fnOf "odd_at" "Seen.odd_at" (defArgs s_Seen_odd_at) (defBody s_Seen_odd_at) (defScope s_Seen_odd_at) .none kV_Seen_odd_at dc_Seen_odd_at pm_Seen_odd_at an_Seen_odd_at cd_Seen_odd_at ct_Seen_odd_at), sl_Seen_odd_at⟩)
    (c_Seen_odd_at : PySem.W.codeIn K cd_Seen_odd_at "Seen.odd_at" = true)
    (k_Seen_odd_at : PySem.W.keepIn K (.ref f_Seen_odd_at) = true)
    (i_Seen_odd_at : PySem.W.isFn K (.ref f_Seen_odd_at) = true)
    (m_Seen_look : PySem.W.findIn K (.ref C_Seen) "look" = some (some (.ref f_Seen_look)))
    (l_Seen_look : K.lookup f_Seen_look = some ⟨oc_Seen_look, od_Seen_look, .func (PySem.W.fnOf "look" "Seen.look" (defArgs s_Seen_look) (defBody s_Seen_look) (defScope s_Seen_look) .none kV_Seen_look dc_Seen_look pm_Seen_look an_Seen_look cd_Seen_look ct_Seen_look), sl_Seen_look⟩)
    (c_Seen_look : PySem.W.codeIn K cd_Seen_look "Seen.look" = true)
    (k_Seen_look : PySem.W.keepIn K (.ref f_Seen_look) = true)
    (i_Seen_look : PySem.W.isFn K (.ref f_Seen_look) = true)
    (m_Seen_undecided : PySem.W.findIn K (.ref C_Seen) "undecided" = some (some (.ref f_Seen_undecided)))
    (l_Seen_undecided : K.lookup f_Seen_undecided = some ⟨oc_Seen_undecided, od_Seen_undecided, .func (PySem.W.fnOf "undecided" "Seen.undecided" (defArgs s_Seen_undecided) (defBody s_Seen_undecided) (defScope s_Seen_undecided) .none kV_Seen_undecided dc_Seen_undecided pm_Seen_undecided an_Seen_undecided cd_Seen_undecided ct_Seen_undecided), sl_Seen_undecided⟩)
    (c_Seen_undecided : PySem.W.codeIn K cd_Seen_undecided "Seen.undecided" = true)
    (k_Seen_undecided : PySem.W.keepIn K (.ref f_Seen_undecided) = true)
    (i_Seen_undecided : PySem.W.isFn K (.ref f_Seen_undecided) = true)
    (pg_Seen : PySem.W.plainGet K C_Seen Str.empty = true)
    (hd_Seen : PySem.W.hasDictIn K C_Seen = true)
    (po_Seen : PySem.W.plainOver K C_Seen = true)
    (sa_Seen : PySem.W.findIn K (.ref C_Seen) "__setattr__" = some (some (.builtin "object.__setattr__")))
    (mk_Seen : PySem.W.makesIn K C_Seen = true)
    (kc_Seen : PySem.W.keepIn K (.ref C_Seen) = true)
    (ns_loss : PySem.W.findIn K (.ref C_Seen) "loss" = some none)
    (ns_bits : PySem.W.findIn K (.ref C_Seen) "bits" = some none)
    (ns_places : PySem.W.findIn K (.ref C_Seen) "places" = some none)
    (ns_holding : PySem.W.findIn K (.ref C_Seen) "holding" = some none)
    (ns_equations : PySem.W.findIn K (.ref C_Seen) "equations" = some none)
    (ns_kept : PySem.W.findIn K (.ref C_Seen) "kept" = some none)
    (z_len : PySem.W.nsIn K mainGlobals "len" = some none)
    (z_max : PySem.W.nsIn K mainGlobals "max" = some none)
    (z_list : PySem.W.nsIn K mainGlobals "list" = some none)
    (z_tuple : PySem.W.nsIn K mainGlobals "tuple" = some none)
    (z_reversed : PySem.W.nsIn K mainGlobals "reversed" = some none)
    (z_range : PySem.W.nsIn K mainGlobals "range" = some none)
    (z_int : PySem.W.nsIn K mainGlobals "int" = some none)
    (z_str : PySem.W.nsIn K mainGlobals "str" = some none)
    (z_bool : PySem.W.nsIn K mainGlobals "bool" = some none)
    (z_isinstance : PySem.W.nsIn K mainGlobals "isinstance" = some none)
    (z_all : PySem.W.nsIn K mainGlobals "all" = some none)
    (z_enumerate : PySem.W.nsIn K mainGlobals "enumerate" = some none)
    (z_zip : PySem.W.nsIn K mainGlobals "zip" = some none)
    (z_sum : PySem.W.nsIn K mainGlobals "sum" = some none)
    (z_repr : PySem.W.nsIn K mainGlobals "repr" = some none) :
    ∃ fd : FuncData, (∀ (s : Shared) (v : Value), BindsTo s fd ⟨[v], []⟩ [("_law_script", v)]) ∧ ∀ base : Heap, K.In base → base.Ns mainGlobals mg → FnOkG P w K mg base CX0 10 fa fd ["_law_script"] (spLaw K) := by
  have e := hfa.symm.trans (PySem.W.mg_of X G a_law)
  cases e
  refine ⟨PySem.W.fnOf "law" "law" (defArgs s_law) (defBody s_law) (defScope s_law) .none kV_law dc_law pm_law an_law cd_law ct_law, fun s v => .of_eq rfl, fun base _ _ => ?_⟩
  have F_twos := fun_mk (st := s_twos) l_twos c_twos k_twos
  have F_shares := fun_mk (st := s_shares) l_shares c_shares k_shares
  have F_vector_list := fun_mk (st := s_vector_list) l_vector_list c_vector_list k_vector_list
  have F_count_vectors := fun_mk (st := s_count_vectors) l_count_vectors c_count_vectors k_count_vectors
  have F_count_points := fun_mk (st := s_count_points) l_count_points c_count_points k_count_points
  have F_decides := fun_mk (st := s_decides) l_decides c_decides k_decides
  have F_first_enough := fun_mk (st := s_first_enough) l_first_enough c_first_enough k_first_enough
  have F_seen_at := fun_mk (st := s_seen_at) l_seen_at c_seen_at k_seen_at
  have F_highest := fun_mk (st := s_highest) l_highest c_highest k_highest
  have F_law_deal := fun_mk (st := s_law_deal) l_law_deal c_law_deal k_law_deal
  have F_law_draw := fun_mk (st := s_law_draw) l_law_draw c_law_draw k_law_draw
  have F_law_mixed := fun_mk (st := s_law_mixed) l_law_mixed c_law_mixed k_law_mixed
  have F_law_twos := fun_mk (st := s_law_twos) l_law_twos c_law_twos k_law_twos
  have F_law_vectors := fun_mk (st := s_law_vectors) l_law_vectors c_law_vectors k_law_vectors
  have F_law_spots := fun_mk (st := s_law_spots) l_law_spots c_law_spots k_law_spots
  have F_law_class := fun_mk (st := s_law_class) l_law_class c_law_class k_law_class
  have F_law_row := fun_mk (st := s_law_row) l_law_row c_law_row k_law_row
  have F_law_far := fun_mk (st := s_law_far) l_law_far c_law_far k_law_far
  have F_law_small_shape := fun_mk (st := s_law_small_shape) l_law_small_shape c_law_small_shape k_law_small_shape
  have F_law_factors := fun_mk (st := s_law_factors) l_law_factors c_law_factors k_law_factors
  have F_law_all_functions := fun_mk (st := s_law_all_functions) l_law_all_functions c_law_all_functions k_law_all_functions
  have F_law_some_spots := fun_mk (st := s_law_some_spots) l_law_some_spots c_law_some_spots k_law_some_spots
  have F_law_due := fun_mk (st := s_law_due) l_law_due c_law_due k_law_due
  have F_law := fun_mk (st := s_law) l_law c_law k_law
  have F_Seen_init := fun_mk (st := s_Seen_init) l_Seen_init c_Seen_init k_Seen_init
  have F_Seen_sets_by_number := fun_mk (st := s_Seen_sets_by_number) l_Seen_sets_by_number c_Seen_sets_by_number k_Seen_sets_by_number
  have F_Seen_odd_at := fun_mk (st := s_Seen_odd_at) l_Seen_odd_at c_Seen_odd_at k_Seen_odd_at
  have F_Seen_look := fun_mk (st := s_Seen_look) l_Seen_look c_Seen_look k_Seen_look
  have F_Seen_undecided := fun_mk (st := s_Seen_undecided) l_Seen_undecided c_Seen_undecided k_Seen_undecided
  have b_twos := F_twos.binds (ps := ["n"]) fun _ _ _ _ _ _ us hl => match us, hl with | [_], _ => rfl
  have b_shares := F_shares.binds (ps := ["bits"]) fun _ _ _ _ _ _ us hl => match us, hl with | [_], _ => rfl
  have b_vector_list := F_vector_list.binds (ps := ["count", "bits"]) fun _ _ _ _ _ _ us hl => match us, hl with | [_, _], _ => rfl
  have b_count_vectors := F_count_vectors.binds (ps := ["count", "bits"]) fun _ _ _ _ _ _ us hl => match us, hl with | [_, _], _ => rfl
  have b_count_points := F_count_points.binds (ps := ["loss", "bits"]) fun _ _ _ _ _ _ us hl => match us, hl with | [_, _], _ => rfl
  have b_decides := F_decides.binds (ps := ["points", "loss", "bits"]) fun _ _ _ _ _ _ us hl => match us, hl with | [_, _, _], _ => rfl
  have b_first_enough := F_first_enough.binds (ps := ["points", "loss", "bits"]) fun _ _ _ _ _ _ us hl => match us, hl with | [_, _, _], _ => rfl
  have b_seen_at := F_seen_at.binds (ps := ["points", "loss", "bits"]) fun _ _ _ _ _ _ us hl => match us, hl with | [_, _, _], _ => rfl
  have b_highest := F_highest.binds (ps := ["members"]) fun _ _ _ _ _ _ us hl => match us, hl with | [_], _ => rfl
  have b_law_deal := F_law_deal.binds (ps := ["_law_script", "_law_base"]) fun _ _ _ _ _ _ us hl => match us, hl with | [_, _], _ => rfl
  have b_law_draw := F_law_draw.binds (ps := ["_law_deal_here", "_law_many"]) fun _ _ _ _ _ _ us hl => match us, hl with | [_, _], _ => rfl
  have b_law_mixed := F_law_mixed.binds (ps := ["_law_deal_here", "_law_items"]) fun _ _ _ _ _ _ us hl => match us, hl with | [_, _], _ => rfl
  have b_law_twos := F_law_twos.binds (ps := ["_law_number"]) fun _ _ _ _ _ _ us hl => match us, hl with | [_], _ => rfl
  have b_law_vectors := F_law_vectors.binds (ps := ["_law_many", "_law_wide"]) fun _ _ _ _ _ _ us hl => match us, hl with | [_, _], _ => rfl
  have b_law_spots := F_law_spots.binds (ps := ["_law_depths", "_law_wide"]) fun _ _ _ _ _ _ us hl => match us, hl with | [_, _], _ => rfl
  have b_law_class := F_law_class.binds (ps := ["_law_spot", "_law_depths"]) fun _ _ _ _ _ _ us hl => match us, hl with | [_, _], _ => rfl
  have b_law_row := F_law_row.binds (ps := ["_law_top", "_law_many"]) fun _ _ _ _ _ _ us hl => match us, hl with | [_, _], _ => rfl
  have b_law_far := F_law_far.binds (ps := ["_law_deal_here", "_law_many"]) fun _ _ _ _ _ _ us hl => match us, hl with | [_, _], _ => rfl
  have b_law_small_shape := F_law_small_shape.binds (ps := ["_law_deal_here"]) fun _ _ _ _ _ _ us hl => match us, hl with | [_], _ => rfl
  have b_law_factors := F_law_factors.binds (ps := ["_law_depths", "_law_wide", "_law_spot"]) fun _ _ _ _ _ _ us hl => match us, hl with | [_, _, _], _ => rfl
  have b_law_all_functions := F_law_all_functions.binds (ps := ["_law_depths", "_law_wide", "_law_only_top"]) fun _ _ _ _ _ _ us hl => match us, hl with | [_, _, _], _ => rfl
  have b_law_some_spots := F_law_some_spots.binds (ps := ["_law_deal_here", "_law_depths", "_law_wide"]) fun _ _ _ _ _ _ us hl => match us, hl with | [_, _, _], _ => rfl
  have b_law_due := F_law_due.binds (ps := ["_law_depths", "_law_wide", "_law_spots_here", "_law_functions"]) fun _ _ _ _ _ _ us hl => match us, hl with | [_, _, _, _], _ => rfl
  have b_law := F_law.binds (ps := ["_law_script"]) fun _ _ _ _ _ _ us hl => match us, hl with | [_], _ => rfl
  have b_Seen_init := F_Seen_init.binds (ps := ["self", "loss", "bits"]) fun _ _ _ _ _ _ us hl => match us, hl with | [_, _, _], _ => rfl
  have b_Seen_sets_by_number := F_Seen_sets_by_number.binds (ps := ["self", "at"]) fun _ _ _ _ _ _ us hl => match us, hl with | [_, _], _ => rfl
  have b_Seen_odd_at := F_Seen_odd_at.binds (ps := ["self", "place"]) fun _ _ _ _ _ _ us hl => match us, hl with | [_, _], _ => rfl
  have b_Seen_look := F_Seen_look.binds (ps := ["self", "at", "point"]) fun _ _ _ _ _ _ us hl => match us, hl with | [_, _, _], _ => rfl
  have b_Seen_undecided := F_Seen_undecided.binds (ps := ["self"]) fun _ _ _ _ _ _ us hl => match us, hl with | [_], _ => rfl
  have T : Glob mg := ⟨PySem.W.mg_none_of X G z_len, PySem.W.mg_none_of X G z_max, PySem.W.mg_none_of X G z_list, PySem.W.mg_none_of X G z_tuple, PySem.W.mg_none_of X G z_reversed, PySem.W.mg_none_of X G z_range, PySem.W.mg_none_of X G z_int, PySem.W.mg_none_of X G z_str, PySem.W.mg_none_of X G z_bool, PySem.W.mg_none_of X G z_isinstance, PySem.W.mg_none_of X G z_all, PySem.W.mg_none_of X G z_enumerate, PySem.W.mg_none_of X G z_zip⟩
  have gs : mg "sum" = none := PySem.W.mg_none_of X G z_sum
  have cl_Seen : Cls K C_Seen := ⟨pg_Seen, hd_Seen, po_Seen, sa_Seen⟩
  have CS : SeC K C_Seen := ⟨cl_Seen, ns_loss, ns_bits, ns_places, ns_holding, ns_equations, ns_kept⟩
  have D_twos : Df P w K mg base 1 "twos" ["n"] spTwos := ⟨f_twos, _, ok_twos F_twos, PySem.W.mg_of X G a_twos, k_twos, b_twos⟩
  have D_shares : Df P w K mg base 2 "shares" ["bits"] spShares := ⟨f_shares, _, ok_shares F_shares T D_twos, PySem.W.mg_of X G a_shares, k_shares, b_shares⟩
  have D_count_vectors : Df P w K mg base 3 "count_vectors" ["count", "bits"] spCountV := ⟨f_count_vectors, _, ok_count_vectors F_count_vectors T gs D_shares, PySem.W.mg_of X G a_count_vectors, k_count_vectors, b_count_vectors⟩
  have D_count_points : Df P w K mg base 4 "count_points" ["loss", "bits"] spCountQ := ⟨f_count_points, _, ok_count_points F_count_points T gs D_count_vectors, PySem.W.mg_of X G a_count_points, k_count_points, b_count_points⟩
  have D_highest : Df P w K mg base 1 "highest" ["members"] spHigh := ⟨f_highest, _, ok_highest F_highest, PySem.W.mg_of X G a_highest, k_highest, b_highest⟩
  have D_vector_list : Df P w K mg base 5 "vector_list" ["count", "bits"] spVec12 := ⟨f_vector_list, _, ok_vec12b (ok_vector_list F_vector_list T D_shares (PySem.W.mg_of X G a_vector_list) k_vector_list b_vector_list), PySem.W.mg_of X G a_vector_list, k_vector_list, b_vector_list⟩
  have MS : Mt P w K mg base C_Seen 1 "sets_by_number" ["self", "at"] (spSets C_Seen) := ⟨f_Seen_sets_by_number, _, ⟨m_Seen_sets_by_number, i_Seen_sets_by_number, k_Seen_sets_by_number⟩, ok_Seen_sets_by_number F_Seen_sets_by_number T CS, b_Seen_sets_by_number⟩
  have MO : Mt P w K mg base C_Seen 1 "odd_at" ["self", "place"] (spOdd C_Seen) := ⟨f_Seen_odd_at, _, ⟨m_Seen_odd_at, i_Seen_odd_at, k_Seen_odd_at⟩, ok_Seen_odd_at F_Seen_odd_at T gs CS, b_Seen_odd_at⟩
  have ML : Mt P w K mg base C_Seen 2 "look" ["self", "at", "point"] (spLook C_Seen) := ⟨f_Seen_look, _, ⟨m_Seen_look, i_Seen_look, k_Seen_look⟩, ok_Seen_look F_Seen_look T CS D_highest MO, b_Seen_look⟩
  have MU : Mt P w K mg base C_Seen 1 "undecided" ["self"] (spUndec C_Seen) := ⟨f_Seen_undecided, _, ⟨m_Seen_undecided, i_Seen_undecided, k_Seen_undecided⟩, ok_Seen_undecided F_Seen_undecided T CS, b_Seen_undecided⟩
  have SX : SeX P w K mg base C_Seen := ⟨f_Seen_init, _, ⟨mk_Seen, m_Seen_init, i_Seen_init, kc_Seen⟩, ok_Seen_init F_Seen_init T CS gs (PySem.W.mg_of X G a_MP) D_count_points D_vector_list MS, PySem.W.mg_of X G a_Seen, b_Seen_init, cl_Seen⟩
  have D_seen_at : Df P w K mg base 8 "seen_at" ["points", "loss", "bits"] (spSeenAt C_Seen) := ⟨f_seen_at, _, ok_seen_at F_seen_at T SX ML, PySem.W.mg_of X G a_seen_at, k_seen_at, b_seen_at⟩
  have D_decides : Df P w K mg base 9 "decides" ["points", "loss", "bits"] spDec := ⟨f_decides, _, ok_decides F_decides CS D_seen_at MU, PySem.W.mg_of X G a_decides, k_decides, b_decides⟩
  have D_first_enough : Df P w K mg base 9 "first_enough" ["points", "loss", "bits"] spFirst := ⟨f_first_enough, _, ok_first_enough F_first_enough T CS D_seen_at MU, PySem.W.mg_of X G a_first_enough, k_first_enough, b_first_enough⟩
  have D_law_deal : Df P w K mg base 1 "_law_deal" ["_law_script", "_law_base"] (spDeal K) := ⟨f_law_deal, _, ok_law_deal F_law_deal T, PySem.W.mg_of X G a_law_deal, k_law_deal, b_law_deal⟩
  have D_law_draw : Df P w K mg base 1 "_law_draw" ["_law_deal_here", "_law_many"] spDraw := ⟨f_law_draw, _, ok_law_draw F_law_draw T, PySem.W.mg_of X G a_law_draw, k_law_draw, b_law_draw⟩
  have D_law_mixed : Df P w K mg base 2 "_law_mixed" ["_law_deal_here", "_law_items"] spMix := ⟨f_law_mixed, _, ok_law_mixed F_law_mixed T D_law_draw, PySem.W.mg_of X G a_law_mixed, k_law_mixed, b_law_mixed⟩
  have D_law_twos : Df P w K mg base 1 "_law_twos" ["_law_number"] spTw := ⟨f_law_twos, _, ok_law_twos F_law_twos, PySem.W.mg_of X G a_law_twos, k_law_twos, b_law_twos⟩
  have D_law_vectors : Df P w K mg base 4 "_law_vectors" ["_law_many", "_law_wide"] spVec12 := ⟨f_law_vectors, _, ok_law_vec12 (ok_law_vectors F_law_vectors T D_law_twos (PySem.W.mg_of X G a_law_vectors) k_law_vectors b_law_vectors), PySem.W.mg_of X G a_law_vectors, k_law_vectors, b_law_vectors⟩
  have D_law_spots : Df P w K mg base 5 "_law_spots" ["_law_depths", "_law_wide"] spSpots := ⟨f_law_spots, _, ok_law_spots F_law_spots T D_law_vectors, PySem.W.mg_of X G a_law_spots, k_law_spots, b_law_spots⟩
  have D_law_class : Df P w K mg base 1 "_law_class" ["_law_spot", "_law_depths"] spClass := ⟨f_law_class, _, ok_law_class F_law_class T, PySem.W.mg_of X G a_law_class, k_law_class, b_law_class⟩
  have D_law_row : Df P w K mg base 1 "_law_row" ["_law_top", "_law_many"] spBin := ⟨f_law_row, _, ok_law_row F_law_row T, PySem.W.mg_of X G a_law_row, k_law_row, b_law_row⟩
  have D_law_far : Df P w K mg base 2 "_law_far" ["_law_deal_here", "_law_many"] spFar := ⟨f_law_far, _, ok_law_far F_law_far T D_law_draw, PySem.W.mg_of X G a_law_far, k_law_far, b_law_far⟩
  have D_law_small_shape : Df P w K mg base 2 "_law_small_shape" ["_law_deal_here"] spShp := ⟨f_law_small_shape, _, ok_law_small_shape F_law_small_shape D_law_draw, PySem.W.mg_of X G a_law_small_shape, k_law_small_shape, b_law_small_shape⟩
  have D_law_factors : Df P w K mg base 5 "_law_factors" ["_law_depths", "_law_wide", "_law_spot"] spFac := ⟨f_law_factors, _, ok_law_factors F_law_factors T gs D_law_class D_law_vectors D_law_row, PySem.W.mg_of X G a_law_factors, k_law_factors, b_law_factors⟩
  have D_law_all_functions : Df P w K mg base 5 "_law_all_functions" ["_law_depths", "_law_wide", "_law_only_top"] spAll := ⟨f_law_all_functions, _, ok_law_all_functions F_law_all_functions T gs D_law_vectors D_law_twos, PySem.W.mg_of X G a_law_all_functions, k_law_all_functions, b_law_all_functions⟩
  have D_law_some_spots : Df P w K mg base 6 "_law_some_spots" ["_law_deal_here", "_law_depths", "_law_wide"] spSs := ⟨f_law_some_spots, _, ok_law_some_spots F_law_some_spots T D_law_mixed D_law_spots D_law_far D_law_draw, PySem.W.mg_of X G a_law_some_spots, k_law_some_spots, b_law_some_spots⟩
  have D_law_due : Df P w K mg base 6 "_law_due" ["_law_depths", "_law_wide", "_law_spots_here", "_law_functions"] spDue := ⟨f_law_due, _, ok_law_due F_law_due T gs D_law_factors, PySem.W.mg_of X G a_law_due, k_law_due, b_law_due⟩
  exact ok_law F_law T (PySem.W.mg_none_of X G z_repr) D_law_deal D_law_draw D_law_small_shape D_law_all_functions D_law_spots D_law_some_spots D_first_enough D_decides D_law_due
end My

set_option Elab.async false
set_option linter.all false
set_option maxRecDepth 100000
set_option maxHeartbeats 1000000
namespace My
open PySem L2 MyR
theorem walk {l : PySem.W.OpenLaw} {q : Program} {loose : List Str} {XP : (Str → Option Value) → Heap → Prop} {YP : World → Heap → Prop} {d : DefRec} {K : Params → PySem.W.Frag} (hn : l.most = some 63) (hdf : d.params.defaults = [])
    (hY : ∀ (w : World) (h : Heap), YP w h → (K w.params).In h)
    (F : ∀ (w : World) (mg : Str → Option Value) (fa : Addr) (h : Heap), (K w.params).In h → h.Ns mainGlobals mg → mg d.name = some (.ref fa) →
      ∃ fd : FuncData, (∀ (s : Shared) (u : Value), BindsTo s fd ⟨[u], []⟩ [("_law_script", u)]) ∧ ∀ base : Heap, (K w.params).In base → base.Ns mainGlobals mg → FnOkG l.prog w (K w.params) mg base CX0 10 fa fd ["_law_script"] (spLaw (K w.params))) :
    PySem.W.WalkO q loose XP YP l.row.toRowW d [] (fun f vs => PySem.call f vs) :=
  walk_ofG (n := 63) (k := 10) (x := "_law_script") (CX := fun _ => CX0) (sp := fun w => spLaw (K w.params)) hn (by decide) hdf ⟨rfl, by decide, by decide⟩ hY F (fun _ _ a ns hl _ hS => ⟨a, ns, rfl, hS, hl, fun _ => rfl⟩) fun _ _ _ _ _ z => z
end My
open PySem PySem.W PyProof.Rows
set_option pp.maxSteps 300 in
set_option maxRecDepth 100000 in
set_option maxHeartbeats 0 in
theorem PySem.Challenge.cw_lowsure_k37_points_that_are_enough_holds : PySem.Challenge.rw_lowsure_k37_points_that_are_enough.Holds := by
  w_on; o_law; k_head; (case hw => w_witness2)
  k_fill
  refine My.walk (l := PySem.Challenge.rw_lowsure_k37_points_that_are_enough) rfl rfl (fun w h Y => PySem.W.kIn_of Y) ?F
  case F =>
    intro w mg fa h KX G hmg
    refine' My.all_mk KX G hmg ?a_MP ?a_twos ?l_twos ?c_twos ?k_twos ?a_shares ?l_shares ?c_shares ?k_shares ?a_vector_list ?l_vector_list ?c_vector_list ?k_vector_list ?a_count_vectors ?l_count_vectors ?c_count_vectors ?k_count_vectors ?a_count_points ?l_count_points ?c_count_points ?k_count_points ?a_decides ?l_decides ?c_decides ?k_decides ?a_first_enough ?l_first_enough ?c_first_enough ?k_first_enough ?a_seen_at ?l_seen_at ?c_seen_at ?k_seen_at ?a_highest ?l_highest ?c_highest ?k_highest ?a_law_deal ?l_law_deal ?c_law_deal ?k_law_deal ?a_law_draw ?l_law_draw ?c_law_draw ?k_law_draw ?a_law_mixed ?l_law_mixed ?c_law_mixed ?k_law_mixed ?a_law_twos ?l_law_twos ?c_law_twos ?k_law_twos ?a_law_vectors ?l_law_vectors ?c_law_vectors ?k_law_vectors ?a_law_spots ?l_law_spots ?c_law_spots ?k_law_spots ?a_law_class ?l_law_class ?c_law_class ?k_law_class ?a_law_row ?l_law_row ?c_law_row ?k_law_row ?a_law_far ?l_law_far ?c_law_far ?k_law_far ?a_law_small_shape ?l_law_small_shape ?c_law_small_shape ?k_law_small_shape ?a_law_factors ?l_law_factors ?c_law_factors ?k_law_factors ?a_law_all_functions ?l_law_all_functions ?c_law_all_functions ?k_law_all_functions ?a_law_some_spots ?l_law_some_spots ?c_law_some_spots ?k_law_some_spots ?a_law_due ?l_law_due ?c_law_due ?k_law_due ?a_law ?l_law ?c_law ?k_law ?a_Seen ?m_Seen_init ?l_Seen_init ?c_Seen_init ?k_Seen_init ?i_Seen_init ?m_Seen_sets_by_number ?l_Seen_sets_by_number ?c_Seen_sets_by_number ?k_Seen_sets_by_number ?i_Seen_sets_by_number ?m_Seen_odd_at ?l_Seen_odd_at ?c_Seen_odd_at ?k_Seen_odd_at ?i_Seen_odd_at ?m_Seen_look ?l_Seen_look ?c_Seen_look ?k_Seen_look ?i_Seen_look ?m_Seen_undecided ?l_Seen_undecided ?c_Seen_undecided ?k_Seen_undecided ?i_Seen_undecided ?pg_Seen ?hd_Seen ?po_Seen ?sa_Seen ?mk_Seen ?kc_Seen ?ns_loss ?ns_bits ?ns_places ?ns_holding ?ns_equations ?ns_kept ?z_len ?z_max ?z_list ?z_tuple ?z_reversed ?z_range ?z_int ?z_str ?z_bool ?z_isinstance ?z_all ?z_enumerate ?z_zip ?z_sum ?z_repr
    (case a_MP => k_is)
    (case a_twos => k_is)
    (case l_twos => k_is)
    (case c_twos => k_is)
    (case k_twos => k_is)
    (case a_shares => k_is)
    (case l_shares => k_is)
    (case c_shares => k_is)
    (case k_shares => k_is)
    (case a_vector_list => k_is)
    (case l_vector_list => k_is)
    (case c_vector_list => k_is)
    (case k_vector_list => k_is)
    (case a_count_vectors => k_is)
    (case l_count_vectors => k_is)
    (case c_count_vectors => k_is)
    (case k_count_vectors => k_is)
    (case a_count_points => k_is)
    (case l_count_points => k_is)
    (case c_count_points => k_is)
    (case k_count_points => k_is)
    (case a_decides => k_is)
    (case l_decides => k_is)
    (case c_decides => k_is)
    (case k_decides => k_is)
    (case a_first_enough => k_is)
    (case l_first_enough => k_is)
    (case c_first_enough => k_is)
    (case k_first_enough => k_is)
    (case a_seen_at => k_is)
    (case l_seen_at => k_is)
    (case c_seen_at => k_is)
    (case k_seen_at => k_is)
    (case a_highest => k_is)
    (case l_highest => k_is)
    (case c_highest => k_is)
    (case k_highest => k_is)
    (case a_law_deal => k_is)
    (case l_law_deal => k_is)
    (case c_law_deal => k_is)
    (case k_law_deal => k_is)
    (case a_law_draw => k_is)
    (case l_law_draw => k_is)
    (case c_law_draw => k_is)
    (case k_law_draw => k_is)
    (case a_law_mixed => k_is)
    (case l_law_mixed => k_is)
    (case c_law_mixed => k_is)
    (case k_law_mixed => k_is)
    (case a_law_twos => k_is)
    (case l_law_twos => k_is)
    (case c_law_twos => k_is)
    (case k_law_twos => k_is)
    (case a_law_vectors => k_is)
    (case l_law_vectors => k_is)
    (case c_law_vectors => k_is)
    (case k_law_vectors => k_is)
    (case a_law_spots => k_is)
    (case l_law_spots => k_is)
    (case c_law_spots => k_is)
    (case k_law_spots => k_is)
    (case a_law_class => k_is)
    (case l_law_class => k_is)
    (case c_law_class => k_is)
    (case k_law_class => k_is)
    (case a_law_row => k_is)
    (case l_law_row => k_is)
    (case c_law_row => k_is)
    (case k_law_row => k_is)
    (case a_law_far => k_is)
    (case l_law_far => k_is)
    (case c_law_far => k_is)
    (case k_law_far => k_is)
    (case a_law_small_shape => k_is)
    (case l_law_small_shape => k_is)
    (case c_law_small_shape => k_is)
    (case k_law_small_shape => k_is)
    (case a_law_factors => k_is)
    (case l_law_factors => k_is)
    (case c_law_factors => k_is)
    (case k_law_factors => k_is)
    (case a_law_all_functions => k_is)
    (case l_law_all_functions => k_is)
    (case c_law_all_functions => k_is)
    (case k_law_all_functions => k_is)
    (case a_law_some_spots => k_is)
    (case l_law_some_spots => k_is)
    (case c_law_some_spots => k_is)
    (case k_law_some_spots => k_is)
    (case a_law_due => k_is)
    (case l_law_due => k_is)
    (case c_law_due => k_is)
    (case k_law_due => k_is)
    (case a_law => k_is)
    (case l_law => k_is)
    (case c_law => k_is)
    (case k_law => k_is)
    (case a_Seen => k_is)
    (case m_Seen_init => k_is)
    (case l_Seen_init => k_is)
    (case c_Seen_init => k_is)
    (case k_Seen_init => k_is)
    (case i_Seen_init => k_is)
    (case m_Seen_sets_by_number => k_is)
    (case l_Seen_sets_by_number => k_is)
    (case c_Seen_sets_by_number => k_is)
    (case k_Seen_sets_by_number => k_is)
    (case i_Seen_sets_by_number => k_is)
    (case m_Seen_odd_at => k_is)
    (case l_Seen_odd_at => k_is)
    (case c_Seen_odd_at => k_is)
    (case k_Seen_odd_at => k_is)
    (case i_Seen_odd_at => k_is)
    (case m_Seen_look => k_is)
    (case l_Seen_look => k_is)
    (case c_Seen_look => k_is)
    (case k_Seen_look => k_is)
    (case i_Seen_look => k_is)
    (case m_Seen_undecided => k_is)
    (case l_Seen_undecided => k_is)
    (case c_Seen_undecided => k_is)
    (case k_Seen_undecided => k_is)
    (case i_Seen_undecided => k_is)
    (case pg_Seen => k_is)
    (case hd_Seen => k_is)
    (case po_Seen => k_is)
    (case sa_Seen => k_is)
    (case mk_Seen => k_is)
    (case kc_Seen => k_is)
    (case ns_loss => k_is)
    (case ns_bits => k_is)
    (case ns_places => k_is)
    (case ns_holding => k_is)
    (case ns_equations => k_is)
    (case ns_kept => k_is)
    (case z_len => k_is)
    (case z_max => k_is)
    (case z_list => k_is)
    (case z_tuple => k_is)
    (case z_reversed => k_is)
    (case z_range => k_is)
    (case z_int => k_is)
    (case z_str => k_is)
    (case z_bool => k_is)
    (case z_isinstance => k_is)
    (case z_all => k_is)
    (case z_enumerate => k_is)
    (case z_zip => k_is)
    (case z_sum => k_is)
    (case z_repr => k_is)
